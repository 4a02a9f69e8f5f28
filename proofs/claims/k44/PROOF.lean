import PyProof.Rows.All
import Wide.All
import OpenK.AllK
import Wide.FinOn
import Lean
import PyProof.EqAt
import PyProof.EqKinds
import PyProof.TupleCall
import KE.KIntText
import PyProof.ConsumeWalk
import PySem.Challenge.RW_mapround_k44_whole_bridges_and_lands
set_option Elab.async false
set_option linter.all false
set_option maxRecDepth 100000
set_option maxHeartbeats 4000000
open Option renaming bind_eq_some_iff->oBq,map_eq_some_iff->oMq
open List renaming getElem?_eq_some_iff->gSq,getElem?_eq_getElem->gEg,getD_eq_getElem?_getD->gDq,length_append->lAq,length_map->lMq,mem_append->mAq,mem_flatten->mFq,mem_map->mMq,getElem?_map->gMq,mem_of_getElem?->mGq,map_congr_left->mCq,getElem_mem->gRq,length_singleton->lSq,mem_singleton->mSq,length_take->lTq,nodup_append->nAq,append_nil->aNq,flatten_append->fAq,getElem?_append_right->gYq,getElem?_append_left->gZq,length_cons->lCq,map_map->mPq,map_append->mBq,mem_cons_of_mem->mCo,length_set->lZq,flatten_cons->fCq,count_append->cAq,mem_cons->Rl,append_assoc->Rn,nodup_cons->Rp,mem_cons_self->Rq,map_cons->Ru,mem_iff_getElem?->Rv,nodup_iff_pairwise_ne->Rw,getElem?_set_ne->Ry,getElem?_set_self->Rz,mem_append_right->RB,Pairwise->RC,sublist_flatten_of_mem->RE,size_toArray->RH,length_drop->RL,pairwise_append->RN,mem_filter->RP,drop_eq_getElem_cons->RS,pairwise_map->RW,count_pos_iff->RX,take_length->RY,take_append_drop->R5,length_range->R6,nodup_nil->R7,countP_eq_length_filter->R8,length_eq_zero_iff->R9,take_sublist->Sa,perm_append_comm->Sb,getElem?_eq_none->Se,flatten_singleton->Sf,range->Sg,perm_ext_iff_of_nodup->Si,count_cons->Sj,mem_of_mem_drop->So,filter_sublist->Sr,foldl_cons->Ss,getElem?_set->Su,mem_of_mem_take->Sv,reduceReplicate->Sw,filter_cons_of_pos->Sy,nil_append->Sz,mem_flatMap->SC,replicate->SD,count_nil->SE,length_eq_countP_add_countP->SG,eraseIdx_cons_succ->SI,filter_cons_of_neg->SJ,mem_append_left->SN,Perm->SU,nodup_iff_count->SV,mem_reverse->SW,countP_cons->SZ,take_of_length_le->S0,drop_sublist->S4,Sublist->S5,length->S6,length_filter_le->S7,drop_eq_nil_of_le->Tc,pairwise_iff_getElem->Tg,pairwise_cons->To,set_cons_zero->Tp,mem_range->Tq,mem_iff_getElem->Ts,dropLast_concat->Tu,getElem?_replicate->Tw,reverse_append->TC,getElem?_range->TF,perm_iff_count->TH,cons_append->TK,find?_cons_of_neg->TL,append_eq_nil_iff->TM,set_cons_succ->TN,append_of_mem->TQ,map_id->TR,length_nil->TU,any_cons->TX,take_add_one->TZ,ext_getElem?->T1,mem_or_eq_of_mem_set->T3,getElem?_zip_eq_some->T4,findIdx_lt_length_of_exists->T5,take_succ_eq_append_getElem->T6,getElem?_take_of_lt->T7,eq_of_mem_replicate->T8,drop_length->T9,set_set->Uc,getElem?_drop->Ud,find?_cons->Ue,find?_cons_of_pos->Uh,count_eq_zero_of_not_mem->Uj,eq_nil_or_concat->Uo,concat_eq_append->Up,count_cons_of_ne->Uq,length_eraseIdx->Ur,extract_eq_take_drop->Uu,filter_map->Uw,eraseIdx_cons_zero->UB,flatten_eq_nil_iff->UC,getLast?_singleton->UD,drop_zero->UE,getElem_drop->UF,eraseIdx_append_of_length_le->UG,foldl_append->UI,flatMap_cons->UJ,length_pos_of_mem->UK,drop_of_length_le->UL,eraseIdxIfInBounds_toArray->UM,set_getElem_self->UR,nodup_range->UT,min?_eq_some_iff->UU,reverse_reverse->UW,findIdx_getElem->UX,count_cons_self->UY,getLast?_append->UZ,map_nil->U2,filterMap_cons->U7,length_pos_iff->U8,flatMap_append->U9,dropLast_concat_getLast->Va,getElem?_concat_length->Vb,zip_cons_cons->Vd,count_eq_zero->Ve,getElem_take->Vi,find?_isSome->Vj,count_replicate_self->Vk,filter_congr->Vl,sublist_append_right->Vm,idxOf_lt_length_iff->Vn,length_erase_of_mem->Vo,not_mem_nil->Vs,all_eq_true->Vt,any_eq_true->Vu,pairwise_mergeSort->Vx,getElem?_cons_zero->Vz,of_mem_zip->VA,length_zip->VC,pairwise_lt_range->VD,length_replicate->VF,cons->VG,set_append_right->VH,getElem?_zipWith->VI,mem_of_mem_erase->VM,flatten_flatten->VR,all_cons->VS,mergeSort_perm->VU,replicate_succ->VW,map_take->VX,mem_filterMap->VY,getElem_idxOf->VZ,forIn_toArray->V0,map_replicate->V1,count_reverse->V2,filter_append->V3,getElem?_inj->V8,countP_congr->Wa,drop_append->Wf,append_inj'->Wj,forIn_cons->Wp,take_zero->Wr,forIn_nil->Wu,zipWith->Wz,any_map->WA
open And renaming intro->Rj
open Nat renaming le_refl->Rk,ne_of_lt->RI,lt_of_lt_of_le->RV,zero_le->Sl,lt_succ_iff_lt_or_eq->Sx,zero_add->SB,reduceEqDiff->SX,reduceLeDiff->SY,le_trans->S9,not_lt_zero->Tb,le_of_lt->Te,ne_of_gt->Tf,reduceAdd->Th,reduceSub->Ti,le_succ->Tz,sub_self->TB,lt_irrefl->TV,lt_succ_of_lt->TY,min_eq_left->Ug,mod_eq_of_lt->Ut,add_one_sub_one->Uv,lt_or_eq_of_le->Ux,add_sub_cancel_left->UA,lt_succ_self->UN,add_assoc->UP,lt_add_right->US,strongRecOn->U0,le_of_eq->U3,mod_self->U5,pos_of_ne_zero->Vc,add_zero->Vv,add_comm->Vy,le_of_lt_succ->V5,lt_trichotomy->V6,le_of_not_lt->We,max_eq_right->Wg,min_eq_right->Wh,le_add_right->Wi,succ_pos->Wy,sub_zero->WB
open Array renaming getElem?_eq_getElem->Rm,length_toList->RA,getElem?_toList->RJ,toList_append->RO,getElem_mem->Sd,getElem?_eq_some_iff->Sh,toList_reverse->Tt,toList_push->Um,size_extract->Uy,toList_extract->UV,toList_setIfInBounds->Vg,getElem?_extract->VB,mem_toList_iff->VP,toArray_toList->VQ,getD->VT,Perm->Wq,size_map->Wt
open PySem.Heap renaming lt_size->Ro,get?_push_of_some->Rr,get?_push_size->Sk,get?_update_ne->Ua,size_update->Us,get?_push_ne->UH,SameBut->U1,size_push->Ws,DictOf->WE
open PySem.F renaming plainAttrs_list->Rx,slot_list_append->RT,type_list_append->RU,slot_list_pop->Tj,type_list_pop->Tn,slot_list_extend->Vp,type_list_extend->Vq,slot_list_index->Vw
open Option renaming some->RD,map_some->Td,isSome_map->Ul,getD_some->UQ,some_or->VO,getD_none->Wc,none->WG
open Sum renaming inl->RF,inr->Vh
open Bool renaming false_ne_true->RG,eq_iff_iff->RZ,and_eq_true->TJ,not_eq_true->Ub,false_eq_true->Uz,false_and->VN,not_eq_true'->V7,or_eq_true->Wo
open Or renaming inr->RK,inl->RM
open Classical renaming propDecidable->RQ,not_not->V9
open Int renaming neg_neg->Sm,emod_nonneg->Sn,emod_lt_of_pos->Sq,toNat_natCast->Tv,le_refl->UO,le_of_lt->U4,fdiv_eq_ediv_of_nonneg->Vf,toNat->VL,zero_add->V4,mul_one->Wb
open PySem.Value renaming ref->S8,bool->U6,type->Vr,int->VE,isStrOf->Ww,str->Wx,isInt->WD,none->WJ
open PyProof.Rows renaming callWith_type1->Ta,boot_sorted->Tr,boot_list->Ui,boot_isinstance->Uk,boot_all->VJ,callWith_builtin1->Wk,eq_dataH_same->Wv,boot_bool->WC,boot_min->WH,boot_int->WI,lt_int->WK
open Prod renaming ext->Wn
noncomputable section
open Array renaming mem_of_getElem?->aQq
namespace L2
open PySem PySem.Spec PyProof.Rows
abbrev aN:=Sum Int Str
def uR:aN->Value->Bool
 | .inl k,v=>WD k v
 | .inr x,v=>Ww x v
def PJ(w:World):aN->Int
 | .inl k=>hashInt k
 | .inr x=>hashStr w x
theorem bX:∀{k:aN}{v:Value},uR k v=true->(∃i t,k=RF i/\v=VE i t)∨(∃x t,k=Vh x/\v=Wx x t)
 | .inl i,v,h=>by
  obtain⟨t,e⟩:=Value.isInt_shape (k:=i) (v:=v) h;exact .inl ⟨i,t,rfl,e⟩
 | .inr x,v,h=>by
  obtain⟨t,e⟩:=Value.isStrOf_shape (x:=x) (v:=v) h;exact .inr ⟨x,t,rfl,e⟩
theorem vh(i:Int) (t:Tok):uR (.inl i) (.int i t)=true:=by simp[uR,WD]
theorem C5(x:Str) (t:Tok):uR (.inr x) (.str x t)=true:=by simp[uR,Ww]
theorem La(a b:Int):decide ((RF a:aN)=RF b)=(a == b):=by
 by_cases e:a=b
 .subst e;simp
 .have h:¬ (RF a:aN)=RF b:=fun q=>e (RF.inj q)
  rw[decide_eq_false h];exact(beq_eq_false_iff_ne.mpr e).symm
theorem Lx(a b:Str):decide ((Vh a:aN)=Vh b)=decide (a=b):=by
 by_cases e:a=b
 .subst e;simp
 .have h:¬ (Vh a:aN)=Vh b:=fun q=>e (Vh.inj q)
  rw[decide_eq_false h,decide_eq_false e]
theorem KM(a:Int) (b:Str):decide ((RF a:aN)=Vh b)=false:=decide_eq_false (fun q=>nomatch q)
theorem L3(a:Str) (b:Int):decide ((Vh a:aN)=RF b)=false:=decide_eq_false (fun q=>nomatch q)
def bZ(prog:Program) (w:World):PySem.KeyKind prog w aN where
 is:=uR
 hash:=PJ w
 inj:=fun v a b ha hb=>by
  rcases bX ha with ⟨i,t,rfl,rfl⟩|⟨x,t,rfl,rfl⟩
  .rcases bX hb with ⟨j,u,rfl,e⟩|⟨y,u,rfl,e⟩
   .injection e with e1 _;rw[e1]
   .exact nomatch e
  .rcases bX hb with ⟨j,u,rfl,e⟩|⟨y,u,rfl,e⟩
   .exact nomatch e
   .injection e with e1 _;rw[e1]
 byValue:=fun k v h=>by
  rcases bX h with ⟨i,t,rfl,rfl⟩|⟨x,t,rfl,rfl⟩ <;> rfl
 pyHash:=fun hv h=>by
  rcases bX hv with ⟨i,t,rfl,rfl⟩|⟨x,t,rfl,rfl⟩
  .exact wpAny_pyHash_int h
  .exact wpAny_pyHash_str h
 eqBool:=fun hu hv h=>by
  rcases bX hu with ⟨i,t,rfl,rfl⟩|⟨x,t,rfl,rfl⟩
  .rcases bX hv with ⟨j,u,rfl,rfl⟩|⟨y,u,rfl,rfl⟩
   .rw [La]at h;exact wpAny_eqBool_int h
   .rw [KM]at h;exact SeqAt.EqAt.int_str i t y u _ _ _ _ h
  .rcases bX hv with ⟨j,u,rfl,rfl⟩|⟨y,u,rfl,rfl⟩
   .rw [L3]at h;exact SeqAt.EqAt.str_int x t j u _ _ _ _ h
   .rw [Lx]at h;exact wpAny_eqBool_str h
 «strs»:=fun k x t v h=>by
  rcases bX h with ⟨i,u,rfl,e⟩|⟨y,u,rfl,e⟩
  .exact nomatch e
  .injection e with e1 _
   subst e1;cases v <;> rfl
theorem yA(prog:Program) (w:World) (i:Int) (t:Tok):(bZ prog w).is (.inl i) (.int i t)=true:=vh i t
theorem xI(prog:Program) (w:World) (x:Str) (t:Tok):(bZ prog w).is (.inr x) (.str x t)=true:=C5 x t
inductive V where
 |non|bl (b:Bool)|int (i:Int)|str (x:Str)|byt (b:Array UInt8)|flt (b:UInt64)|ref (a:Addr)|ty (n:String)
 deriving DecidableEq
def bR:V->Value->Prop
 | .non,u=>u=WJ
 | .bl b,u=>u=U6 b
 | .int i,u=>∃t,u=VE i t
 | .str x,u=>∃t,u=Wx x t
 | .byt b,u=>∃t,u=Value.bytes b t
 | .flt b,u=>∃t,u=Value.float b t
 | .ref a,u=>u=S8 a
 | .ty n,u=>u=Vr n
abbrev bo:List V->List Value->Prop:=Paired bR
theorem bo.length{xs:List V}{us:List Value}(r:bo xs us):xs.length=us.length:=Paired.length r
theorem bo.get:∀{xs:List V}{us:List Value}{i:Nat}{x:V},bo xs us->xs[i]?=some x->∃u,us[i]?=some u/\bR x u
 |_,_,_,_,.nil,e=>by simp at e
 |_,_,0,_,.cons r _,e=>by simp at e;subst e;exact⟨_,rfl,r⟩
 |_,_,i+1,x,.cons _ t,e=>by
  obtain⟨u,h1,h2⟩:=bo.get (i:=i) (x:=x) t (by simpa using e)
  exact⟨u,by simpa using h1,h2⟩
theorem bo.set{x:V}{u:Value}(r:bR x u):∀{xs:List V}{us:List Value}(i:Nat),bo xs us->bo (xs.set i x) (us.set i u)
 |_,_,_,.nil=>.nil
 |_,_,0,.cons _ t=>.cons r t
 |_,_,i+1,.cons q t=>.cons q (bo.set r i t)
theorem bo.append:∀{xs ys:List V}{us ws:List Value},bo xs us->bo ys ws->bo (xs++ys) (us++ws)
 |_,_,_,_,.nil,s=>s
 |_,_,_,_,.cons r t,s=>.cons r (bo.append t s)
theorem bo.take:∀{xs:List V}{us:List Value}(n:Nat),bo xs us->bo (xs.take n) (us.take n)
 |_,_,0,_=>.nil
 |_,_,_+1,.nil=>.nil
 |_,_,n+1,.cons r t=>.cons r (bo.take n t)
theorem bo.drop:∀{xs:List V}{us:List Value}(n:Nat),bo xs us->bo (xs.drop n) (us.drop n)
 |_,_,0,r=>r
 |_,_,_+1,.nil=>.nil
 |_,_,n+1,.cons _ t=>bo.drop n t
def uM:Option V->Option Value->Prop
 |some v,some u=>bR v u
 |none,none=>True
 |_,_=>False
def KV{κ:Type}:List (κ×V)->List (κ×Value)->Prop:=Paired fun(p:κ×V) (q:κ×Value)=>p.1=q.1/\bR p.2 q.2
def kV:aN->V
 | .inl i=>.int i
 | .inr x=>.str x
inductive HO where
 /-- a list -/
 |lst (xs:List V)
 /-- a tuple (never changes) -/
 |tup (xs:List V)
 /-- a dict whose keys are ints and texts;one whose keys are tuples of ints and texts (the empty one is both) -/
 |dK (kvs:List (aN×V))|dT (kvs:List (List aN×V))
 /-- a set of ints: its members,its size -/
 |set (S:Int->Bool) (n:Nat)
 /-- an instance of the class at C,its dict at dx,its attributes -/
 |ins (C dx:Addr) (fs:List (Str×V))
 /-- the dict of the instance at x -/
 |own (x:Addr)
 /-- the dict of an exception -/
 |xd (fs:List (Str×V))
 /-- a bound method,f of x -/
 |met (f x:Addr)
 /-- a range object lo,lo+1,.. below hi -/
 |rng (lo hi:Int)
 /-- a thing that is known to the object (the script;a dict while a loop walks it): read,never written while it is so -/
 |frz (o:Obj) (u:HO)
 /-- a code object's table -/
 |tbl (ps:Array Value)
 /-- any other thing,by what is true of its one object (a def of one's own: SetO a S n:=HO.ext fun h=>..) -/
 |ext (φ:Heap->Prop)
abbrev Hp:=Addr->Option HO
def cI(H:Hp) (a:Addr) (o:HO):Hp:=fun b=>if b=a then some o else H b
theorem aU{H:Hp}{a:Addr}{o:HO}:cI H a o a=some o:=by unfold cI;rw[if_pos rfl]
theorem aL{H:Hp}{a b:Addr}{o:HO}(h:b≠a):cI H a o b=H b:=by unfold cI;rw[if_neg h]
theorem Oh{H:Hp}{a b:Addr}{o u:HO}(h:H a=some o) (h':H b=some u) (d:o≠u):a≠b:=by
 intro e;subst e;rw[h]at h';exact d (RD.inj h')
theorem cF{H:Hp}{a b:Addr}{o:HO}(h:H a=some o) (h':H b=none):a≠b:=by
 intro e;subst e;rw[h]at h';cases h'
section
variable (P:Program) (w:World)
def cW(H:Hp) (h:Heap) (a:Addr):HO->Prop
 | .lst xs=>xs.length<=sizeLine/\∃(its:List Value) (n:Nat),bo xs its/\h.get? a=some { cls:=.type "list", data:=.seq its.toArray n }
 | .tup xs=>xs.length<=sizeLine/\∃its:List Value,bo xs its/\IsTup h a its.toArray
 | .dK kvs=>kvs.length<=sizeLine/\(a == sysModules)=false/\∃vs,KV kvs vs/\h.DictOf (bZ P w) a vs
 | .dT kvs=>kvs.length<=sizeLine/\(a == sysModules)=false/\∃xs:List (List aN×Addr×Value),
   Paired (fun(p:List aN×V) (q:List aN×Addr×Value)=>p.1=q.1/\H q.2.1=some (.tup (p.1.map kV))/\bR p.2 q.2.2) kvs xs /\
   ∃o es ep,h.get? a=some o/\o.ExactDict/\o.data = .dict es ep/\es.toList=xs.map (entryOfKey (tupleKind (bZ P w)))/\(xs.map (·.1)).Nodup
 | .set S n=>h.SetOf (intKind P w) a S n
 | .ins C dx fs=>H dx=some (.own a)/\fs.length<=1000/\dx≠a/\h.get? a=some (W.instObj C dx) /\
   ∃mA,h.Ns1 dx mA/\(∀f,uM (fs.lookup f) (mA f))/\PySem.Within mA (fs.map (·.1))
 | .own _=>∃o,h.get? a=some o
 | .xd fs=>∃mA,h.Ns1 a mA/\∀f,uM (fs.lookup f) (mA f)
 | .rng lo hi=>∃t u v,h.get? a=some { cls:=.type "range", data:=.fields #[.int lo t,.int hi u,.int 1 v] }
 | .frz o u=>h.get? a=some o/\cW H h a u
 | .tbl ps=>h.get? a=some { cls:=.none,data:=.fields ps }
 | .met f x=>h.get? a=some (W.methodObj (.ref f) (.ref x))
 | .ext φ=>φ h/\(∃o,h.get? a=some o)/\∀h1 h2:Heap,φ h1->(∀o,h1.get? a=some o->h2.get? a=some o)->φ h2
def nU(H:Hp) (h:Heap):Prop:=∀a o,H a=some o->cW P w H h a o
end
section
variable {P:Program}{w:World}{H H':Hp}{h h':Heap}{a:Addr}{o:HO}
theorem cW.lt(x:cW P w H h a o):a<h.objs.size:=by
 cases o with
 |lst xs=>obtain⟨_,_,_,_,e⟩:=x;exact Ro e
 |tup xs=>obtain⟨_,_,_,p⟩:=x;exact p.lt
 |dK kvs=>obtain⟨_,_,_,_,o,_,_,e,_⟩:=x;exact Ro e
 |dT kvs=>obtain⟨_,_,_,_,o,_,_,e,_⟩:=x;exact Ro e
 |set S n=>obtain⟨o,_,_,_,e,_⟩:=x;exact Ro e
 |ins C dx fs=>obtain⟨_,_,_,e,_⟩:=x;exact Ro e
 |own y=>obtain⟨_,e⟩:=x;exact Ro e
 |xd fs=>obtain⟨_,⟨_,_,_,e,_⟩,_⟩:=x;exact Ro e
 |rng lo hi=>obtain⟨_,_,_,e⟩:=x;exact Ro e
 |frz ob u=>obtain⟨e,_⟩:=x;exact Ro e
 |tbl ps=>exact Ro (show h.get? a=some _ from x)
 |met f y=>exact Ro (show h.get? a=some _ from x)
 |ext φ=>obtain⟨_,⟨_,e⟩,_⟩:=x;exact Ro e
theorem Paired.mapP{α β:Type}{F G:α->β->Prop}:∀{l₁:List α}{l₂:List β},Paired F l₁ l₂->(∀a b,F a b->G a b)->Paired G l₁ l₂
 |_,_,.nil,_=>.nil
 |_,_,.cons r t,f=>.cons (f _ _ r) (Paired.mapP t f)
theorem cW.stay(x:cW P w H h a o) (k:∀b u,(b=a∨H b=some (.own a))->h.get? b=some u->h'.get? b=some u)
  (ho:∀b,H b=some (.own a)->H' b=some (.own a)) (ht:∀b xs,H b=some (.tup xs)->H' b=some (.tup xs)):cW P w H' h' a o:=by
 induction o with
 |lst xs=>obtain⟨z,its,n,r,e⟩:=x;exact⟨z,its,n,r,k _ _ (.inl rfl) e⟩
 |tup xs=>obtain⟨z,its,r,ob,e,c⟩:=x;exact⟨z,its,r,ob,k _ _ (.inl rfl) e,c⟩
 |dK kvs=>obtain⟨z,y,vs,r,ob,es,ep,e,c⟩:=x;exact⟨z,y,vs,r,ob,es,ep,k _ _ (.inl rfl) e,c⟩
 |dT kvs =>
  obtain⟨z,y,xs,r,ob,es,ep,e,c⟩:=x;exact⟨z,y,xs,Paired.mapP r fun p q z=>⟨z.1,ht _ _ z.2.1,z.2.2⟩,ob,es,ep,k _ _ (.inl rfl) e,c⟩
 |set S n=>obtain⟨ob,es,ep,t,e,c⟩:=x;exact⟨ob,es,ep,t,k _ _ (.inl rfl) e,c⟩
 |ins C dx fs =>
  obtain⟨d,z,ne,e,mA,⟨od,es,ep,e2,c⟩,r⟩:=x;exact⟨ho _ d,z,ne,k _ _ (.inl rfl) e,mA,⟨od,es,ep,k _ _ (.inr d) e2,c⟩,r⟩
 |own y=>obtain⟨ob,e⟩:=x;exact⟨ob,k _ _ (.inl rfl) e⟩
 |xd fs=>obtain⟨mA,⟨od,es,ep,e,c⟩,r⟩:=x;exact⟨mA,⟨od,es,ep,k _ _ (.inl rfl) e,c⟩,r⟩
 |rng lo hi=>obtain⟨t,u,v,e⟩:=x;exact⟨t,u,v,k _ _ (.inl rfl) e⟩
 |frz ob u ih=>obtain⟨e,q⟩:=x;exact⟨k _ _ (.inl rfl) e,ih q⟩
 |tbl ps =>
  have e:h.get? a=some { cls:=.none,data:=.fields ps }:=x;show h'.get? a=some { cls:=.none,data:=.fields ps };exact k a _ (.inl rfl) e
 |met f y =>
  have e:h.get? a=some (W.methodObj (.ref f) (.ref y)):=x;show h'.get? a=some (W.methodObj (.ref f) (.ref y));exact k a _ (.inl rfl) e
 |ext φ=>obtain⟨p,⟨o,e⟩,st⟩:=x;exact⟨st _ _ p fun o q=>k _ _ (.inl rfl) q,⟨o,k _ _ (.inl rfl) e⟩,st⟩
theorem nU.lt(x:nU P w H h) (e:H a=some o):a<h.objs.size:=(x a o e).lt
theorem nU.fresh(x:nU P w H h) (e:h.objs.size<=a):H a=none:=by
 cases q:H a with
 |none=>rfl
 |some u=>exact absurd (RV (x.lt q) e) (TV _)
theorem nU.kept(x:nU P w H h) (k:∀b u,h.get? b=some u->h'.get? b=some u):nU P w H h':=fun a o e =>
 (x a o e).stay (fun b u _ q=>k b u q) (fun _ q=>q) fun _ _ q=>q
theorem nU.laid(x:nU P w H h) (k:∀b u,h.get? b=some u->h'.get? b=some u) (hp:h.objs.size<=a) (new:cW P w (cI H a o) h' a o):nU P w (cI H a o) h':=fun b u e=>by
 have hn:=x.fresh hp
 by_cases hb:b=a
 .subst hb;rw[aU]at e;cases e;exact new
 .rw [aL hb]at e;exact(x b u e).stay (fun c v _ q=>k c v q) (fun c q=>by rw[aL (cF q hn)];exact q) fun c xs q=>by rw[aL (cF q hn)];exact q
end
def Rd(H:Hp) (a:Addr) (u:HO):Prop:=H a=some u∨∃o,H a=some (.frz o u)
theorem Rd.ok{P:Program}{w:World}{H:Hp}{h:Heap}{a:Addr}{u:HO}(r:Rd H a u) (x:nU P w H h):cW P w H h a u:=by
 rcases r with r|⟨o,r⟩
 .exact x a u r
 .obtain ⟨_,q⟩:=x a _ r;exact q
def NK:Option HO->Prop
 |some (.lst _)=>True
 |some (.dK _)=>True
 |some (.dT _)=>True
 |some (.set _ _)=>True
 |some (.ins _ _ _)=>True
 |some (.ext _)=>True
 |_=>False
section
variable {P:Program}{w:World}{H:Hp}{h h':Heap}{x e:Addr}{o':HO}
theorem nU.write(ok:nU P w H h) (mu:NK (H x)) (he:e=x∨H e=some (.own x)) (k:∀b u,b≠e->h.get? b=some u->h'.get? b=some u) (heo:∃u,h'.get? e=some u)
  (new:cW P w (cI H x o') h' x o'):nU P w (cI H x o') h':=fun b u q=>by
 have nown:∀c y,H c=some (.own y)->c≠x:=fun c y r z=>by subst z;rw[r]at mu;exact mu
 have ntup:∀c xs,H c=some (.tup xs)->c≠x:=fun c xs r z=>by subst z;rw[r]at mu;exact mu
 by_cases hb:b=x
 .subst hb;rw[aU]at q;cases q;exact new
 .rw [aL hb]at q
  by_cases hbe:b=e
  .have q':H b=some (.own x):=by
    rcases he with z|z
    .exact absurd (hbe.trans z) hb
    .rw [hbe];exact z
   rw[q]at q';cases q';obtain⟨v,hv⟩:=heo;exact⟨v,by rw[hbe];exact hv⟩
  .refine (ok b u q).stay (fun c v hc r=>k c v ?_ r) (fun c r=>by rw[aL (nown c b r)];exact r) fun c xs r=>by rw[aL (ntup c xs r)];exact r
   rcases hc with rfl|hc
   .exact hbe
   .rintro rfl;rcases he with z|z
    .exact nown c b hc z
    .rw [hc]at z;cases z;exact hb rfl
end
structure Un (fs ex:List Addr) (H H':Hp) (h h':Heap):Prop where
 keep:∀b o,h.get? b=some o->H b=none->b∉fs->b∉ex->h'.get? b=some o
 slot:∀b o,h.get? b=some o->H b=none->b∈fs->b∉ex->∃sl,h'.get? b=some { o with slots:=sl }
 free:∀b o,h.get? b=some o->H b=none->b∉ex->H' b=none
 there:∀b o,h.get? b=some o->b∉ex->∃o',h'.get? b=some o'
 tups:∀b xs,H b=some (.tup xs)->H' b=some (.tup xs)
 frzs:∀b o u,H b=some (.frz o u)->H' b=some (.frz o u)
 tbls:∀b ps,H b=some (.tbl ps)->∃more,H' b=some (.tbl (ps++more))
section
variable {fs fs' ex ex':List Addr}{H H1 H2:Hp}{h h1 h2 h':Heap}{a x e:Addr}{o:HO}
theorem Un.any(u:Un fs ex H H1 h h1) {b:Addr}{ob:Obj}(q:h.get? b=some ob) (n:H b=none) (hx:b∉ex):∃sl,h1.get? b=some { ob with slots:=sl }:=by
 by_cases hb:b∈fs
 .exact u.slot b ob q n hb hx
 .exact ⟨ob.slots,u.keep b ob q n hb hx⟩
theorem Un.kept(k:∀b u,h.get? b=some u->h'.get? b=some u):Un fs ex H H h h' :=
 ⟨fun b ob q _ _ _=>k b ob q,fun b ob q _ _ _=>⟨ob.slots,k b ob q⟩,fun _ _ _ n _=>n,fun b ob q _=>⟨ob,k b ob q⟩,fun _ _ q=>q,fun _ _ _ q=>q,fun _ ps q=>⟨#[],by rw[q];simp⟩⟩
theorem Un.refl:Un fs ex H H h h:=Un.kept fun _ _ q=>q
theorem Un.laid(k:∀b u,h.get? b=some u->h'.get? b=some u) (hp:h.objs.size<=a) (hn:H a=none):Un fs ex H (cI H a o) h h' where
 keep:=fun b u q _ _ _=>k b u q
 slot:=fun b u q _ _ _=>⟨u.slots,k b u q⟩
 free:=fun b u q n _=>by rw[aL (RI (RV (Ro q) hp))];exact n
 there:=fun b u q _=>⟨u,k b u q⟩
 tups:=fun b xs q=>by rw[aL (cF q hn)];exact q
 frzs:=fun b u xs q=>by rw[aL (cF q hn)];exact q
 tbls:=fun b ps q=>⟨#[],by rw[aL (cF q hn),q];simp⟩
theorem Un.write(mu:NK (H x)) (he:e=x∨H e=some (.own x)) (k:∀b u,b≠e->h.get? b=some u->h'.get? b=some u) (heo:∃u,h'.get? e=some u):Un fs ex H (cI H x o) h h':=by
 have hx:∀b,H b=none->b≠x:=fun b n z=>by subst z;rw[n]at mu;exact mu
 have hb:∀b,H b=none->b≠e:=fun b n z=>by
  subst z;rcases he with r|r
  .exact hx b n r
  .rw [n]at r;cases r
 have hm:∀b u,H b=some u->¬ NK (some u)->b≠x:=fun b u q nm z=>by subst z;rw[q]at mu;exact nm mu
 refine⟨fun b u q n _ _=>k b u (hb b n) q,fun b u q n _ _=>⟨u.slots,k b u (hb b n) q⟩,fun b u q n _=>by rw[aL (hx b n)];exact n,fun b u q _=>?_,
  fun b xs q=>by rw[aL (hm b _ q fun z=>z)];exact q,fun b u xs q=>by rw[aL (hm b _ q fun z=>z)];exact q,fun b ps q=>⟨#[],by rw[aL (hm b _ q fun z=>z),q];simp⟩⟩
 by_cases hbe:b=e
 .subst hbe;exact heo
 .exact ⟨u,k b u hbe q⟩
end
def ON(h:Heap) (H:Hp):List Addr:=(Sg h.objs.size).filter fun a=>(H a).isSome
def vJ(h:Heap) (H:Hp):Heap:=W.hideAll h (ON h H)
theorem Cz(h:Heap) (H:Hp):(vJ h H).objs.size=h.objs.size:=W.hideAll_size _ _
theorem Fu{h:Heap}{H:Hp}{b:Addr}{o:Obj}(e:h.get? b=some o) (n:H b=none):(vJ h H).get? b=some o :=
 W.hideAll_get _ e fun hm=>by
  have q:(H b).isSome=true:=(RP.mp hm).2;rw[n]at q;simp at q
theorem Jz{h:Heap}{H:Hp}{b:Addr}{o:Obj}(e:(vJ h H).get? b=some o):h.get? b=some o/\H b=none:=by
 have e':h.get? b=some o:=W.of_hideAll (ON h H) e;refine⟨e',?_⟩;cases q:H b with
 |none=>rfl
 |some x =>
  have hm:b∈ON h H:=RP.mpr ⟨Tq.mpr (Ro e'),by simp[q]⟩
  have z:(vJ h H).get? b=none:=W.hideAll_none (ON h H) hm;rw[z]at e;cases e
def IX(g h:Heap) (L:Addr):List (Addr×Obj):=(Sg h.objs.size).filterMap fun a=>if a=L∨(g.get? a).isSome=true then none else (h.get? a).map fun o=>(a,o)
def rest(g h:Heap) (L d:Addr):List (Addr×Obj):=(IX g h L).filter fun p=>decide (p.1≠d)
structure Mod (K:W.Frag) (mg:Str->Option Value) (base:Heap):Prop where
 kin:K.In base
 glob:base.Ns mainGlobals mg
 blt:∃mb,base.Ns builtinsNs mb/\∀x:Str,x ≠ "__name__" -> mb x=bootBuiltins x
 nolimit:base.NoLimit
structure Cx where
 prog:Program
 w:World
 K:W.Frag
 mg:Str->Option Value
 base:Heap
 A:Around
 N:List Str
 s₀:Shared
 H₀:Hp
 env:Env
 outer:List Env
 stack:List Env
 ex:List Addr
 fn:Str->Bool
 calm:Bool
 pn:List (Addr×Obj)
 xe:Value->Shared->Prop
def EF(l:List Env):List Addr:=l.filterMap (·.frame)
abbrev Cx.fs(X:Cx):List Addr:=EF X.outer
def Qd(sc:Scope) (x:Str):Prop:=sc.names.lookup x=some .local∨sc.names.lookup x=some .cell∨sc.names.lookup x=some .free
def MR(sc:Scope) (x:Str):Prop:=sc.names.lookup x=some .local∨sc.names.lookup x=some .cell
def PU(env:Env) (h:Heap) (m:Str->Option Value) (x:Str) (u:Value):Prop :=
 (env.kindOf x=some .local/\m x=some u)∨((env.kindOf x=some .cell∨env.kindOf x=some .free)/\∃c,env.cells.lookup x=some c/\h.IsCell c (some u))
structure Cx.Ok (X:Cx):Prop where
 mod:Mod X.K X.mg X.base
 kind:X.env.scope.kind = .function
 glob:X.env.globals=mainGlobals
 blt:X.env.builtins=builtinsNs
 above:X.s₀.heap.objs.size<=X.env.locals
 inj:∀x y c,X.env.cells.lookup x=some c->X.env.cells.lookup y=some c->x=y
 has:∀x,(X.env.kindOf x=some .cell∨X.env.kindOf x=some .free)->∃c,X.env.cells.lookup x=some c
 cab:∀x c,X.fn x=true->X.env.cells.lookup x=some c->X.s₀.heap.objs.size<=c
 hd:X.calm=true->X.A.handled=none
 frames:X.A.frames=some X.stack
 stk:X.stack=X.outer∨(X.stack=X.env::X.outer/\X.env.frame=some X.env.locals)
 exf:∀b∈X.ex,b≠X.env.locals/\∀x c,X.env.cells.lookup x=some c->c≠b
 bs:∀b o,X.base.get? b=some o->X.s₀.heap.get? b=some o/\X.H₀ b=none
 bsz:X.base.objs.size<=X.s₀.heap.objs.size
 noex:∀b o,X.base.get? b=some o->b∉X.ex
 exfs:∀b∈X.ex,b∉X.fs
 funs:X.s₀.heap.FunFrames X.base X.outer
 frf:∀b∈X.fs,X.H₀ b=none
structure Inv (X:Cx) (aa:List (Addr×Obj)) (σ:List (Option V)) (H:Hp) (s:Shared):Prop where
 ok:X.Ok
 os:s.os=X.s₀.os
 bare:AllBare s.gens
 base:Un X.fs X.ex X.H₀ H X.s₀.heap s.heap
 loc:∃m,s.heap.Ns X.env.locals m/\∀(i:Nat) (x:Str) (v:V),X.N[i]?=some x->σ[i]?=some (some v)->Qd X.env.scope x->∃u,bR v u/\PU X.env s.heap m x u
 cell:∀x c,X.env.cells.lookup x=some c->∃v,s.heap.IsCell c v
 free:H X.env.locals=none
 freeC:∀x c,X.env.cells.lookup x=some c->H c=none
 pin:∀p∈X.pn++aa,s.heap.get? p.1=some p.2/\H p.1=none/\p.1≠X.env.locals/\p.1∉X.fs/\∀v,p.2.data ≠ .cell v
 hok:nU X.prog X.w H s.heap
 len:σ.length=X.N.length
section
variable {X:Cx}{aa:List (Addr×Obj)}{σ:List (Option V)}{H H':Hp}{s:Shared}{h':Heap}
theorem Cx.Ok.nofr(ok:X.Ok) {b:Addr}{o:Obj}(e:X.base.get? b=some o):b∉X.fs:=fun hb=>by
 have:=(ok.funs.mem hb).1;rw[e]at this;cases this
theorem Inv.bs(I:Inv X aa σ H s):∀b o,X.base.get? b=some o->s.heap.get? b=some o/\H b=none:=fun b o e =>
 ⟨I.base.keep b o (I.ok.bs b o e).1 (I.ok.bs b o e).2 (I.ok.nofr e) (I.ok.noex b o e),I.base.free b o (I.ok.bs b o e).1 (I.ok.bs b o e).2 (I.ok.noex b o e)⟩
theorem Inv.bk(I:Inv X aa σ H s):∀b o,X.base.get? b=some o->s.heap.get? b=some o:=fun b o e=>(I.bs b o e).1
theorem Inv.mod(I:Inv X aa σ H s):Mod X.K X.mg X.base:=I.ok.mod
theorem Inv.kIn(I:Inv X aa σ H s):X.K.In s.heap:=I.ok.mod.kin.keeps I.bk
theorem Inv.lt(I:Inv X aa σ H s):X.env.locals<s.heap.objs.size:=let ⟨_,hn,_⟩:=I.loc;hn.lt
theorem Inv.sz(I:Inv X aa σ H s):X.s₀.heap.objs.size<=s.heap.objs.size:=S9 I.ok.above (Te I.lt)
theorem Inv.nofs(I:Inv X aa σ H s) {a:Addr}(h:s.heap.objs.size<=a):a∉X.fs:=fun hb=>by
 obtain⟨_,o,ho,_⟩:=I.ok.funs.mem hb;exact absurd (RV (Ro ho) (S9 I.sz h)) (TV _)
theorem Inv.cne(I:Inv X aa σ H s):∀x c,X.env.cells.lookup x=some c->c≠X.env.locals:=fun x c e z=>by
 obtain⟨v,o,ho,hd⟩:=I.cell x c e;obtain⟨m,⟨o',es,ep,ho',hd',_⟩,_⟩:=I.loc;rw[z,ho']at ho;cases ho;rw[hd']at hd;cases hd
theorem Inv.funs(I:Inv X aa σ H s):s.heap.FunFrames X.base X.outer:=by
 have all:∀(l:List Env),(∀b∈EF l,b∈X.fs)->X.s₀.heap.FunFrames X.base l->s.heap.FunFrames X.base l:=by
  intro l
  induction l with
  |nil=>intro _ _;trivial
  |cons env r ih =>
   intro hs hl;obtain⟨hk,⟨L,o,hf,hn,ho,hd⟩,hr⟩:=hl;have hL:L∈X.fs:=hs L (by unfold EF;rw[U7,hf];exact Rq)
   obtain⟨sl,e⟩:=I.base.slot L o ho (I.ok.frf L hL) hL fun z=>I.ok.exfs L z hL
   exact⟨hk,⟨L,_,hf,hn,e,hd⟩,ih (fun b hb=>hs b (by unfold EF;rw[U7,hf];exact mCo _ hb)) hr⟩
 exact all X.outer (fun _ hb=>hb) I.ok.funs
theorem Inv.stack(I:Inv X aa σ H s):s.heap.FunFrames X.base X.stack:=by
 rcases I.ok.stk with e|⟨e,hf⟩
 .rw [e];exact I.funs
 .rw [e];obtain⟨m,hn,_⟩:=I.loc;refine .cons (by rw[I.ok.kind];decide) hf hn ?_ I.funs
  exact Heap.get?_none_of_le (S9 I.ok.bsz I.ok.above)
theorem Inv.stkSub(I:Inv X aa σ H s):∀b∈EF X.stack,b∈X.env.locals::X.fs:=fun b hb=>by
 rcases I.ok.stk with e|⟨e,hf⟩
 .rw [e]at hb;exact mCo _ hb
 .rw [e]at hb;unfold EF at hb;rw[U7,hf]at hb;exact hb
theorem Inv.stkFree(I:Inv X aa σ H s):∀b∈EF X.stack,H b=none:=fun b hb=>by
 rcases Rl.mp (I.stkSub b hb) with e|hb
 .rw [e];exact I.free
 .obtain ⟨_,o,ho,_⟩:=I.ok.funs.mem hb;exact I.base.free b o ho (I.ok.frf b hb) fun z=>I.ok.exfs b z hb
theorem Inv.step{g':Array GenState}{t':Nat}{d':Drawn}{ch:List Addr}(I:Inv X aa σ H s)
  (hch:∀b∈ch,(b∈X.ex∨X.s₀.heap.objs.size<=b)/\b≠X.env.locals/\(∀x c,X.env.cells.lookup x=some c->c≠b)/\∀p∈X.pn++aa,p.1≠b)
  (keep:∀b o,b≠X.env.locals->b∉X.fs->b∉ch->s.heap.get? b=some o->H b=none->h'.get? b=some o)
  (slot:∀b o,b≠X.env.locals->b∈X.fs->b∉ch->s.heap.get? b=some o->H b=none->∃sl,h'.get? b=some { o with slots:=sl }) (free:∀b o,b∉ch->s.heap.get? b=some o->H b=none->H' b=none)
  (there:∀b o,b∉ch->s.heap.get? b=some o->∃o',h'.get? b=some o')
  (tups:∀b xs,H b=some (.tup xs)->H' b=some (.tup xs)) (frzs:∀b o u,H b=some (.frz o u)->H' b=some (.frz o u)) (tbls:∀b ps,H b=some (.tbl ps)->∃more,H' b=some (.tbl (ps++more)))
  (ns:∀m,s.heap.Ns X.env.locals m->h'.Ns X.env.locals m) (hok:nU X.prog X.w H' h') (hg:AllBare g') :
  Inv X aa σ H' { s with heap:=h',gens:=g',drawn:=d',toks:=t' }:=by
 have neL:∀b o,X.s₀.heap.get? b=some o->b≠X.env.locals:=fun b o e=>RI (RV (Ro e) I.ok.above)
 have neC:∀b o,X.s₀.heap.get? b=some o->b∉X.ex->b∉ch:=fun b o e hx hb=>by
  rcases (hch b hb).1 with z|z
  .exact hx z
  .exact absurd (RV (Ro e) z) (TV _)
 have cellK:∀x c,X.env.cells.lookup x=some c->∀v,s.heap.IsCell c v->h'.IsCell c v:=fun x c e v ⟨o,ho,hd⟩=>by
  have nch:c∉ch:=fun z=>(hch c z).2.2.1 x c e rfl
  by_cases hc:c∈X.fs
  .obtain ⟨sl,q⟩:=slot c o (I.cne x c e) hc nch ho (I.freeC x c e);exact⟨_,q,hd⟩
  .exact ⟨o,keep c o (I.cne x c e) hc nch ho (I.freeC x c e),hd⟩
 refine⟨I.ok,I.os,hg,⟨fun b o e n hb hx=>?_,fun b o e n hb hx=>?_,fun b o e n hx=>?_,fun b o e hx=>?_,fun b xs e=>tups b xs (I.base.tups b xs e),fun b o xs e=>frzs b o xs (I.base.frzs b o xs e),fun b ps e=>?_⟩,?_,fun x c e=>?_,?_,fun x c e=>?_,fun p hp=>?_,hok,I.len⟩
 .exact keep b o (neL b o e) hb (neC b o e hx) (I.base.keep b o e n hb hx) (I.base.free b o e n hx)
 .obtain ⟨sl,e1⟩:=I.base.slot b o e n hb hx;obtain⟨sl',e2⟩:=slot b _ (neL b o e) hb (neC b o e hx) e1 (I.base.free b o e n hx);exact⟨sl',e2⟩
 .obtain ⟨o',e1⟩:=I.base.there b o e hx;exact free b o' (neC b o e hx) e1 (I.base.free b o e n hx)
 .obtain ⟨o',e1⟩:=I.base.there b o e hx;exact there b o' (neC b o e hx) e1
 .obtain ⟨m1,e1⟩:=I.base.tbls b ps e;obtain⟨m2,e2⟩:=tbls b _ e1;exact⟨m1++m2,by rw[e2,Array.append_assoc]⟩
 .obtain ⟨m,hn,hl⟩:=I.loc;refine⟨m,ns m hn,fun i x v e1 e2 e3=>?_⟩
  obtain⟨u,r,l⟩:=hl i x v e1 e2 e3;refine⟨u,r,?_⟩;rcases l with l|⟨k,c,e,z⟩
  .exact .inl l
  .exact .inr ⟨k,c,e,cellK x c e _ z⟩
 .obtain ⟨v,z⟩:=I.cell x c e;exact⟨v,cellK x c e v z⟩
 .obtain ⟨m,⟨o,_,_,ho,_⟩,_⟩:=I.loc;exact free _ o (fun z=>(hch _ z).2.1 rfl) ho I.free
 .obtain ⟨v,o,ho,hd⟩:=I.cell x c e;exact free c o (fun z=>(hch c z).2.2.1 x c e rfl) ho (I.freeC x c e)
 .obtain ⟨e,n,ne,nf,d⟩:=I.pin p hp;have nch:p.1∉ch:=fun z=>(hch p.1 z).2.2.2 p hp rfl
  exact⟨keep p.1 p.2 ne nf nch e n,free p.1 p.2 nch e n,ne,nf,d⟩
theorem Inv.un{t':Nat}(I:Inv X aa σ H s) (u:Un X.fs [] H H' s.heap h') (hok:nU X.prog X.w H' h'):Inv X aa σ H' { s with heap:=h',toks:=t' }:=by
 obtain⟨m,⟨o,es,ep,ho,r⟩,_⟩:=id I.loc;obtain⟨sl,hL⟩:=u.any ho I.free (by simp)
 exact I.step (g':=s.gens) (d':=s.drawn) (ch:=[]) (fun _ z=>nomatch z) (fun b o _ hb _ e n=>u.keep b o e n hb (by simp)) (fun b o _ hb _ e n=>u.slot b o e n hb (by simp)) (fun b o _ e n=>u.free b o e n (by simp)) (fun b o _ e=>u.there b o e (by simp)) u.tups u.frzs u.tbls (fun m' hm=>by
  obtain⟨o',es',ep',ho',r'⟩:=hm;rw[ho]at ho';cases ho';exact⟨_,es',ep',hL,r'⟩) hok I.bare
theorem Inv.call{g':Array GenState}{t':Nat}{d':Drawn}{ch:List Addr}(I:Inv X aa σ H s) (u:Un (EF X.stack) ch H H' s.heap h') (hok:nU X.prog X.w H' h') (hg:AllBare g')
  (hch:∀b∈ch,(b∈X.ex∨X.s₀.heap.objs.size<=b)/\b≠X.env.locals/\(∀x c,X.env.cells.lookup x=some c->c≠b)/\∀p∈X.pn++aa,p.1≠b) :
  Inv X aa σ H' { s with heap:=h',gens:=g',drawn:=d',toks:=t' }:=by
 obtain⟨m,⟨o,es,ep,ho,r⟩,_⟩:=id I.loc;obtain⟨sl,hL⟩:=u.any ho I.free fun z=>(hch _ z).2.1 rfl
 exact I.step (ch:=ch) hch (fun b o hL hb hc e n=>u.keep b o e n (fun z=>(Rl.mp (I.stkSub b z)).elim hL hb) hc) (fun b o _ _ hc e n=>u.any e n hc) (fun b o hc e n=>u.free b o e n hc) (fun b o hc e=>u.there b o e hc) u.tups u.frzs u.tbls (fun m' hm=>by
  obtain⟨o',es',ep',ho',r'⟩:=hm;rw[ho]at ho';cases ho';exact⟨_,es',ep',hL,r'⟩) hok hg
theorem Inv.turned{t':Nat}{it:Addr}(I:Inv X aa σ H s) (k:∀b o,b≠it->s.heap.get? b=some o->h'.get? b=some o) (hn:H it=none) (hL:it≠X.env.locals)
  (h1:it∈X.ex∨X.s₀.heap.objs.size<=it) (h2:∀x c,X.env.cells.lookup x=some c->c≠it) (h3:∀p∈X.pn++aa,p.1≠it):Inv X aa σ H { s with heap:=h',toks:=t' }:=by
 have nit:∀b u,H b=some u->b≠it:=fun b u e z=>by rw[z,hn]at e;cases e
 refine I.step (g':=s.gens) (d':=s.drawn) (ch:=[it]) (fun b hb=>?_) (fun b o _ _ hc e _=>k b o (fun z=>hc (by simp[z])) e) (fun b o _ _ hc e _=>⟨o.slots,k b o (fun z=>hc (by simp[z])) e⟩) (fun _ _ _ _ n=>n)
  (fun b o hc e=>⟨o,k b o (fun z=>hc (by simp[z])) e⟩) (fun _ _ e=>e) (fun _ _ _ e=>e) (fun b ps e=>⟨#[],by rw[e];simp⟩) (fun m hm=>?_) (fun b u e=>?_) I.bare
 .have e:b=it:=by simpa using hb
  subst e;exact⟨h1,hL,h2,h3⟩
 .obtain ⟨o,es,ep,ho,r⟩:=hm;exact⟨o,es,ep,k _ o (Ne.symm hL) ho,r⟩
 .refine (I.hok b u e).stay (fun c v hc q=>k c v ?_ q) (fun _ q=>q) fun _ _ q=>q
  rcases hc with z|z
  .rw [z];exact nit b u e
  .exact nit c _ z
theorem Inv.tok(I:Inv X aa σ H s) (t:Nat):Inv X aa σ H { s with toks:=t }:=I.un (h':=s.heap) (t':=t) Un.refl I.hok
theorem Inv.kept{t':Nat}(I:Inv X aa σ H s) (k:∀b u,s.heap.get? b=some u->h'.get? b=some u):Inv X aa σ H { s with heap:=h',toks:=t' }:=I.un (Un.kept k) (I.hok.kept k)
theorem Inv.laid{a:Addr}{o:HO}{t':Nat}(I:Inv X aa σ H s) (k:∀b u,s.heap.get? b=some u->h'.get? b=some u) (hp:s.heap.objs.size<=a) (new:cW X.prog X.w (cI H a o) h' a o) :
  Inv X aa σ (cI H a o) { s with heap:=h',toks:=t' }:=I.un (Un.laid k hp (I.hok.fresh hp)) (I.hok.laid k hp new)
theorem Inv.write{x e:Addr}{o:HO}{t':Nat}(I:Inv X aa σ H s) (mu:NK (H x)) (he:e=x∨H e=some (.own x)) (k:∀b u,b≠e->s.heap.get? b=some u->h'.get? b=some u) (heo:∃u,h'.get? e=some u)
  (new:cW X.prog X.w (cI H x o) h' x o):Inv X aa σ (cI H x o) { s with heap:=h',toks:=t' }:=I.un (Un.write mu he k heo) (I.hok.write mu he k heo new)
theorem Inv.pins_of{pins':List (Addr×Obj)}(I:Inv X aa σ H s) (h:∀p∈pins',s.heap.get? p.1=some p.2/\H p.1=none/\p.1≠X.env.locals/\p.1∉X.fs/\∀v,p.2.data ≠ .cell v):Inv X pins' σ H s :=
 ⟨I.ok,I.os,I.bare,I.base,I.loc,I.cell,I.free,I.freeC,fun p hp=>(mAq.mp hp).elim (fun z=>I.pin p (SN _ z)) (h p),I.hok,I.len⟩
theorem yK{N:List Str}(hN:N.Nodup) {i j:Nat}{x:Str}(a:N[i]?=some x) (b:N[j]?=some x):i=j:=by
 obtain⟨h1,e1⟩:=gSq.mp a;obtain⟨h2,e2⟩:=gSq.mp b;exact(List.getElem_inj hN).mp (e1.trans e2.symm)
theorem DO{M:Model}{A:Around}{E:Value->Shared->Prop}{i:Nat}{x:Str}{v:V}{u:Value}{Q:Unit->Shared->Prop}(I:Inv X aa σ H s) (hN:X.N.Nodup) (hi:X.N[i]?=some x) (hx:MR X.env.scope x) (r:bR v u)
  (h:∀s',Inv X aa (σ.set i (some v)) H s'->(∃a,U1 a s.heap s'.heap/\(a=X.env.locals∨X.env.cells.lookup x=some a))->Q () s') (hf:X.fn x=true∨X.env.scope.names.lookup x=some .local:=by first|exact .inl rfl|exact .inr rfl|assumption):wpAny M A (storeName X.env x u) Q E s:=by
 obtain⟨m,hn,hl⟩:=id I.loc;have hcls:(X.env.scope.kind == .class || (X.env.scope.kind == .module && X.env.locals != X.env.globals))=false:=by rw[I.ok.kind];rfl
 have hiσ:i<σ.length:=by rw[I.len];exact(gSq.mp hi).1
 have cne:=I.cne;have tracked:∀{a:Addr}{h':Heap},(∃o,s.heap.get? a=some o/\H a=none)->U1 a s.heap h'->nU X.prog X.w H h':=fun {a h'} ha hs b ob e=>by
  obtain⟨_,_,hfree⟩:=ha;refine(I.hok b ob e).stay (fun c w' hc q=>(hs.2 c ?_).trans q) (fun _ q=>q) fun _ _ q=>q
  rintro rfl;rcases hc with rfl|hc
  .rw [hfree]at e;cases e
  .rw [hfree]at hc;cases hc
 rcases hx with hk|hk
 .refine wpAny_storeName_local hk hn (fun h' hn' hs=>?_) hcls
  obtain⟨oL,_,_,hoL,_⟩:=id hn;refine h _ ⟨I.ok,I.os,I.bare,⟨fun b o e n hb hx=>?_,fun b o e n hb hx=>?_,I.base.free,fun b o e hx=>?_,I.base.tups,I.base.frzs,I.base.tbls⟩,⟨_,hn',fun j y v' e1 e2 e3=>?_⟩,fun y c e=>?_,I.free,I.freeC,fun p hp=>?_,tracked ⟨oL,hoL,I.free⟩ hs,by simpa using I.len⟩ ⟨_,hs,.inl rfl⟩
  .exact (hs.2 b (RI (RV (Ro e) I.ok.above))).trans (I.base.keep b o e n hb hx)
  .obtain ⟨sl,e1⟩:=I.base.slot b o e n hb hx;exact⟨sl,(hs.2 b (RI (RV (Ro e) I.ok.above))).trans e1⟩
  .obtain ⟨o',e1⟩:=I.base.there b o e hx;exact⟨o',(hs.2 b (RI (RV (Ro e) I.ok.above))).trans e1⟩
  .by_cases hj:j=i
   .subst hj;rw[hi]at e1;cases e1;rw[Rz hiσ]at e2;cases e2;exact⟨u,r,.inl ⟨hk,by simp⟩⟩
   .rw [Ry (Ne.symm hj)]at e2;obtain⟨u',r',q⟩:=hl j y v' e1 e2 e3;refine⟨u',r',?_⟩;rcases q with ⟨k,e⟩|⟨k,c,e,z⟩
    .refine .inl ⟨k,?_⟩;have:y≠x:=fun e=>hj (yK hN e1 (e ▸ hi))
     simp[this,e]
    .exact .inr ⟨k,c,e,z.sameBut hs (cne y c e)⟩
  .obtain ⟨w',z⟩:=I.cell y c e;exact⟨w',z.sameBut hs (cne y c e)⟩
  .obtain ⟨e,n,ne,nf,d⟩:=I.pin p hp;exact⟨(hs.2 p.1 ne).trans e,n,ne,nf,d⟩
 .have hfn:X.fn x=true:=by
   rcases hf with z|z
   .exact z
   .rw [z]at hk;cases hk
  obtain⟨c,hc⟩:=I.ok.has x (.inl hk);obtain⟨w',z⟩:=I.cell x c hc;refine wpAny_storeName_cell I.ok.kind hk hc z (fun h' hc' hs=>?_)
  obtain⟨oc,hoc,hocd⟩:=id z;refine h { s with heap:=h' } ⟨I.ok,I.os,I.bare,⟨fun b o e n hb hx=>?_,fun b o e n hb hx=>?_,I.base.free,fun b o e hx=>?_,I.base.tups,I.base.frzs,I.base.tbls⟩,⟨m,hn.sameBut hs (Ne.symm (cne x c hc)),fun j y v' e1 e2 e3=>?_⟩,fun y c' e=>?_,I.free,I.freeC,fun p hp=>?_,tracked ⟨oc,hoc,I.freeC x c hc⟩ hs,by simpa using I.len⟩ ⟨c,hs,.inr hc⟩
  .exact (hs.2 b (RI (RV (Ro e) (I.ok.cab x c hfn hc)))).trans (I.base.keep b o e n hb hx)
  .obtain ⟨sl,e1⟩:=I.base.slot b o e n hb hx;exact⟨sl,(hs.2 b (RI (RV (Ro e) (I.ok.cab x c hfn hc)))).trans e1⟩
  .obtain ⟨o',e1⟩:=I.base.there b o e hx;exact⟨o',(hs.2 b (RI (RV (Ro e) (I.ok.cab x c hfn hc)))).trans e1⟩
  .by_cases hj:j=i
   .subst hj;rw[hi]at e1;cases e1;rw[Rz hiσ]at e2;cases e2;exact⟨u,r,.inr ⟨.inl hk,c,hc,hc'⟩⟩
   .rw [Ry (Ne.symm hj)]at e2;obtain⟨u',r',q⟩:=hl j y v' e1 e2 e3;refine⟨u',r',?_⟩;rcases q with q|⟨k,c',e,z'⟩
    .exact .inl q
    .refine .inr ⟨k,c',e,z'.sameBut hs ?_⟩;rintro rfl;exact hj (yK hN e1 (I.ok.inj _ _ _ e hc ▸ hi))
  .by_cases hcc:c'=c
   .subst hcc;exact⟨_,hc'⟩
   .obtain ⟨w2,z2⟩:=I.cell y c' e;exact⟨w2,z2.sameBut hs hcc⟩
  .obtain ⟨e,n,ne,nf,d⟩:=I.pin p hp;refine⟨(hs.2 p.1 ?_).trans e,n,ne,nf,d⟩;intro q;rw[q,hoc]at e;have q':oc=p.2:=RD.inj e;exact d w' (by rw[←q'];exact hocd)
theorem xx{M:Model}{A:Around}{E:Value->Shared->Prop}{i:Nat}{x:Str}{v:V}{u:Value}{Q:Unit->Shared->Prop}(I:Inv X aa σ H s) (hN:X.N.Nodup) (hi:X.N[i]?=some x) (hx:MR X.env.scope x) (r:bR v u)
  (h:∀s',Inv X aa (σ.set i (some v)) H s'->Q () s') (hf:X.fn x=true∨X.env.scope.names.lookup x=some .local:=by first|exact .inl rfl|exact .inr rfl|assumption):wpAny M A (storeName X.env x u) Q E s :=
 DO I hN hi hx r (fun s' I' _=>h s' I') hf
theorem Inv.call'{s':Shared}{ch:List Addr}(I:Inv X aa σ H s) (ho:s'.os=s.os) (u:Un (EF X.stack) ch H H' s.heap s'.heap) (hok:nU X.prog X.w H' s'.heap) (hg:AllBare s'.gens)
  (hch:∀b∈ch,(b∈X.ex∨X.s₀.heap.objs.size<=b)/\b≠X.env.locals/\(∀x c,X.env.cells.lookup x=some c->c≠b)/\∀p∈X.pn++aa,p.1≠b):Inv X aa σ H' s':=by
 obtain⟨h',g',d',t',o'⟩:=s';have e:o'=s.os:=ho;subst e;exact I.call (g':=g') (t':=t') (d':=d') u hok hg hch
end
abbrev XK:=Value->Option Addr->Hp->Prop
abbrev St:=List (Option V)
abbrev VK:=V->Hp->Prop
abbrev TE:=St->Hp->VK->Prop
abbrev TT:=St->Hp->(Bool->Hp->Prop)->Prop
abbrev TA:=St->Hp->(List V->Hp->Prop)->Prop
structure mV where
 nx:St->Hp->Prop
 rt:VK
 bk:St->Hp->Prop:=fun _ _=>False
 ct:St->Hp->Prop:=fun _ _=>False
abbrev TS:=mV->St->Hp->Prop
def EP(X:Cx) (aa:List (Addr×Obj)) (σ:St) (Q:VK) (u:Value) (s':Shared):Prop:=∃v H',Inv X aa σ H' s'/\bR v u/\Q v H'
def TP(X:Cx) (aa:List (Addr×Obj)) (σ:St) (Q:Bool->Hp->Prop) (b:Bool) (s':Shared):Prop:=∃H',Inv X aa σ H' s'/\Q b H'
def AP(X:Cx) (aa:List (Addr×Obj)) (σ:St) (Q:List V->Hp->Prop) (us:List Value) (s':Shared):Prop:=∃vs H',Inv X aa σ H' s'/\bo vs us/\Q vs H'
def SP(X:Cx) (aa:List (Addr×Obj)) (D:mV) (f:Flow) (s':Shared):Prop :=
 match f with
 | .next=>∃σ' H',Inv X aa σ' H' s'/\D.nx σ' H'
 | .brk=>∃σ' H',Inv X aa σ' H' s'/\D.bk σ' H'
 | .cont=>∃σ' H',Inv X aa σ' H' s'/\D.ct σ' H'
 | .ret u=>∃v σ' H',Inv X aa σ' H' s'/\bR v u/\D.rt v H'
def PE(X:Cx) (e:Expr) (t:TE):Prop :=
 ∀(aa:List (Addr×Obj)) (s:Shared) (σ:St) (H:Hp) (Q:VK),Inv X aa σ H s->t σ H Q->wpAny (model X.prog X.w) X.A (eval e X.env) (EP X aa σ Q) X.xe s
def PT(X:Cx) (e:Expr) (t:TT):Prop :=
 ∀(aa:List (Addr×Obj)) (s:Shared) (σ:St) (H:Hp) (Q:Bool->Hp->Prop),Inv X aa σ H s->t σ H Q->wpAny (model X.prog X.w) X.A (isTrue e X.env (eval e X.env)) (TP X aa σ Q) X.xe s
def PW(X:Cx) (e:Expr) (t:TT):Prop :=
 ∀(whole:Sem Value) (aa:List (Addr×Obj)) (s:Shared) (σ:St) (H:Hp) (Q:Bool->Hp->Prop),Inv X aa σ H s->t σ H Q->wpAny (model X.prog X.w) X.A (isTrue e X.env whole) (TP X aa σ Q) X.xe s
theorem PW.pt{X:Cx}{e:Expr}{t:TT}(h:PW X e t):PT X e t:=h _
def PA(X:Cx) (es:List Expr) (t:TA):Prop :=
 ∀(pos:Pos) (aa:List (Addr×Obj)) (s:Shared) (σ:St) (H:Hp) (Q:List V->Hp->Prop),Inv X aa σ H s->t σ H Q->wpAny (model X.prog X.w) X.A (spliced (backTo pos (starEach es X.env))) (AP X aa σ Q) X.xe s
def PS(X:Cx) (st:Stmt) (t:TS):Prop :=
 ∀(aa:List (Addr×Obj)) (s:Shared) (σ:St) (H:Hp) (D:mV),Inv X aa σ H s->t D σ H->wpAny (model X.prog X.w) X.A (exec st X.env) (SP X aa D) X.xe s
def Ct(X:Cx) (st:List Stmt) (t:TS):Prop :=
 ∀(aa:List (Addr×Obj)) (s:Shared) (σ:St) (H:Hp) (D:mV),Inv X aa σ H s->t D σ H->wpAny (model X.prog X.w) X.A (execs st X.env) (SP X aa D) X.xe s
theorem dY{α:Type}{t:Sem α}{Q Q':α->Shared->Prop}{M:Model}{A:Around}{E:Value->Shared->Prop}{s:Shared}(h:wpAny M A t Q E s) (hQ:∀a s,Q a s->Q' a s):wpAny M A t Q' E s:=wpAny_mono h hQ fun _ _ x=>x
section
variable {X:Cx}
def kQ(i:Nat):TE:=fun σ H Q=>∃v,σ[i]?=some (some v)/\Q v H
def tC(v:V):TE:=fun _ H Q=>Q v H
theorem Ku{i:Nat}{x:Str}{pos:Pos}(hN:X.N[i]?=some x) (hv:Qd X.env.scope x) (hd:(x == ("__debug__" : Str))=false:=by decide) (hcd:(x == ("__classdict__" : Str))=false:=by decide):PE X (.Name x pos) (kQ i):=by
 intro aa s σ H Q I h;obtain⟨v,e,h⟩:=h;obtain⟨m,hn,hl⟩:=I.loc;obtain⟨u,r,l⟩:=hl i x v hN e hv;have fin:EP X aa σ Q u s:=⟨v,H,I,r,h⟩;rcases l with ⟨hk,hm⟩|⟨hk,c,hc,hcell⟩
 .exact wpAny_Name (wpAny_loadName_local I.ok.kind hk hn hm fin) hd
 .rcases hk with hk|hk
  .exact wpAny_Name (wpAny_loadName_cell I.ok.kind hk hc hcell fin) hd
  .exact wpAny_Name (wpAny_loadName_free I.ok.kind hk hc hcell fin hcd) hd
theorem aw{i j pos}:PE X (.Constant (.int i) j pos) (tC (.int i)):=fun _ _ _ H _ I h=>wpAny_Constant_int ⟨.int i,H,I.tok _,⟨_,rfl⟩,h⟩
theorem vq{b j pos}:PE X (.Constant (.bool b) j pos) (tC (.bl b)):=fun _ _ _ H _ I h=>Constant_bool ⟨.bl b,H,I,rfl,h⟩
def Gl(X:Cx) (x:Str):Prop:=X.env.kindOf x=some .globalImplicit
theorem Hv{E:Value->Shared->Prop}{aa:List (Addr×Obj)}{s:Shared}{σ:St}{H:Hp}{x:Str}{u:Value}{pos:Pos}{Q:Value->Shared->Prop}(I:Inv X aa σ H s) (hg:Gl X x) (hm:X.mg x=some u) (h:Q u s)
  (hd:(x == ("__debug__" : Str))=false:=by decide):wpAny (model X.prog X.w) X.A (eval (.Name x pos) X.env) Q E s :=
 Calls.Name_function_global I.ok.kind hg (Calls.loadGlobal_global (by rw[I.ok.glob];exact I.mod.glob.keeps I.bk) hm h) hd
theorem nq{E:Value->Shared->Prop}{aa:List (Addr×Obj)}{s:Shared}{σ:St}{H:Hp}{x:Str}{u:Value}{pos:Pos}{Q:Value->Shared->Prop}(I:Inv X aa σ H s) (hg:Gl X x) (hm:X.mg x=none) (hv:bootBuiltins x=some u) (h:Q u s)
  (hn:x ≠ "__name__" := by decide) (hd:(x == ("__debug__" : Str))=false:=by decide):wpAny (model X.prog X.w) X.A (eval (.Name x pos) X.env) Q E s:=by
 obtain⟨mb,h1,h2⟩:=I.mod.blt;exact Calls.Name_function_global I.ok.kind hg (Calls.loadGlobal_builtin (by rw[I.ok.glob];exact I.mod.glob.keeps I.bk) hm (by rw[I.ok.blt];exact h1.keeps I.bk) ((h2 x hn).trans hv) h) hd
theorem xf{x:Str}{v:V}{u:Value}{pos:Pos}(hg:Gl X x) (hm:X.mg x=none) (hv:bootBuiltins x=some u) (r:bR v u) (hn:x ≠ "__name__" := by decide) (hd:(x == ("__debug__" : Str))=false:=by decide):PE X (.Name x pos) (tC v) :=
 fun _ _ _ H _ I h=>nq I hg hm hv ⟨v,H,I,r,h⟩ hn hd
variable {a b:Expr}{ta tb:TE}{pos:Pos}
def PC(X:Cx) (op:CmpOp) (a b:Expr) (t:TE):Prop :=
 ∀(aa:List (Addr×Obj)) (s:Shared) (σ:St) (H:Hp) (Q:VK),Inv X aa σ H s->t σ H Q ->
  wpAny (model X.prog X.w) X.A (eval a X.env) (fun v s₁=>wpAny (model X.prog X.w) X.A (eval b X.env) (fun u s₂=>wpAny (model X.prog X.w) X.A (compareOp op v u) (EP X aa σ Q) X.xe s₂) X.xe s₁) X.xe s
def tB(t:TE):TT:=fun σ H Q=>t σ H fun x H1=>∃c,x = .bl c/\Q c H1
theorem Au{op:CmpOp}{t:TE}(h:PC X op a b t) (h1:behindInMarks op b=false:=by first|exact nobehind _ (by decide) (by decide)|rfl):PT X (.Compare a [op] [b] pos) (tB t):=by
 intro aa s σ H Q I hw;refine wpAny_isTrue_Compare1 (dY (h aa s σ H _ I hw) fun v s1 h1=>dY h1 fun u s2 h2=>dY h2 fun c s3 ⟨x,H1,I1,r1,q1⟩=>?_) h1
 obtain⟨d,rfl,q⟩:=q1;cases r1;exact wpAny_truthy_bool ⟨H1,I1,q⟩
theorem vW{e:Expr}{t:TE}(h:PE X e t) (he:∀whole,isTrue e X.env whole=(do let v ←whole;standAt e.pos;holding [v] (truthy v)):=by intro _;rfl):PT X e (tB t):=by
 intro aa s σ H Q I hw;refine isTrue_plain (dY (h aa s σ H _ I hw) fun v s1 ⟨x,H1,I1,r1,q1⟩=>?_) (he _)
 obtain⟨d,rfl,q⟩:=q1;cases r1;exact wpAny_truthy_bool ⟨H1,I1,q⟩
variable {tA tB':TT}{rest:List Expr}
def MC(t u:TT):TT:=fun σ H Q=>t σ H fun c H1=>if c=true then u σ H1 Q else Q false H1
def M5(t:TT):TT:=fun σ H Q=>t σ H fun c H1=>Q (!c) H1
theorem wm(ha:PT X a tA):PW X (.BoolOp .And [a] pos) tA:=by
 intro wh aa s σ H Q I h;refine isTrue_and (dY (ha aa s σ H Q I h) fun c s1 e=>?_)
 cases c with
 |true=>exact isTrue_and_nil e
 |false=>exact e
theorem zJ(ha:PT X a tA) (hb:PW X (.BoolOp .And (b::rest) pos) tB'):PW X (.BoolOp .And (a::b::rest) pos) (MC tA tB'):=by
 intro wh aa s σ H Q I h;refine isTrue_and (dY (ha aa s σ H _ I h) fun c s1 ⟨H1,I1,q1⟩=>?_)
 cases c with
 |true=>exact hb wh aa s1 σ H1 Q I1 q1
 |false=>exact⟨H1,I1,q1⟩
theorem Gj(ha:PT X a tA):PT X (.UnaryOp .Not a pos) (M5 tA):=by
 intro aa s σ H Q I h;exact isTrue_not (ha aa s σ H (fun c H1=>Q (!c) H1) I h)
def JY(ta tb:TE):TE:=fun σ H Q=>ta σ H fun x H1=>∃c,x = .bl c/\if c=true then tb σ H1 Q else Q (.bl false) H1
def J0(ta:TE):TE:=fun σ H Q=>ta σ H fun x H1=>∃c,x = .bl c/\Q (.bl (!c)) H1
theorem Fy{op} {t:TE}(h:PE X a t):PE X (.BoolOp op [a] pos) t:=fun aa s σ H Q I hw=>BoolOp_one (h aa s σ H Q I hw)
theorem GW(ha:PE X a ta) (hb:PE X (.BoolOp .And (b::rest) pos) tb):PE X (.BoolOp .And (a::b::rest) pos) (JY ta tb):=by
 intro aa s σ H Q I h;refine BoolOp_and (dY (ha aa s σ H _ I h) fun v s1 ⟨x,H1,I1,r1,q1⟩=>?_)
 obtain⟨c,rfl,q1⟩:=q1;cases r1;refine wpAny_truthy_bool ?_;cases c with
 |true=>exact hb aa s1 σ H1 Q I1 q1
 |false=>exact⟨.bl false,H1,I1,rfl,q1⟩
theorem Lf(ha:PE X a ta):PE X (.UnaryOp .Not a pos) (J0 ta):=by
 intro aa s σ H Q I h;refine UnaryOp_ (dY (ha aa s σ H _ I h) fun v s1 ⟨x,H1,I1,r1,q1⟩=>?_)
 obtain⟨c,rfl,q1⟩:=q1;cases r1;exact not_of (wpAny_truthy_bool ⟨.bl (!c),H1,I1,rfl,q1⟩)
end
def dZ(K:W.Frag) (H:Hp) (a:Addr) (xs:List V):Prop :=
 Rd H a (.lst xs) ∨
  ∃(o:Obj) (its:Array Value) (n:Nat),K.lookup a=some o/\o.cls = .type "list" /\ o.dict=none/\o.data = .seq its n/\its.size<=sizeLine/\bo xs its.toList
def zz(K:W.Frag) (H:Hp) (a:Addr) (xs:List V):Prop :=
 Rd H a (.tup xs) ∨
  ∃(o:Obj) (its:Array Value) (n:Nat),K.lookup a=some o/\o.cls = .type "tuple" /\ o.data = .seq its n/\its.size<=sizeLine/\bo xs its.toList
def Pa:Value->Option V
 | .none=>some .non
 | .bool b=>some (.bl b)
 | .int i _=>some (.int i)
 | .str x _=>some (.str x)
 | .bytes b _=>some (.byt b)
 | .float b _=>some (.flt b)
 | .ref a=>some (.ref a)
 | .type n=>some (.ty n)
 |_=>none
theorem bR.abs{x:V}{u:Value}(r:bR x u):Pa u=some x:=by
 cases x with
 |non=>cases r;rfl
 |bl _=>cases r;rfl
 |int _=>obtain⟨t,rfl⟩:=r;rfl
 |str _=>obtain⟨t,rfl⟩:=r;rfl
 |byt _=>obtain⟨t,rfl⟩:=r;rfl
 |flt _=>obtain⟨t,rfl⟩:=r;rfl
 |ref _=>cases r;rfl
 |ty _=>cases r;rfl
theorem bR.inj{x y:V}{u:Value}(r:bR x u) (q:bR y u):x=y:=RD.inj (r.abs.symm.trans q.abs)
theorem bo.inj:∀{xs ys:List V}{us:List Value},bo xs us->bo ys us->xs=ys
 |_,_,_,.nil,.nil=>rfl
 |_,_,_,.cons r t,.cons r' t'=>by rw[r.inj r',bo.inj t t']
section
variable {X:Cx}{aa:List (Addr×Obj)}{σ:St}{H:Hp}{s:Shared}{a:Addr}{xs ys:List V}
theorem dZ.of{K:W.Frag}(h:H a=some (.lst xs)):dZ K H a xs:=.inl (.inl h)
theorem zz.of{K:W.Frag}(h:H a=some (.tup xs)):zz K H a xs:=.inl (.inl h)
theorem Inv.list(I:Inv X aa σ H s) (h:dZ X.K H a xs):∃its:List Value,bo xs its/\PlainL s.heap a its.toArray/\xs.length<=sizeLine:=by
 rcases h with h|⟨o,its,n,hk,hc,hd,hs,hz,r⟩
 .obtain ⟨z,its,n,r,e⟩:=h.ok I.hok;exact⟨its,r,⟨_,n,e,rfl,rfl,rfl⟩,z⟩
 .refine ⟨its.toList,r,⟨o,n,I.kIn a o hk,hc,hd,by simpa using hs⟩,?_⟩
  have e:=r.length;simp only[RA]at e;lia
theorem Inv.tuple(I:Inv X aa σ H s) (h:zz X.K H a xs):∃its:List Value,bo xs its/\IsTup s.heap a its.toArray/\xs.length<=sizeLine:=by
 rcases h with h|⟨o,its,n,hk,hc,hs,hz,r⟩
 .obtain ⟨z,its,r,p⟩:=h.ok I.hok;exact⟨its,r,p,z⟩
 .refine ⟨its.toList,r,⟨o,I.kIn a o hk,hc,n,by simpa using hs⟩,?_⟩
  have e:=r.length;simp only[RA]at e;lia
theorem Inv.list_inj(I:Inv X aa σ H s) (h:dZ X.K H a xs) (h':dZ X.K H a ys):xs=ys:=by
 obtain⟨its,r,⟨o,n,e,_,_,d⟩,_⟩:=I.list h;obtain⟨its',r',⟨o',n',e',_,_,d'⟩,_⟩:=I.list h';rw[e]at e';cases e';rw[d]at d';injection d' with d1 _
 have:its=its':=by simpa using congrArg Array.toList d1
 subst this;exact r.inj r'
end
abbrev Cx.wish(X:Cx) (E:Value->Shared->Prop):Cx:={ X with xe:=E }
abbrev Cx.nox(X:Cx):Cx:=X.wish fun _ _=>False
theorem Cx.Ok.wish{X:Cx}(ok:X.Ok) (E:Value->Shared->Prop):(X.wish E).Ok :=
 ⟨ok.mod,ok.kind,ok.glob,ok.blt,ok.above,ok.inj,ok.has,ok.cab,ok.hd,ok.frames,ok.stk,ok.exf,ok.bs,ok.bsz,ok.noex,ok.exfs,ok.funs,ok.frf⟩
theorem Cx.Ok.unwish{X:Cx}{E:Value->Shared->Prop}(ok:(X.wish E).Ok):X.Ok :=
 ⟨ok.mod,ok.kind,ok.glob,ok.blt,ok.above,ok.inj,ok.has,ok.cab,ok.hd,ok.frames,ok.stk,ok.exf,ok.bs,ok.bsz,ok.noex,ok.exfs,ok.funs,ok.frf⟩
section
variable {X:Cx}{aa:List (Addr×Obj)}{σ:St}{H:Hp}{s:Shared}{E:Value->Shared->Prop}
theorem Inv.wish(I:Inv X aa σ H s) (E:Value->Shared->Prop):Inv (X.wish E) aa σ H s:=⟨I.ok.wish E,I.os,I.bare,I.base,I.loc,I.cell,I.free,I.freeC,I.pin,I.hok,I.len⟩
theorem Inv.unwish(I:Inv (X.wish E) aa σ H s):Inv X aa σ H s:=⟨I.ok.unwish,I.os,I.bare,I.base,I.loc,I.cell,I.free,I.freeC,I.pin,I.hok,I.len⟩
theorem SP.unwish{D:mV}{f:Flow}{s':Shared}(h:SP (X.wish E) aa D f s'):SP X aa D f s':=by
 cases f with
 |next=>obtain⟨σ',H',I,q⟩:=h;exact⟨σ',H',I.unwish,q⟩
 |brk=>obtain⟨σ',H',I,q⟩:=h;exact⟨σ',H',I.unwish,q⟩
 |cont=>obtain⟨σ',H',I,q⟩:=h;exact⟨σ',H',I.unwish,q⟩
 |ret u=>obtain⟨v,σ',H',I,r,q⟩:=h;exact⟨v,σ',H',I.unwish,r,q⟩
theorem Ct.nox{st:List Stmt}{t:TS}(h:Ct X.nox st t):Ct X st t:=fun aa s σ H D I hw =>
 wpAny_mono (h aa s σ H D (I.wish _) hw) (fun _ _ q=>q.unwish) fun _ _ z=>False.elim z
end
section
variable {X:Cx}{st:Stmt}{rest:List Stmt}{t u:TS}{e:Expr}{te:TE}{pos:Pos}
def J5:TS:=fun D σ H=>D.nx σ H
def FB(t u:TS):TS:=fun D σ H=>t { D with nx:=u D } σ H
theorem eR:Ct X [] J5:=fun _ _ σ H _ I h=>wpAny_execs_nil ⟨σ,H,I,h⟩
theorem ai(h1:PS X st t) (h2:Ct X rest u):Ct X (st::rest) (FB t u):=by
 intro aa s σ H D I h;refine wpAny_execs_cons (dY (h1 aa s σ H { D with nx:=u D } I h) fun f s1 q=>?_)
 cases f with
 |next =>
  obtain⟨σ',H',I',q⟩:=q;exact h2 aa s1 σ' H' D I' q
 |ret v=>exact q
 |brk=>exact q
 |cont=>exact q
theorem ax(h1:PS X st t):Ct X [st] t:=by
 intro aa s σ H D I h;refine wpAny_execs_cons (dY (h1 aa s σ H D I h) fun f s1 q=>?_)
 cases f with
 |next=>exact wpAny_execs_nil q
 |ret v=>exact q
 |brk=>exact q
 |cont=>exact q
theorem Inv.quiet{aa:List (Addr×Obj)}{σ:St}{H:Hp}{s:Shared}(I:Inv X aa σ H s):interactive X.env=false:=by simp[interactive,I.ok.kind]
def qS(te:TE):TS:=fun D σ H=>te σ H fun _ H1=>D.nx σ H1
theorem du(he:PE X e te) (hs:swapsWith e none pos.line X.env=pure false:=by rfl):PS X (.Expr e pos) (qS te):=by
 intro aa s σ H D I h;exact wpAny_Expr_any (dY (he aa s σ H _ I h) fun v s1 ⟨x,H1,I1,r1,q1⟩=>⟨σ,H1,I1,q1⟩) I.quiet hs
def NI(te:TE):TS:=fun D σ H=>te σ H D.rt
theorem bJ(he:PE X e te):PS X (.Return (some e) pos) (NI te):=by
 intro aa s σ H D I h;exact wpAny_Return_some (dY (he aa s σ H _ I h) fun v s1 ⟨x,H1,I1,r1,q1⟩=>⟨x,σ,H1,I1,r1,q1⟩)
def HG(c:TT) (t u:TS):TS:=fun D σ H=>c σ H fun b H1=>if b=true then t D σ H1 else u D σ H1
theorem iw{c:Expr}{a b:List Stmt}{tc:TT}(hc:PT X c tc) (ha:Ct X a t) (hb:Ct X b u):PS X (.If c a b pos) (HG tc t u):=by
 intro aa s σ H D I h;refine wpAny_If (dY (hc aa s σ H _ I h) fun d s1 ⟨H1,I1,q1⟩=>?_)
 cases d with
 |true=>exact ha aa s1 σ H1 D I1 q1
 |false=>exact hb aa s1 σ H1 D I1 q1
end
abbrev TG:=V->St->Hp->(St->Hp->Prop)->Prop
abbrev KH:=List V->St->Hp->(St->Hp->Prop)->Prop
def PG(X:Cx) (target:Expr) (t:TG):Prop :=
 ∀(aa:List (Addr×Obj)) (s:Shared) (σ:St) (H:Hp) (v:V) (u:Value) (Q:St->Hp->Prop),Inv X aa σ H s->bR v u->t v σ H Q ->
  wpAny (model X.prog X.w) X.A (assign target X.env u) (fun _ s'=>∃σ' H',Inv X aa σ' H' s'/\Q σ' H') X.xe s
def OZ(X:Cx) (ts:List Expr) (t:KH):Prop :=
 ∀(aa:List (Addr×Obj)) (s:Shared) (σ:St) (H:Hp) (vs:List V) (us:List Value) (Q:St->Hp->Prop),Inv X aa σ H s->bo vs us->t vs σ H Q ->
  wpAny (model X.prog X.w) X.A (assignInOrder ((assignEach ts X.env).map (·.2)) us) (fun _ s'=>∃σ' H',Inv X aa σ' H' s'/\Q σ' H') X.xe s
section
variable {X:Cx}{pos:Pos}
def eZ(i:Nat):TG:=fun v σ H Q=>Q (σ.set i (some v)) H
theorem cO{i:Nat}{x:Str}(hN:X.N.Nodup) (hi:X.N[i]?=some x) (hx:MR X.env.scope x) (hf:X.fn x=true∨X.env.scope.names.lookup x=some .local:=by first|exact .inl rfl|exact .inr rfl|assumption):PG X (.Name x pos) (eZ i):=by
 intro aa s σ H v u Q I r h;exact wpAny_assign_Name (xx I hN hi hx r (fun s' I'=>⟨_,H,I',h⟩) hf)
def IF:KH:=fun vs σ H Q=>vs=[]/\Q σ H
def ur(t:TG) (u:KH):KH:=fun vs σ H Q=>∃v r,vs=v::r/\t v σ H fun σ' H'=>u r σ' H' Q
theorem IC:OZ X [] IF:=by
 intro aa s σ H vs us Q I r h;obtain⟨e,h⟩:=h;subst e;cases r;exact assignInOrder_nil ⟨σ,H,I,h⟩
theorem xF{e:Expr}{es:List Expr}{t:TG}{u:KH}(h1:PG X e t) (h2:OZ X es u)
  (hs:(assignEach (e::es) X.env).map (·.2)=assign e X.env::(assignEach es X.env).map (·.2):=by rfl):OZ X (e::es) (ur t u):=by
 intro aa s σ H vs us Q I r h;obtain⟨v,vr,e1,h⟩:=h;subst e1;cases r with
 |cons r rr =>
  rw[hs];refine assignInOrder_cons (dY (h1 aa s σ H _ _ _ I r h) fun _ s1 ⟨σ1,H1,I1,q1⟩=>?_)
  exact h2 aa s1 σ1 H1 _ _ Q I1 rr q1
def HP(K:W.Frag) (n:Nat) (t:KH):TG:=fun v σ H Q=>∃a xs,v = .ref a/\zz K H a xs/\xs.length=n/\t xs σ H Q
theorem LY{es:List Expr}{k:Nat}{t:KH}{n:Nat}(hc:X.calm=true) (h:OZ X es t)
  (hn:(assignEach es X.env).length=n:=by rfl) (hst:(assignEach es X.env).findIdx? (·.1)=none:=by rfl):PG X (.Tuple es k pos) (HP X.K n t):=by
 intro aa s σ H v u Q I r hw;obtain⟨a,xs,e1,hq,hl,hw⟩:=hw;subst e1;cases r;obtain⟨its,rv,ht,hz⟩:=I.tuple hq;refine assign_Tuple_tuple (I.ok.hd hc) ht (by simp[hn,←hl,rv.length]) hst fun h' hx=>?_
 have I1:Inv X aa σ H { s with heap:=h' }:=I.kept (t':=s.toks) fun b o e=>hx b o (RI (Ro e)) e
 exact h aa _ σ H xs _ Q I1 (by simpa using rv) hw
def AN(te:TE) (g:TG):TS:=fun D σ H=>te σ H fun x H1=>g x σ H1 D.nx
theorem aK{i:Nat}{x:Str}{e:Expr}{te:TE}{pos':Pos}(hN:X.N.Nodup) (hi:X.N[i]?=some x) (hx:MR X.env.scope x) (he:PE X e te) (hs:swapsWith e (some (.Name x pos')) pos.line X.env=pure false:=by rfl) (hf:X.fn x=true∨X.env.scope.names.lookup x=some .local:=by first|exact .inl rfl|exact .inr rfl|assumption) :
  PS X (.Assign [.Name x pos'] e pos) (AN te (eZ i)):=by
 intro aa s σ H D I h;refine wpAny_Assign_Name (dY (he aa s σ H _ I h) fun v s1 ⟨y,H1,I1,r1,q1⟩=>?_) hs
 exact xx I1 hN hi hx r1 (fun s2 I2=>⟨_,H1,I2,q1⟩) hf
end
section
variable {X:Cx}{pos:Pos}
def GH(c:TT) (tb:TS):TS:=fun D σ H=>∃W:Nat->St->Hp->Prop,(∃m,W m σ H)/\∀m σ H,W m σ H ->
 c σ H fun b H1=>if b=true then ∃N:St->Hp->Prop,(∀σ' H',N σ' H'->∃m',m'<m/\W m' σ' H')/\tb { D with nx:=N,ct:=N,bk:=D.nx } σ H1 else D.nx σ H1
theorem oi{c:Expr}{body:List Stmt}{tc:TT}{tb:TS}(hp:PassesOwn (model X.prog X.w) X.A X.env X.xe) (hc:PT X c tc) (hb:Ct X body tb):PS X (.While c body [] pos) (GH tc tb):=by
 intro aa s σ H D I h;obtain⟨W,⟨m0,w0⟩,turn⟩:=h;refine wpAny_While (codeAny_whileLoop (fun n s'=>∃σ' H',Inv X aa σ' H' s'/\W n σ' H') ?_ m0 ⟨σ,H,I,w0⟩)
 rintro n s1 ⟨σ1,H1,I1,w1⟩;refine wpAny_passesOwn hp (dY (hc aa s1 σ1 H1 _ I1 (turn n σ1 H1 w1)) fun b s2 ⟨H2,I2,q2⟩=>?_)
 cases b with
 |true =>
  obtain⟨N,hN,q2⟩:=q2;rw[if_pos rfl];refine wpAny_passesOwn hp (dY (hb aa s2 σ1 H2 _ I2 q2) fun f s3 q3=>?_)
  cases f with
  |next =>
   obtain⟨σ3,H3,I3,n3⟩:=q3;obtain⟨m',hm,w3⟩:=hN σ3 H3 n3;exact⟨m',hm,σ3,H3,I3,w3⟩
  |cont =>
   obtain⟨σ3,H3,I3,n3⟩:=q3;obtain⟨m',hm,w3⟩:=hN σ3 H3 n3;exact⟨m',hm,σ3,H3,I3,w3⟩
  |brk=>exact q3
  |ret v=>exact q3
 |false =>
  rw[if_neg RG];exact wpAny_execs_nil ⟨σ1,H2,I2,q2⟩
end
structure It where
 go:Nat->Hp->Prop
 yld:Nat->Hp->V->Hp->Prop
 stop:Nat->Hp->Prop
def sJ(X:Cx) (aa:List (Addr×Obj)) (H:Hp) (b:Addr):Prop :=
 H b=none/\b≠X.env.locals/\b∉X.fs/\(b∈X.ex∨X.s₀.heap.objs.size<=b)/\(∀x c,X.env.cells.lookup x=some c->c≠b)/\∀p∈X.pn++aa,p.1≠b
theorem Inv.fpOk{X:Cx}{aa:List (Addr×Obj)}{σ:St}{H H':Hp}{s:Shared}{b:Addr}(I:Inv X aa σ H s) (hb:s.heap.objs.size<=b) (hn:H' b=none):sJ X aa H' b:=by
 refine⟨hn,Tf (RV I.lt hb),I.nofs hb,.inr (S9 I.sz hb),fun x c e z=>?_,fun p hp z=>?_⟩
 .obtain ⟨v,q⟩:=I.cell x c e;exact absurd (RV q.lt (by rw[z];exact hb)) (TV _)
 .exact absurd (RV (Ro (I.pin p hp).1) (by rw[z];exact hb)) (TV _)
structure DE (P:Program) (w:World) (K:W.Frag) (tg:Expr) (J:It) (fp:List Addr) (it:Addr) (tn:Nat->Heap->Prop):Prop where
 mem:it∈fp
 obj:∀i h,tn i h->∀b∈fp,∃o,h.get? b=some o/\∀v,o.data ≠ .cell v
 keep:∀i h h',tn i h->(∀b∈fp,∀o,h.get? b=some o->h'.get? b=some o)->tn i h'
 item:∀(X:Cx),X.prog=P->X.w=w->X.K=K->X.calm=true->∀(i:Nat) (aa:List (Addr×Obj)) (s:Shared) (σ:St) (H:Hp) (E:Value->Shared->Prop),Inv X aa σ H s->(∀b∈fp,sJ X aa H b)->tn i s.heap->J.go i H ->
  wpAny (model P w) X.A (pyNext (.ref it)) (fun r s1=>∃u,r=some u /\
   wpAny (model P w) X.A (letOwnedTupleGo tg (.ref it) u) (fun _ s2=>∃x H',Inv X aa σ H' s2/\bR x u/\J.yld i H x H'/\tn (i+1) s2.heap/\∀b∈fp,H' b=none) E s1) E s
 done:∀(X:Cx),X.prog=P->X.w=w->X.K=K->X.calm=true->∀(i:Nat) (aa:List (Addr×Obj)) (s:Shared) (σ:St) (H:Hp) (E:Value->Shared->Prop),Inv X aa σ H s->(∀b∈fp,sJ X aa H b)->tn i s.heap->J.stop i H ->
  wpAny (model P w) X.A (pyNext (.ref it)) (fun r s1=>r=none/\Inv X aa σ H s1) E s
 self:∀(A:Around) (i:Nat) (s:Shared) (Q:Value->Shared->Prop) (E:Value->Shared->Prop),tn i s.heap->Q (.ref it) s->wpAny (model P w) A (pyIter (.ref it)) Q E s
abbrev TI:=St->Hp->(It->Hp->Prop)->Prop
def QD(X:Cx) (aa:List (Addr×Obj)) (σ:St) (tg:Expr) (R:It->Hp->Prop) (itv:Value) (s2:Shared):Prop :=
 ∃(it:Addr) (fp:List Addr) (tn:Nat->Heap->Prop) (J:It) (H':Hp),itv = .ref it/\Inv X aa σ H' s2/\DE X.prog X.w X.K tg J fp it tn/\tn 0 s2.heap/\(∀b∈fp,sJ X aa H' b)/\R J H'
def PI(X:Cx) (tg iO:Expr) (wi:TI):Prop :=
 ∀(aa:List (Addr×Obj)) (s:Shared) (σ:St) (H:Hp) (R:It->Hp->Prop),Inv X aa σ H s->wi σ H R ->
  wpAny (model X.prog X.w) X.A (eval iO X.env) (fun v s1=>wpAny (model X.prog X.w) X.A (pyIter v) (QD X aa σ tg R) X.xe s1) X.xe s
theorem Ed{M:Model}{A:Around}{E:Value->Shared->Prop}{s:Shared}{tg:Expr}{it:Addr}{u:Value}{o:Obj}{n:String}{vs:Array Value}{Q:Unit->Shared->Prop}(ho:s.heap.get? it=some o) (hc:o.cls = .type n) (hd:o.data = .fields vs)
    (hn:["enumerate", "zip", "dict_itemiterator", "dict_reverseitemiterator", "odict_iterator", "itertools.zip_longest", "itertools.pairwise"].contains n=false) (hQ:Q () s):wpAny M A (letOwnedTupleGo tg (.ref it) u) Q E s:=by
  unfold letOwnedTupleGo;cases tg <;> first
    |exact wpAny_pure hQ
    | (cases u <;> first
        |exact wpAny_pure hQ
        | (refine wpAny_bind (wpAny_load ho ?_)
           rw[hc,hd];show wpAny M A (if (["enumerate", "zip", "dict_itemiterator", "dict_reverseitemiterator", "odict_iterator", "itertools.zip_longest", "itertools.pairwise"].contains n && vs[0]? == some (rawInt _))=true then _ else _) Q E s
           rw[if_neg (by intro h;rw[hn,VN]at h;cases h)]
           exact wpAny_pure hQ))
def MZ(K:W.Frag) (a:Addr):It :=
 ⟨fun i H=>∃xs x,dZ K H a xs/\xs[i]?=some x,fun i H x H'=>H'=H/\∀xs,dZ K H a xs->xs[i]?=some x,fun i H=>∃xs,dZ K H a xs/\xs.length<=i⟩
def HK(lo:Int) (n:Nat):It:=⟨fun i _=>i<n,fun i H x H'=>H'=H/\x = .int (lo+i),fun i _=>n<=i⟩
theorem Cr{P:Program}{w:World}{K:W.Frag}{tg:Expr}(a it:Addr):DE P w K tg (MZ K a) [it] it (fun i h=>h.IsListIter it a i) where
 mem:=by simp
 obj:=fun i h st b hb=>by
  have e:b=it:=by simpa using hb
  subst e;obtain⟨o,e,c,d⟩:=st;exact⟨o,e,fun v z=>by rw[d]at z;cases z⟩
 keep:=fun i h h' st k=>st.at fun o e=>k it (by simp) o e
 item:=by
  intro X hP hw hK hc i aa s σ H E I hf st hg;subst hP hw hK;obtain⟨xs,x,hq,hx⟩:=hg;obtain⟨its,rv,p,hz⟩:=I.list hq;obtain⟨u,hu,ru⟩:=rv.get hx;obtain⟨f0,f1,f2,f3,f4,f5⟩:=hf it (by simp)
  refine wpAny_pyNext_list_item st p.isList (x:=u) (by simpa using hu) fun h' st' sb=>?_
  have I1:Inv X aa σ H { s with heap:=h' }:=I.turned (t':=s.toks) (fun b o hb e=>(sb.2 b hb).trans e) f0 f1 f3 f4 f5
  obtain⟨o,e,c,d⟩:=id st';exact⟨u,rfl,Ed (s:={ s with heap:=h' }) e c d (by decide) ⟨x,H,I1,ru,⟨rfl,fun ys hy=>by rw[I.list_inj hy hq];exact hx⟩,st',fun b hb=>(hf b hb).1⟩⟩
 done:=by
  intro X hP hw hK hc i aa s σ H E I hf st hg;subst hP hw hK;obtain⟨xs,hq,hx⟩:=hg;obtain⟨its,rv,p,hz⟩:=I.list hq;obtain⟨f0,f1,f2,f3,f4,f5⟩:=hf it (by simp)
  have hl:=rv.length;exact wpAny_pyNext_list_end (I.ok.hd hc) st p.isList (by simp;lia) fun h' eb=>⟨rfl,I.turned (t':=s.toks) (fun b o hb e=>eb b o hb e) f0 f1 f3 f4 f5⟩
 self:=fun _ _ _ _ _ st h=>wpAny_pyIter_listiter st h
theorem AX{P:Program}{w:World}{K:W.Frag}{tg:Expr}(it:Addr) (lo:Int) (n:Nat):DE P w K tg (HK lo n) [it] it (fun i h=>IsRangeIter h it (lo+(i:Nat)*1) ((n:Int)-(i:Nat)) 1) where
 mem:=by simp
 obj:=fun i h st b hb=>by
  have e:b=it:=by simpa using hb
  subst e;exact⟨_,st,fun v z=>by
   have z':Data.fields _=Data.cell v:=z;cases z'⟩
 keep:=fun i h h' st k=>k it (by simp) _ st
 item:=by
  intro X hP hw hK hc i aa s σ H E I hf st hg;subst hP hw hK;obtain⟨f0,f1,f2,f3,f4,f5⟩:=hf it (by simp)
  have W:=Walks.range (prog:=X.prog) (w:=X.w) (I.ok.hd hc) it lo 1 n;refine W.item i s _ _ hg st fun v h' tk hv st' kk=>?_
  obtain⟨t,rfl⟩:=hv;have I1:Inv X aa σ H { s with heap:=h',toks:=tk }:=I.turned (fun b o hb e=>kk b o (by simpa using hb) e) f0 f1 f3 f4 f5
  refine⟨_,rfl,Ed (s:={ s with heap:=h',toks:=tk }) (n := "range_iterator") st' rfl rfl (by decide) ⟨.int (lo+i),H,I1,⟨t,?_⟩,⟨rfl,rfl⟩,st',fun b hb=>(hf b hb).1⟩⟩
  rw[Wb]
 done:=by
  intro X hP hw hK hc i aa s σ H E I hf st hg;subst hP hw hK;obtain⟨f0,f1,f2,f3,f4,f5⟩:=hf it (by simp)
  exact wpAny_pyNext_range_end (I.ok.hd hc) st (by have:n<=i:=hg;lia) fun h' eb=>⟨rfl,I.turned (t':=s.toks) (fun b o hb e=>eb b o hb e) f0 f1 f3 f4 f5⟩
 self:=fun _ _ _ _ _ st h=>wpAny_pyIter_rangeiter st h
section
variable {X:Cx}{tg:Expr}
def GT(K:W.Frag) (tl:TE):TI:=fun σ H R=>tl σ H fun x H1=>∃a,x = .ref a/\(∃xs,dZ K H1 a xs)/\R (MZ K a) H1
theorem cG{l:Expr}{tl:TE}(hl:PE X l tl):PI X tg l (GT X.K tl):=by
 intro aa s σ H R I h;refine dY (hl aa s σ H _ I h) fun v s1 ⟨x,H1,I1,r1,q1⟩=>?_
 obtain⟨a,e,⟨xs,hq⟩,q⟩:=q1;subst e;cases r1;obtain⟨its,rv,p,hz⟩:=I1.list hq;refine wpAny_pyIter_list p.isList ?_;refine⟨s1.heap.objs.size,[s1.heap.objs.size],_,_,H1,rfl,I1.kept (t':=s1.toks) fun b o e=>Rr _ e,Cr a _,⟨_,Sk _ rfl,rfl,rfl⟩,fun b hb=>?_,q⟩
 have e:b=s1.heap.objs.size:=by simpa using hb
 subst e;exact I1.fpOk (Rk _) (I1.hok.fresh (Rk _))
theorem Fd{aa:List (Addr×Obj)}{σ:St}{H:Hp}{s:Shared}{R:It->Hp->Prop}{E:Value->Shared->Prop}{lo hi:Int}{t u v:Tok}{tk:Nat}(I:Inv X aa σ H s) (h1:-(2 ^ 62)<=lo) (h2:lo<2 ^ 62) (h3:-(2 ^ 62)<=hi) (h4:hi<2 ^ 62)
  (q:R (HK lo (hi-lo).toNat) H):wpAny (model X.prog X.w) X.A (pyIter (.ref s.heap.objs.size)) (QD X aa σ tg R) E { s with heap:=s.heap.push { cls:=.type "range", data:=.fields #[.int lo t,.int hi u,.int 1 v] },toks:=tk }:=by
 refine wpAny_pyIter_range (IsRange.new ..) (small_one h1 h2 h3 h4) ?_;have I1:Inv X aa σ H { s with heap:=s.heap.push { cls:=.type "range", data:=.fields #[.int lo t,.int hi u,.int 1 v] },toks:=tk }:=I.kept fun b o e=>Rr _ e
 refine⟨(s.heap.push { cls:=.type "range", data:=.fields #[.int lo t,.int hi u,.int 1 v] }).objs.size,[(s.heap.push { cls:=.type "range", data:=.fields #[.int lo t,.int hi u,.int 1 v] }).objs.size],_,_,H,rfl,
  I1.kept (t':=tk) fun b o e=>Rr _ e,AX _ lo (hi-lo).toNat,?_,fun b hb=>?_,q⟩
 .have e1:lo+((0:Nat):Int)*1=lo:=by simp
  have e2:(((hi-lo).toNat:Nat):Int)-((0:Nat):Int)=Builtin.Range.rangeSize lo hi 1:=by rw[rangeSize_one];split <;> lia
  show IsRangeIter _ _ (lo+((0:Nat):Int)*1) ((((hi-lo).toNat:Nat):Int)-((0:Nat):Int)) 1;rw[e1,e2];exact Sk _ rfl
 .have e:b=(s.heap.push { cls:=.type "range", data:=.fields #[.int lo t,.int hi u,.int 1 v] }).objs.size:=by simpa using hb
  subst e;exact I1.fpOk (Rk _) (I1.hok.fresh (Rk _))
def DT(ta:TA):TI:=fun σ H R=>ta σ H fun vs H1=>∃j:Int,vs=[.int j]/\-(2 ^ 62)<=j/\j<2 ^ 62/\R (HK 0 j.toNat) H1
theorem jR{a:Expr}{ta:TA}{p pos:Pos}(hg:Gl X "range") (hm:X.mg "range" = none) (ha:PA X [a] ta) (hs:starEach [a] X.env=[(false,eval a X.env)]:=by rfl):PI X tg (.Call (.Name "range" p) [a] [] pos) (DT ta):=by
 intro aa s σ H R I h;refine Call_ (nq I hg hm boot_range (Ta (dY (ha pos aa s σ H _ I h) fun us s1 ⟨vs,H1,I1,r1,q1⟩=>?_) hs rfl))
 obtain⟨j,e,q1,q2,q⟩:=q1;subst e;cases r1 with
 |cons r rr =>
  cases rr;obtain⟨t,rfl⟩:=r;exact call_range_1 (Fd I1 (by lia) (by lia) q1 q2 (by simpa using q))
def Gz(wi:TI) (g:TG) (tb:TS):TS:=fun D σ H=>wi σ H fun J H1=>∃W:Nat->Nat->St->Hp->Prop,(∃m,W 0 m σ H1)/\∀i m σ H,W i m σ H ->
 (J.stop i H/\D.nx σ H)∨(J.go i H/\∃N:St->Hp->Prop,(∀σ' H',N σ' H'->∃m',m'<m/\W (i+1) m' σ' H')/\∀x H',J.yld i H x H'->g x σ H' fun σ2 H2=>tb { D with nx:=N,ct:=N,bk:=D.nx } σ2 H2)
def tJ(fp:List Addr) (h:Heap):List (Addr×Obj):=fp.filterMap fun b=>(h.get? b).map fun o=>(b,o)
theorem ky{fp:List Addr}{h:Heap}{b:Addr}{o:Obj}(hb:b∈fp) (e:h.get? b=some o):(b,o)∈tJ fp h:=VY.mpr ⟨b,hb,by rw[e];rfl⟩
theorem DI{fp:List Addr}{h:Heap}{p:Addr×Obj}(hp:p∈tJ fp h):p.1∈fp/\h.get? p.1=some p.2:=by
 obtain⟨b,hb,e⟩:=VY.mp hp;cases q:h.get? b with
 |none=>rw[q]at e;cases e
 |some o =>
  rw[q]at e;have e':(b,o)=p:=RD.inj e;subst e';exact⟨hb,q⟩
theorem Inv.pinned{aa:List (Addr×Obj)}{σ:St}{H:Hp}{s:Shared}{fp:List Addr}(I:Inv X aa σ H s) (hf:∀b∈fp,sJ X aa H b) (ho:∀b∈fp,∃o,s.heap.get? b=some o/\∀v,o.data ≠ .cell v):Inv X (aa++tJ fp s.heap) σ H s :=
 I.pins_of fun p hp=>(mAq.mp hp).elim (fun z=>I.pin p (RB _ z)) fun z=>by
  obtain⟨hb,e⟩:=DI z;obtain⟨f0,f1,f2,_⟩:=hf p.1 hb;obtain⟨o,e',d⟩:=ho p.1 hb;rw[e]at e';cases e';exact⟨e,f0,f1,f2,d⟩
theorem Inv.unpinned{aa pl:List (Addr×Obj)}{σ:St}{H:Hp}{s:Shared}(I:Inv X (aa++pl) σ H s):Inv X aa σ H s:=I.pins_of fun p hp=>I.pin p (RB _ (SN _ hp))
theorem fI{iO:Expr}{body:List Stmt}{wi:TI}{g:TG}{tb:TS}{pos:Pos}(hp:PassesOwn (model X.prog X.w) X.A X.env X.xe) (hc:X.calm=true) (hi:PI X tg iO wi) (hg:PG X tg g) (hb:Ct X body tb)
  (hs:∀x,foldedSetIterable iO X.env x=pure x:=by intro _;rfl):PS X (.For tg iO body [] pos) (Gz wi g tb):=by
 intro aa s σ H D I h;refine wpAny_For (dY (hi aa s σ H _ I h) fun v s1 h1=>dY h1 fun itv s2 h2=>?_) hs
 obtain⟨it,fp,tn,J,H2,e,I2,T,xl,f2,W,⟨m0,w0⟩,turn⟩:=h2;subst e;have stat:∀{H':Hp},(∀b∈fp,H' b=none)->∀b∈fp,sJ X aa H' b:=fun hn b hb=>⟨hn b hb,(f2 b hb).2⟩
 refine codeAny_forLoop_any (fun n s'=>∃i σ' H',Inv X aa σ' H' s'/\tn i s'.heap/\(∀b∈fp,H' b=none)/\W i n σ' H') ?_ m0 ⟨0,σ,H2,I2,xl,fun b hb=>(f2 b hb).1,w0⟩
 rintro n s3 ⟨i,σ3,H3,I3,O4,fr3,w3⟩;rcases turn i n σ3 H3 w3 with ⟨stop,qn⟩|⟨go,N,hN,step⟩
 .refine wpAny_passesOwn hp (dY (T.done X rfl rfl rfl hc i aa s3 σ3 H3 X.xe I3 (stat fr3) O4 stop) fun r s4 ⟨hr,I4⟩=>?_)
  subst hr;exact wpAny_execs_nil ⟨σ3,H3,I4,qn⟩
 .refine wpAny_passesOwn hp (dY (T.item X rfl rfl rfl hc i aa s3 σ3 H3 X.xe I3 (stat fr3) O4 go) fun r s4 ⟨u,hr,h4⟩=>?_)
  subst hr;refine wpAny_passesOwn hp (dY h4 fun _ s5 ⟨x,H5,I5,r5,y5,st5,fr5⟩=>?_)
  have I5':=I5.pinned (stat fr5) (T.obj _ _ st5);refine wpAny_passesOwn hp (dY (hg _ s5 σ3 H5 x u _ I5' r5 (step x H5 y5)) fun _ s6 ⟨σ6,H6,I6,q6⟩=>?_)
  refine wpAny_passesOwn hp (dY (hb _ s6 σ6 H6 _ I6 q6) fun f s7 q7=>?_)
  have again:∀{σ7:St}{H7:Hp},Inv X (aa++tJ fp s5.heap) σ7 H7 s7->N σ7 H7->∃m,m<n/\∃i σ' H',Inv X aa σ' H' s7/\tn i s7.heap/\(∀b∈fp,H' b=none)/\W i m σ' H':=fun {σ7 H7} I7 n7=>by
   obtain⟨m',hm,w7⟩:=hN σ7 H7 n7;refine⟨m',hm,i+1,σ7,H7,I7.unpinned,T.keep _ _ _ st5 fun b hb o e=>(I7.pin (b,o) (RB _ (RB _ (ky hb e)))).1,fun b hb=>?_,w7⟩
   obtain⟨o,e,d⟩:=T.obj _ _ st5 b hb;exact(I7.pin (b,o) (RB _ (RB _ (ky hb e)))).2.1
  cases f with
  |next=>obtain⟨σ7,H7,I7,n7⟩:=q7;exact again I7 n7
  |cont=>obtain⟨σ7,H7,I7,n7⟩:=q7;exact again I7 n7
  |brk=>obtain⟨σ7,H7,I7,q7⟩:=q7;exact⟨σ7,H7,I7.unpinned,q7⟩
  |ret v=>obtain⟨x7,σ7,H7,I7,r7,q7⟩:=q7;exact⟨x7,σ7,H7,I7.unpinned,r7,q7⟩
end
theorem Gn{K:W.Frag}{a:Addr}{xs:List V}{g:TG}{tb:TS}{D:mV}{σ:St}{H:Hp}(Pv:Nat->St->Hp->Prop) (h0:Pv 0 σ H) (hl:∀i σ H,i<=xs.length->Pv i σ H->dZ K H a xs)
  (hs:∀i x σ H,xs[i]?=some x->Pv i σ H->g x σ H fun σ2 H2=>tb { D with nx:=Pv (i+1),ct:=Pv (i+1),bk:=D.nx } σ2 H2) (hd:∀σ H,Pv xs.length σ H->D.nx σ H) :
  ∃W:Nat->Nat->St->Hp->Prop,(∃m,W 0 m σ H)/\∀i m σ H,W i m σ H ->
   ((MZ K a).stop i H/\D.nx σ H)∨((MZ K a).go i H/\∃N:St->Hp->Prop,(∀σ' H',N σ' H'->∃m',m'<m/\W (i+1) m' σ' H')/\∀x H',(MZ K a).yld i H x H'->g x σ H' fun σ2 H2=>tb { D with nx:=N,ct:=N,bk:=D.nx } σ2 H2):=by
 refine⟨fun i m σ H=>m=xs.length-i/\i<=xs.length/\Pv i σ H,⟨xs.length,by simp,Sl _,h0⟩,?_⟩
 rintro i m σ H ⟨rfl,hi,p⟩;have q:=hl i σ H hi p
 by_cases hlt:i<xs.length
 .refine .inr ⟨⟨xs,xs[i],q,by simp[hlt]⟩,Pv (i+1),fun σ' H' p'=>⟨xs.length-(i+1),by lia,rfl,hlt,p'⟩,fun x H' y=>?_⟩
  obtain⟨e,y⟩:=y;subst e;exact hs i x σ _ (y xs q) p
 .have e:i=xs.length:=by lia
  subst e;exact .inl ⟨⟨xs,q,Rk _⟩,hd σ H p⟩
theorem C6{lo:Int}{n:Nat}{g:TG}{tb:TS}{D:mV}{σ:St}{H:Hp}(Pv:Nat->St->Hp->Prop) (h0:Pv 0 σ H)
  (hs:∀i σ H,i<n->Pv i σ H->g (.int (lo+i)) σ H fun σ2 H2=>tb { D with nx:=Pv (i+1),ct:=Pv (i+1),bk:=D.nx } σ2 H2) (hd:∀σ H,Pv n σ H->D.nx σ H) :
  ∃W:Nat->Nat->St->Hp->Prop,(∃m,W 0 m σ H)/\∀i m σ H,W i m σ H ->
   ((HK lo n).stop i H/\D.nx σ H)∨((HK lo n).go i H/\∃N:St->Hp->Prop,(∀σ' H',N σ' H'->∃m',m'<m/\W (i+1) m' σ' H')/\∀x H',(HK lo n).yld i H x H'->g x σ H' fun σ2 H2=>tb { D with nx:=N,ct:=N,bk:=D.nx } σ2 H2):=by
 refine⟨fun i m σ H=>m=n-i/\i<=n/\Pv i σ H,⟨n,by simp,Sl _,h0⟩,?_⟩
 rintro i m σ H ⟨rfl,hi,p⟩
 by_cases hlt:i<n
 .refine .inr ⟨hlt,Pv (i+1),fun σ' H' p'=>⟨n-(i+1),by lia,rfl,hlt,p'⟩,fun x H' y=>?_⟩
  obtain⟨e,y⟩:=y;subst e y;exact hs i σ _ hlt p
 .have e:i=n:=by lia
  subst e;exact .inl ⟨Rk _,hd σ H p⟩
abbrev R2:=V->V->Hp->VK->Prop
def uG(X:Cx) (f:Value->Value->Sem Value) (r:R2):Prop :=
 ∀(aa:List (Addr×Obj)) (s:Shared) (σ:St) (H:Hp) (x y:V) (v u:Value) (Q:VK),Inv X aa σ H s->bR x v->bR y u->r x y H Q ->
  wpAny (model X.prog X.w) X.A (f v u) (EP X aa σ Q) X.xe s
def PZ(X:Cx) (f:Value->Sem Value) (r:V->Hp->VK->Prop):Prop :=
 ∀(aa:List (Addr×Obj)) (s:Shared) (σ:St) (H:Hp) (x:V) (v:Value) (Q:VK),Inv X aa σ H s->bR x v->r x H Q ->
  wpAny (model X.prog X.w) X.A (f v) (EP X aa σ Q) X.xe s
def mL(X:Cx) (f:Value) (r:List V->Hp->VK->Prop):Prop :=
 ∀(aa:List (Addr×Obj)) (s:Shared) (σ:St) (H:Hp) (xs:List V) (us:List Value) (Q:VK),Inv X aa σ H s->bo xs us->r xs H Q ->
  wpAny (model X.prog X.w) X.A (call f us) (EP X aa σ Q) X.xe s
def IJ(r:R2) (ta tb:TE):TE:=fun σ H Q=>ta σ H fun x H1=>tb σ H1 fun y H2=>r x y H2 Q
def Qv(r:V->Hp->VK->Prop) (ta:TE):TE:=fun σ H Q=>ta σ H fun x H1=>r x H1 Q
def rI(C:Int->Int->Prop) (g:Int->Int->V):R2:=fun x y H Q=>∃i j,x = .int i/\y = .int j/\C i j/\Q (g i j) H
def GB(g:Int->Int->V):R2:=fun x y H Q=>∃i j,x = .int i/\y = .int j/\Q (g i j) H
def rU(g:Int->V):V->Hp->VK->Prop:=fun x H Q=>∃i,x = .int i/\Q (g i) H
section
variable {X:Cx}{a b c:Expr}{ta tb tc:TE}{pos:Pos}
theorem LC(ha:PE X a ta) (hb:PE X b tb) {aa:List (Addr×Obj)}{s:Shared}{σ:St}{H:Hp}{R:V->V->Hp->Prop}(I:Inv X aa σ H s)
  (h:ta σ H fun x H1=>tb σ H1 fun y H2=>R x y H2) {Q:Value->Shared->Prop}{f:Value->Value->Sem Value}
  (hf:∀v u s2 x y H2,Inv X aa σ H2 s2->bR x v->bR y u->R x y H2->wpAny (model X.prog X.w) X.A (f v u) Q X.xe s2) :
  wpAny (model X.prog X.w) X.A (eval a X.env) (fun v s₁=>wpAny (model X.prog X.w) X.A (eval b X.env) (fun u s₂=>wpAny (model X.prog X.w) X.A (f v u) Q X.xe s₂) X.xe s₁) X.xe s:=by
 refine dY (ha aa s σ H _ I h) fun v s1 ⟨x,H1,I1,r1,q1⟩=>?_
 refine dY (hb aa s1 σ H1 _ I1 q1) fun u s2 ⟨y,H2,I2,r2,q2⟩=>?_
 exact hf v u s2 x y H2 I2 r1 r2 q2
theorem aX{op:Operator}{r:R2}(ho:uG X (binaryOp op) r) (ha:PE X a ta) (hb:PE X b tb):PE X (.BinOp a op b pos) (IJ r ta tb):=by
 intro aa s σ H Q I h;exact wpAny_BinOp (LC ha hb I h fun v u s2 x y H2 I2 rx ry q=>ho aa s2 σ H2 x y v u Q I2 rx ry q)
theorem mO{op:UnaryOp}{r:V->Hp->VK->Prop}(ho:PZ X (unaryOp op) r) (ha:PE X a ta):PE X (.UnaryOp op a pos) (Qv r ta):=by
 intro aa s σ H Q I h;exact UnaryOp_ (dY (ha aa s σ H _ I h) fun v s1 ⟨x,H1,I1,r1,q1⟩=>ho aa s1 σ H1 x v Q I1 r1 q1)
theorem Od{f:Value->Value->Sem Value}{C:Int->Int->Prop}{g:Int->Int->Int}
  (rule:∀(i j:Int) (t u:Tok) (s:Shared) (Q:Value->Shared->Prop) (E:Value->Shared->Prop),C i j->Q (.int (g i j) s.toks) { s with toks:=s.toks+1 }->wpAny (model X.prog X.w) X.A (f (.int i t) (.int j u)) Q E s) :
  uG X f (rI C fun i j=>.int (g i j)):=by
 intro aa s σ H x y v u Q I rx ry h;obtain⟨i,j,rfl,rfl,hc,q⟩:=h;obtain⟨t,rfl⟩:=rx;obtain⟨t',rfl⟩:=ry;exact rule i j t t' s _ _ hc ⟨.int (g i j),H,I.tok _,⟨_,rfl⟩,q⟩
theorem Ot{f:Value->Value->Sem Value}{g:Int->Int->Int}
  (rule:∀(i j:Int) (t u:Tok) (s:Shared) (Q:Value->Shared->Prop) (E:Value->Shared->Prop),Q (.int (g i j) s.toks) { s with toks:=s.toks+1 }->wpAny (model X.prog X.w) X.A (f (.int i t) (.int j u)) Q E s) :
  uG X f (GB fun i j=>.int (g i j)):=by
 intro aa s σ H x y v u Q I rx ry h;obtain⟨i,j,rfl,rfl,q⟩:=h;obtain⟨t,rfl⟩:=rx;obtain⟨t',rfl⟩:=ry;exact rule i j t t' s _ _ ⟨.int (g i j),H,I.tok _,⟨_,rfl⟩,q⟩
theorem OF{f:Value->Value->Sem Value}{g:Int->Int->Bool}
  (rule:∀(i j:Int) (t u:Tok) (s:Shared) (Q:Value->Shared->Prop) (E:Value->Shared->Prop),Q (.bool (g i j)) s->wpAny (model X.prog X.w) X.A (f (.int i t) (.int j u)) Q E s) :
  uG X f (GB fun i j=>.bl (g i j)):=by
 intro aa s σ H x y v u Q I rx ry h;obtain⟨i,j,rfl,rfl,q⟩:=h;obtain⟨t,rfl⟩:=rx;obtain⟨t',rfl⟩:=ry;exact rule i j t t' s _ _ ⟨.bl (g i j),H,I,rfl,q⟩
def K4(i j:Int):Prop:=0<j/\j<1073741824
def Lq(i j:Int):Prop:=0<=j/\j<=1000000/\i.natAbs<2 ^ 64
def GL(i j:Int):Prop:=(-(2 ^ 64)<i/\i<2 ^ 64)∨(-(2 ^ 64)<j/\j<2 ^ 64)
theorem GL.ok{i j:Int}(h:GL i j):IntMulOk i j:=by
 rcases h with ⟨h1,h2⟩|⟨h1,h2⟩
 .exact .of_left (intBits_le_64 h1 h2)
 .exact .of_right (intBits_le_64 h1 h2)
theorem jY:uG X (binaryOp .Add) (GB fun i j=>.int (i+j)):=Ot fun _ _ _ _ _ _ _ q=>add_int q
theorem sq:uG X (binaryOp .Sub) (GB fun i j=>.int (i-j)):=Ot fun _ _ _ _ _ _ _ q=>sub_int q
theorem vT:uG X (binaryOp .Mult) (rI GL fun i j=>.int (i*j)):=Od fun _ _ _ _ _ _ _ hc q=>mul_int q hc.ok
theorem kj:uG X (binaryOp .FloorDiv) (rI K4 fun i j=>.int (i / j)):=Od fun i j _ _ _ _ _ hc q=>by
 have h1:(0:Int)<j:=hc.1;have h2:j<1073741824:=hc.2;exact floordiv_int (by lia) (by rw[Vf i (by lia)];exact q) (.inl (PyProof.noPylong_small (by lia)))
theorem dv:uG X (binaryOp .Mod) (rI (fun _ j=>0<j) fun i j=>.int (i % j)):=Od fun i j _ _ _ _ _ hc q=>by
 have h1:(0:Int)<j:=hc;exact mod_int' (by lia) (by rw[Int.fmod_eq_emod_of_nonneg i (by lia)];exact q)
theorem wO:uG X (binaryOp .Pow) (rI Lq fun i j=>.int (i ^ j.toNat)):=Od fun _ _ _ _ _ _ _ hc q=>pow_int_small hc.1 hc.2.1 hc.2.2 q
theorem QV{f:Value->Sem Value}{g:Int->Int}
  (rule:∀(i:Int) (t:Tok) (s:Shared) (Q:Value->Shared->Prop) (E:Value->Shared->Prop),Q (.int (g i) s.toks) { s with toks:=s.toks+1 }->wpAny (model X.prog X.w) X.A (f (.int i t)) Q E s) :
  PZ X f (rU fun i=>.int (g i)):=by
 intro aa s σ H x v Q I rx h;obtain⟨i,rfl,q⟩:=h;obtain⟨t,rfl⟩:=rx;exact rule i t s _ _ ⟨.int (g i),H,I.tok _,⟨_,rfl⟩,q⟩
theorem jk:PZ X (unaryOp .USub) (rU fun i=>.int (-i)):=QV fun _ _ _ _ _ q=>neg_int q
end
def scal:V->V->Bool
 | .non,.non=>true|.non,.int _=>true|.int _,.non=>true|.non,.bl _=>true|.bl _,.non=>true|.non,.str _=>true|.str _,.non=>true
 | .int _,.int _=>true|.bl _,.bl _=>true|.str _,.str _=>true|.byt _,.byt _=>true
 | .int _,.str _=>true|.str _,.int _=>true|.bl _,.str _=>true|.str _,.bl _=>true
 |_,_=>false
def Qk:R2:=fun x y H Q=>scal x y=true/\Q (.bl (decide (x=y))) H
def QC:R2:=fun x y H Q=>scal x y=true/\Q (.bl (!decide (x=y))) H
theorem BB{i j:Int}:decide (V.int i=V.int j)=(i == j):=by
 rw[RZ];simp
theorem Gf{i j:Bool}:decide (V.bl i=V.bl j)=(i == j):=by
 rw[RZ];simp
theorem Ce{i j:Str}:decide (V.str i=V.str j)=(i == j):=by
 rw[RZ];simp
theorem BJ{i j:Array UInt8}:decide (V.byt i=V.byt j)=(i.toList == j.toList):=by
 rw[RZ];cases i;cases j;simp
section
variable {X:Cx}{a b c:Expr}{ta tb tc:TE}{pos:Pos}
theorem bG{aa:List (Addr×Obj)}{σ:St}{H:Hp}{s:Shared}{Q:VK}{k k':Bool}(I:Inv X aa σ H s) (q:Q (.bl k) H) (e:k=k'):EP X aa σ Q (.bool k') s:=by
 subst e;exact⟨.bl k,H,I,rfl,q⟩
theorem ot:uG X (compareOp .Eq) Qk:=by
 intro aa s σ H x y v u Q I rx ry h;obtain⟨hs,q⟩:=h;cases x with
 |non =>
  cases rx;cases y with
  |non=>cases ry;exact PySem.EqNone.eq_none_none (bG I q (by simp))
  |bl j=>cases ry;exact PySem.EqNone.eq_none_bool (bG I q (by simp))
  |int j=>obtain⟨t',rfl⟩:=ry;exact PySem.EqNone.eq_none_int (bG I q (by simp))
  |str j=>obtain⟨t',rfl⟩:=ry;exact PySem.EqNone.eq_none_str (bG I q (by simp))
  |_=>exact absurd (show false=true from hs) RG
 |bl i =>
  cases rx;cases y with
  |non=>cases ry;exact PySem.EqNone.eq_bool_none (bG I q (by simp))
  |bl j=>cases ry;exact eq_bool (bG I q Gf)
  |str j=>obtain⟨t',rfl⟩:=ry;exact PySem.EqMixed.eq_bool_str (bG I q (by simp))
  |_=>exact absurd (show false=true from hs) RG
 |int i =>
  obtain⟨t,rfl⟩:=rx;cases y with
  |non=>cases ry;exact PySem.EqNone.eq_int_none (bG I q (by simp))
  |int j=>obtain⟨t',rfl⟩:=ry;exact eq_int (bG I q BB)
  |str j=>obtain⟨t',rfl⟩:=ry;exact PySem.EqMixed.eq_int_str (bG I q (by simp))
  |_=>exact absurd (show false=true from hs) RG
 |str i =>
  obtain⟨t,rfl⟩:=rx;cases y with
  |non=>cases ry;exact PySem.EqNone.eq_str_none (bG I q (by simp))
  |bl j=>cases ry;exact PySem.EqMixed.eq_str_bool (bG I q (by simp))
  |int j=>obtain⟨t',rfl⟩:=ry;exact PySem.EqMixed.eq_str_int (bG I q (by simp))
  |str j=>obtain⟨t',rfl⟩:=ry;exact eq_str (bG I q Ce)
  |_=>exact absurd (show false=true from hs) RG
 |byt i =>
  obtain⟨t,rfl⟩:=rx;cases y with
  |byt j=>obtain⟨t',rfl⟩:=ry;exact W.eq_bytes (bG I q BJ)
  |_=>exact absurd (show false=true from hs) RG
 |_=>cases y <;> exact absurd (show false=true from hs) RG
theorem Nf:uG X (compareOp .NotEq) QC:=by
 intro aa s σ H x y v u Q I rx ry h;obtain⟨hs,q⟩:=h;cases x with
 |non =>
  cases rx;cases y with
  |non=>cases ry;exact PySem.EqNone.ne_none_none (bG I q (by simp))
  |bl j=>cases ry;exact PySem.EqNone.ne_none_bool (bG I q (by simp))
  |int j=>obtain⟨t',rfl⟩:=ry;exact PySem.EqNone.ne_none_int (bG I q (by simp))
  |str j=>obtain⟨t',rfl⟩:=ry;exact PySem.EqNone.ne_none_str (bG I q (by simp))
  |_=>exact absurd (show false=true from hs) RG
 |bl i =>
  cases rx;cases y with
  |non=>cases ry;exact PySem.EqNone.ne_bool_none (bG I q (by simp))
  |bl j=>cases ry;exact ne_bool (bG I q (congrArg not Gf))
  |str j=>obtain⟨t',rfl⟩:=ry;exact PySem.EqMixed.ne_bool_str (bG I q (by simp))
  |_=>exact absurd (show false=true from hs) RG
 |int i =>
  obtain⟨t,rfl⟩:=rx;cases y with
  |non=>cases ry;exact PySem.EqNone.ne_int_none (bG I q (by simp))
  |int j=>obtain⟨t',rfl⟩:=ry;exact ne_int (bG I q (congrArg not BB))
  |str j=>obtain⟨t',rfl⟩:=ry;exact PySem.EqMixed.ne_int_str (bG I q (by simp))
  |_=>exact absurd (show false=true from hs) RG
 |str i =>
  obtain⟨t,rfl⟩:=rx;cases y with
  |non=>cases ry;exact PySem.EqNone.ne_str_none (bG I q (by simp))
  |bl j=>cases ry;exact PySem.EqMixed.ne_str_bool (bG I q (by simp))
  |int j=>obtain⟨t',rfl⟩:=ry;exact PySem.EqMixed.ne_str_int (bG I q (by simp))
  |str j=>obtain⟨t',rfl⟩:=ry;exact ne_str (bG I q (congrArg not Ce))
  |_=>exact absurd (show false=true from hs) RG
 |byt i =>
  obtain⟨t,rfl⟩:=rx;cases y with
  |byt j=>obtain⟨t',rfl⟩:=ry;exact W.ne_bytes (bG I q (congrArg not BJ))
  |_=>exact absurd (show false=true from hs) RG
 |_=>cases y <;> exact absurd (show false=true from hs) RG
theorem Ob:uG X (compareOp .Lt) (GB fun i j=>.bl (decide (i<j))):=OF fun _ _ _ _ _ _ _ q=>lt_int q
theorem qE:uG X (compareOp .Gt) (GB fun i j=>.bl (decide (j<i))):=OF fun _ _ _ _ _ _ _ q=>gt_int q
theorem cT(b:Expr) {op:CmpOp}(h:op ≠ .In:=by decide) (h2:op ≠ .NotIn:=by decide):behindInMarks op b=false:=by
 have e1:(op == CmpOp.In)=false:=by cases op <;> first|rfl|exact absurd rfl h
 have e2:(op == CmpOp.NotIn)=false:=by cases op <;> first|rfl|exact absurd rfl h2
 cases b <;> simp[behindInMarks,e1,e2]
theorem oR{op:CmpOp}{r:R2}(ho:uG X (compareOp op) r) (ha:PE X a ta) (hb:PE X b tb) (hm:behindInMarks op b=false):PE X (.Compare a [op] [b] pos) (IJ r ta tb):=by
 intro aa s σ H Q I h;exact wpAny_Compare1 (LC ha hb I h fun v u s2 x y H2 I2 rx ry q=>ho aa s2 σ H2 x y v u Q I2 rx ry q) hm
def J9(t:TE):TT:=fun σ H Q=>t σ H fun x H'=>∃k,x = .bl k/\Q k H'
theorem cA{op:CmpOp}{r:R2}(ho:uG X (compareOp op) r) (ha:PE X a ta) (hb:PE X b tb) (hm:behindInMarks op b=false):PT X (.Compare a [op] [b] pos) (J9 (IJ r ta tb)):=by
 intro aa s σ H Q I h;refine wpAny_isTrue_Compare1 (dY (ha aa s σ H _ I h) fun v s1 ⟨x,H1,I1,r1,q1⟩=>dY (hb aa s1 σ H1 _ I1 q1) fun u s2 ⟨y,H2,I2,r2,q2⟩ =>
  dY (ho aa s2 σ H2 x y v u _ I2 r1 r2 q2) fun c s3 ⟨z,H3,I3,r3,k,e,q3⟩=>?_) hm
 subst e;cases r3;exact wpAny_truthy_bool ⟨H3,I3,q3⟩
theorem En:(sizeLine:Nat)<2 ^ 63:=by rw[sizeLine_eq];decide
theorem oh{x:V}{us:List Value}(r:bo [x] us):∃u,us=[u]/\bR x u:=by
 cases r with
 |cons r1 r2=>cases r2;exact⟨_,rfl,r1⟩
theorem JP{x y:V}{us:List Value}(r:bo [x,y] us):∃u w',us=[u,w']/\bR x u/\bR y w':=by
 cases r with
 |cons r1 r2 =>
  cases r2 with
  |cons r3 r4=>cases r4;exact⟨_,_,rfl,r1,r3⟩
def N0(K:W.Frag) (x:V) (H:Hp) (n:Nat):Prop :=
 match x with
 | .str y=>y.length<=sizeLine/\n=y.length
 | .byt y=>y.size<=sizeLine/\n=y.size
 | .ref p=>(∃xs,dZ K H p xs/\n=xs.length)∨∃xs,zz K H p xs/\n=xs.length
 |_=>False
theorem bU:mL X (.builtin "len") (fun xs H Q=>∃x n,xs=[x]/\N0 X.K x H n/\Q (.int n) H):=by
 intro aa s σ H xs us Q I r h;obtain⟨x,n,rfl,e,q⟩:=h;obtain⟨u,rfl,rx⟩:=oh r;have hl:=En;have hs:sizeLine=16777216:=sizeLine_eq;cases x with
 |str y =>
  obtain⟨t,rfl⟩:=rx;obtain⟨hy,e'⟩:y.length<=sizeLine/\n=y.length:=e;subst e';exact len_str (by lia) ⟨.int _,H,I.tok _,⟨_,rfl⟩,q⟩
 |byt y =>
  obtain⟨t,rfl⟩:=rx;obtain⟨hy,e'⟩:y.size<=sizeLine/\n=y.size:=e;subst e';exact W.len_bytes (by lia) ⟨.int _,H,I.tok _,⟨_,rfl⟩,q⟩
 |ref p =>
  cases rx;have e':(∃xs,dZ X.K H p xs/\n=xs.length)∨∃xs,zz X.K H p xs/\n=xs.length:=e;rcases e' with ⟨xs,hx,e'⟩|⟨xs,hx,e'⟩
  .subst e';obtain⟨its,r',pl,hz⟩:=I.list hx;have hlen:=r'.length;exact Calls.call_len_list pl.isList (by simp only[RH];lia) ⟨.int xs.length,H,I.tok _,⟨_,by simp only[RH];rw[hlen]⟩,q⟩
  .subst e';obtain⟨its,r',pl,hz⟩:=I.tuple hx;have hlen:=r'.length;exact len_tuple pl (by simp only[RH];lia) ⟨.int xs.length,H,I.tok _,⟨_,by simp only[RH];rw[hlen]⟩,q⟩
 |_=>exact(show False from e).elim
end
theorem uM.some_of{v:V}{o:Option Value}(r:uM (some v) o):∃u,o=some u/\bR v u:=by
 cases o with
 |none=>exact(show False from r).elim
 |some u=>exact⟨u,rfl,r⟩
structure jm (k:Nat) (A:Around):Prop where
 hd:A.handled=none
 dp:A.depth+3*k+5<recursionLimit
 un:A.units+16*k+200<cLine
theorem jm.mono{j k:Nat}{A:Around}(r:jm k A) (h:j<=k):jm j A:=⟨r.hd,by have:=r.dp;lia,by have:=r.un;lia⟩
theorem jm.deeper{k:Nat}{A:Around}(r:jm (k+1) A) (env:Env):jm k (A.deeper env) :=
 ⟨r.hd,by have:=r.dp;show A.depth+1+3*k+5<_;lia,by have:=r.un;show A.units+3+16*k+200<_;lia⟩
theorem jm.depth{k:Nat}{A:Around}(r:jm k A):A.depth<recursionLimit:=by have:=r.dp;lia
theorem jm.units{k:Nat}{A:Around}(r:jm k A):A.units+64<cLine:=by have:=r.un;lia
def mG:TA:=fun _ H Q=>Q [] H
def iF(ta:TE) (tr:TA):TA:=fun σ H Q=>ta σ H fun x H1=>tr σ H1 fun xs H2=>Q (x::xs) H2
section
variable {X:Cx}{e:Expr}{es:List Expr}{te:TE}{t:TA}{pos:Pos}
theorem aj:PA X [] mG:=fun _ _ _ _ H Q I h=>Calls.spliced_nil ⟨[],H,I,.nil,h⟩
theorem ag(ha:PE X e te) (hr:PA X es t) (hs:starEach (e::es) X.env=(false,eval e X.env)::starEach es X.env:=by rfl):PA X (e::es) (iF te t):=by
 intro pos aa s σ H Q I h;rw[hs];show wpAny _ _ (spliced ((false,eval e X.env)::backTo pos (starEach es X.env))) _ _ s;refine Calls.spliced_cons (dY (ha aa s σ H _ I h) fun u s1 ⟨x,H1,I1,r1,q1⟩=>?_)
 exact dY (hr pos aa s1 σ H1 _ I1 q1) fun us s2 ⟨xs,H2,I2,r2,q2⟩=>⟨x::xs,H2,I2,.cons r1 r2,q2⟩
def MM(t:TA):TE:=fun σ H Q=>t σ H fun xs H1=>xs.length<=sizeLine/\∀p,H1 p=none->Q (.ref p) (cI H1 p (.lst xs))
theorem eI(h:PA X es t):PE X (.List es pos) (MM t):=by
 intro aa s σ H Q I hq;refine wpAny_List_spliced (dY (h pos aa s σ H _ I hq) fun us s1 ⟨xs,H1,I1,r,z,q⟩=>⟨by rw[←r.length];exact z,?_⟩)
 have hf:H1 s1.heap.objs.size=none:=I1.hok.fresh (Rk _);refine⟨.ref s1.heap.objs.size,cI H1 s1.heap.objs.size (.lst xs),I1.laid (t':=s1.toks) (fun b u e=>Rr _ e) (Rk _) ?_,rfl,q _ hf⟩
 exact⟨z,us,0,r,Sk _ rfl⟩
end
abbrev Sp:=List V->Hp->VK->XK->Prop
abbrev FV:=List Env->Hp->Shared->XK->Value->Shared->Prop
structure JJ (P:Program) (w:World) (K:W.Frag) (mg:Str->Option Value) (base:Heap) (A:Around) (outer:List Env) (s:Shared) (H:Hp):Prop where
 frames:A.frames=some outer
 mod:Mod K mg base
 bs:∀b o,base.get? b=some o->s.heap.get? b=some o/\H b=none
 bsz:base.objs.size<=s.heap.objs.size
 funs:s.heap.FunFrames base outer
 frf:∀b∈EF outer,H b=none
 hok:nU P w H s.heap
 bare:AllBare s.gens
def CE(outer:List Env) (P:Program) (w:World) (H:Hp) (s:Shared) (Q:VK) (u:Value) (s':Shared):Prop :=
 ∃v H',s'.os=s.os/\AllBare s'.gens/\Un (EF outer) [] H H' s.heap s'.heap/\nU P w H' s'.heap/\bR v u/\Q v H'
def CR(CX:FV) (outer:List Env) (P:Program) (w:World) (H:Hp) (s:Shared) (Q:VK) (E:XK) (r:Result) (s':Shared):Prop :=
 match r with
 | .ok (.ret u)=>CE outer P w H s Q u s'
 | .ok _=>False
 | .error e=>CX outer H s E e s'
structure qT (P:Program) (w:World) (K:W.Frag) (mg:Str->Option Value) (base:Heap) (CX:FV) (k:Nat) (f:Addr) (fd:FuncData) (ps:List Str) (sp:Sp):Prop where
 len:∀vs H Q E,sp vs H Q E->vs.length=ps.length
 run:∀(A:Around) (outer:List Env) (s:Shared) (H:Hp) (args:Args) (us:List Value) (vs:List V) (Q:VK) (E:XK),jm k A->JJ P w K mg base A outer s H->BindsTo s fd args (ps.zip us)->bo vs us->sp vs H Q E ->
  codeAny (model P w) A (.call (.ref f) args) (CR CX outer P w H s Q E) s
theorem qT.imp{P:Program}{w:World}{K:W.Frag}{mg:Str->Option Value}{base:Heap}{CX:FV}{k:Nat}{f:Addr}{fd:FuncData}{ps:List Str}{sp sp':Sp}(F:qT P w K mg base CX k f fd ps sp)
  (h:∀vs H Q E,sp' vs H Q E->sp vs H Q E):qT P w K mg base CX k f fd ps sp' :=
 ⟨fun vs H Q E q=>F.len vs H Q E (h _ _ _ _ q),fun A outer s H args us vs Q E hr he hb hv hs=>F.run A outer s H args us vs Q E hr he hb hv (h _ _ _ _ hs)⟩
section
variable {X:Cx}{aa:List (Addr×Obj)}{σ:St}{H:Hp}{s s':Shared}
theorem Inv.env0(I:Inv X aa σ H s):JJ X.prog X.w X.K X.mg X.base X.A X.stack s H :=
 ⟨I.ok.frames,I.ok.mod,I.bs,S9 I.ok.bsz I.sz,I.stack,I.stkFree,I.hok,I.bare⟩
theorem Inv.after{Q:VK}{u:Value}(I:Inv X aa σ H s) (h:CE X.stack X.prog X.w H s Q u s'):EP X aa σ Q u s':=by
 obtain⟨v,H',os,bare,un,hok,r,q⟩:=h;obtain⟨hh,g,d,t,os'⟩:=s';obtain rfl:os'=s.os:=os;exact⟨v,H',I.call (h':=hh) (g':=g) (d':=d) (t':=t) (ch:=[]) un hok bare (fun b z=>absurd z (by simp)),r,q⟩
end
def BI(sp:Sp) (dvs:List V) (E:XK) (t:TA):TE:=fun σ H Q=>t σ H fun vs H1=>sp (vs++dvs) H1 Q E
def mP(K:W.Frag) (fd:FuncData) (ps:List Str) (ds:List Value):Prop :=
 ∀(s:Shared) (us:List Value),K.In s.heap->(us++ds).length=ps.length->BindsTo s fd ⟨us,[]⟩ (ps.zip (us++ds))
theorem mP.all{K:W.Frag}{fd:FuncData}{ps:List Str}(h:∀us:List Value,us.length=ps.length->bindArgs fd ⟨us,[]⟩=pure (ps.zip us)):mP K fd ps []:=fun s us _ hl=>by
 rw[aNq]at hl ⊢;exact .of_eq (h us hl)
def AD(CX:FV) (X:Cx) (E:XK):Prop:=∀(aa:List (Addr×Obj)) (σ:St) (H:Hp) (s:Shared) (e:Value) (s':Shared),Inv X aa σ H s->CX X.stack H s E e s'->X.xe e s'
section
variable {X:Cx}{CX:FV}{k:Nat}{f C:Addr}{fd:FuncData}{ps:List Str}{sp:Sp}{dvs:List V}{ds:List Value}{E:XK}{x m:Str}{p pos apos:Pos}{e o:Expr}{es:List Expr}{ta:TE}{t:TA}
theorem Kq{aa:List (Addr×Obj)}{σ:St}{H:Hp}{s:Shared}{Q:VK}{us:List Value}{vs:List V}(F:qT X.prog X.w X.K X.mg X.base CX k f fd ps sp) (hr:jm k X.A) (hb:mP X.K fd ps ds) (hd:bo dvs ds) (hx:AD CX X E)
  (I:Inv X aa σ H s) (r:bo vs us) (h:sp (vs++dvs) H Q E):wpAny (model X.prog X.w) X.A (call (.ref f) us) (EP X aa σ Q) X.xe s:=by
 have r2:bo (vs++dvs) (us++ds):=r.append hd;have hl:(us++ds).length=ps.length:=by rw[←r2.length];exact F.len _ _ _ _ h
 refine wpAny_call (codeAny_mono (F.run X.A X.stack s H ⟨us,[]⟩ (us++ds) (vs++dvs) Q E hr I.env0 (hb s us I.kIn hl) r2 h) fun r s' hq=>?_)
 cases r with
 |error e=>exact hx aa σ H s e s' I hq
 |ok fl =>
  cases fl with
  |ret u=>exact I.after hq
  |next=>exact False.elim hq
  |brk=>exact False.elim hq
  |cont=>exact False.elim hq
theorem JA(F:qT X.prog X.w X.K X.mg X.base CX k f fd ps sp) (hr:jm k X.A) (hg:Gl X x) (hm:X.mg x=some (.ref f)) (hk:W.keepIn X.K (.ref f)=true) (hb:mP X.K fd ps ds) (hd:bo dvs ds) (hx:AD CX X E)
  (ha:PA X (e::es) t) (hdb:(x == ("__debug__" : Str))=false:=by decide) (he:starEach (e::es) X.env=(false,eval e X.env)::starEach es X.env:=by rfl) (hpl:(backTo pos (starEach es X.env)).any (·.1)=false:=by rfl) :
  PE X (.Call (.Name x p) (e::es) [] pos) (BI sp dvs E t):=by
 intro aa s σ H Q I h;refine wpAny_Call_Name_kw (Hv I hg hm ?_ hdb);refine W.callWith_K (h₀:=X.base) I.ok.mod.kin hk (dY (ha pos aa s σ H _ I h) fun us s1 ⟨vs,H1,I1,r,q⟩=>⟨I1.kIn,?_⟩) he hpl
 exact Kq F hr hb hd hx I1 r q
end
structure bq (N P:List Str) (sc:Scope):Prop where
 kind:sc.kind = .function
 co:sc.isCoroutine=false
 gen:sc.isGenerator=false
 nd:N.Nodup
 pre:N.take P.length=P
 par:∀x∈P,sc.names.lookup x=some .local∨sc.names.lookup x=some .cell
 nofree:∀y∈sc.names,y.2 ≠ .free
theorem uQ{kindOf:Str->Option NameKind}{x:Str}:∀{binds:List (Str×Value)}{m:Str->Option Value},(∀v,(x,v)∉binds)->bindL kindOf binds m x=m x
 | [],_,_=>rfl
 | (n,v)::r,m,h=>by
  unfold bindL;rw[uQ fun w hw=>h w (mCo _ hw)]
  split
  .have:x≠n:=by rintro rfl;exact h v Rq
   simp[this]
  .rfl
theorem vo{kindOf:Str->Option NameKind}{x:Str}:∀{binds:List (Str×Value)}{m:Str->Option Value},(∀v,(x,v)∉binds)->bindC kindOf binds m x=m x
 | [],_,_=>rfl
 | (n,v)::r,m,h=>by
  unfold bindC;rw[vo fun w hw=>h w (mCo _ hw)]
  split
  .rfl
  .have:x≠n:=by rintro rfl;exact h v Rq
   simp[this]
theorem uU{kindOf:Str->Option NameKind}{x:Str}{v:Value}:∀{P:List Str}{vs:List Value}{i:Nat}{m:Str->Option Value},P.Nodup->P[i]?=some x->vs[i]?=some v->kindOf x=some .local ->
  bindL kindOf (P.zip vs) m x=some v
 | [],_,_,_,_,h,_,_=>by simp at h
 |_::_,[],_,_,_,_,h,_=>by simp at h
 |p::P,w::vs,0,m,nd,h1,h2,hk=>by
  simp at h1 h2;subst h1;subst h2;show bindL kindOf ((p,w)::P.zip vs) m p=_;unfold bindL;rw[uQ fun v hv=>(Rp.mp nd).1 (VA hv).1,if_pos hk]
  simp
 |p::P,w::vs,i+1,m,nd,h1,h2,hk=>by
  show bindL kindOf ((p,w)::P.zip vs) m x=_;unfold bindL;exact uU (i:=i) (Rp.mp nd).2 (by simpa using h1) (by simpa using h2) hk
theorem vt{kindOf:Str->Option NameKind}{x:Str}{v:Value}:∀{P:List Str}{vs:List Value}{i:Nat}{m:Str->Option Value},P.Nodup->P[i]?=some x->vs[i]?=some v->kindOf x≠some .local ->
  bindC kindOf (P.zip vs) m x=some v
 | [],_,_,_,_,h,_,_=>by simp at h
 |_::_,[],_,_,_,_,h,_=>by simp at h
 |p::P,w::vs,0,m,nd,h1,h2,hk=>by
  simp at h1 h2;subst h1;subst h2;show bindC kindOf ((p,w)::P.zip vs) m p=_;unfold bindC;rw[vo fun v hv=>(Rp.mp nd).1 (VA hv).1,if_neg hk]
  simp
 |p::P,w::vs,i+1,m,nd,h1,h2,hk=>by
  show bindC kindOf ((p,w)::P.zip vs) m x=_;unfold bindC;exact vt (i:=i) (Rp.mp nd).2 (by simpa using h1) (by simpa using h2) hk
def kO(N:List Str) (vs:List V):St:=vs.map some++SD (N.length-vs.length) none
def DD(CX:FV) (P:Program) (w:World) (K:W.Frag) (mg:Str->Option Value) (base:Heap) (N:List Str) (qual:Str) (scope:Scope) (f:Addr) (cd:Value) (A:Around) (outer:List Env) (s:Shared) (H:Hp) (E:XK):Cx where
 prog:=P
 w:=w
 K:=K
 mg:=mg
 base:=base
 A:=A.deeper (envOfC qual scope s.heap.objs.size f cd)
 N:=N
 s₀:=s
 H₀:=H
 env:=envOfC qual scope s.heap.objs.size f cd
 outer:=outer
 stack:=envOfC qual scope s.heap.objs.size f cd::outer
 ex:=[]
 calm:=true
 fn:=fun _=>true
 pn:=[]
 xe:=fun e s'=>wpAny (model P w) (A.deeper (envOfC qual scope s.heap.objs.size f cd)) (leaving (envOfC qual scope s.heap.objs.size f cd) e) (fun _ s''=>CX outer H s E e s'') (fun e' s''=>CX outer H s E e' s'') s'
theorem yT{sc:Scope}{n:Nat}{x:Str}(h:sc.names.lookup x=some .cell):∃c,(cellsFrom n sc.names []).lookup x=some c:=by
 have q:=W.cellsFrom_some sc.names n [] (.inl h);exact Option.isSome_iff_exists.mp q
theorem CC{CX:FV}{P:Program}{w:World}{K:W.Frag}{mg:Str->Option Value}{base:Heap}{N ps:List Str}{qual:Str}{scope:Scope}{f:Addr}{cd:Value}{A:Around}{outer:List Env}{s s1:Shared}{H:Hp}{E:XK}{us:List Value}{vs:List V}
  (S:bq N ps scope) (hd:A.handled=none) (e0:JJ P w K mg base A outer s H) (hl:vs.length=ps.length) (r:bo vs us)
  (x:InCallC s s.heap.objs.size (bindL (envOfC qual scope s.heap.objs.size f cd).kindOf (ps.zip us) fun _=>none) (cellsFrom (s.heap.objs.size+1) scope.names []) (bindC (envOfC qual scope s.heap.objs.size f cd).kindOf (ps.zip us) fun _=>none) s1) :
  Inv (DD CX P w K mg base N qual scope f cd A outer s H E) [] (kO N vs) H s1:=by
 have hpl:ps.length<=N.length:=by have:=congrArg S6 S.pre;rw[lTq]at this;lia
 obtain⟨h1,tk,rfl,hk⟩:=x.done;have noA:∀b:Addr,b∉(DD CX P w K mg base N qual scope f cd A outer s H E).ex:=fun b z=>absurd (show b∈([]:List Addr) from z) (by simp)
 refine⟨⟨e0.mod,S.kind,rfl,rfl,Rk _,fun y z c h1 h2=>?_,fun y hy=>?_,fun y c _ h=>?_,fun _=>hd,Around.frames_deeper e0.frames,.inr ⟨rfl,rfl⟩,fun b z=>absurd z (noA b),e0.bs,e0.bsz,fun b _ _=>noA b,fun b z=>absurd z (noA b),e0.funs,e0.frf⟩,
  rfl,e0.bare,Un.kept hk,⟨_,x.toInCall.ns,fun i y v h1 h2 h3=>?_⟩,fun y c h=>⟨_,x.cell y c h⟩,e0.hok.fresh (Rk _),fun y c h=>?_,fun p hp=>absurd (show p∈([]:List (Addr×Obj)) from hp) (by simp),e0.hok.kept hk,?_⟩
 .exact name_of_addr x.apart (PySem.mem_of_lookup h1) (PySem.mem_of_lookup h2)
 .have hy:scope.names.lookup y=some .cell∨scope.names.lookup y=some .free:=hy;rcases hy with hy|hy
  .exact yT hy
  .exact absurd rfl (S.nofree _ (PySem.mem_of_lookup hy))
 .exact Te (x.above y c (PySem.mem_of_lookup h))
 .have hi:i<vs.length:=by
   unfold kO at h2
   by_cases hi:i<vs.length
   .exact hi
   .rw [gYq (by simpa using hi)]at h2
    rw[Tw]at h2;split at h2 <;> cases h2
  have ha:vs[i]?=some v:=by
   unfold kO at h2;rw[gZq (by simpa using hi),gMq]at h2
   cases e:vs[i]? with
   |none=>rw[e]at h2;cases h2
   |some a=>rw[e]at h2;cases h2;rfl
  obtain⟨u,hu,rv⟩:=r.get ha;have hp:ps[i]?=some y:=by
   rw[←S.pre,T7 (by lia)];exact h1
  have ndP:ps.Nodup:=by rw[←S.pre];exact S.nd.sublist (Sa _ _)
  refine⟨u,rv,?_⟩;rcases S.par y (mGq hp) with k|k
  .exact .inl ⟨k,uU ndP hp hu k⟩
  .obtain ⟨c,e⟩:=yT (n:=s.heap.objs.size+1) k;refine .inr ⟨.inl k,c,e,?_⟩;have q:=x.cell y c e;rw[vt ndP hp hu (by show scope.names.lookup y≠_;rw[k];decide)]at q
   exact q
 .exact e0.hok.fresh (Te (x.above y c (PySem.mem_of_lookup h)))
 .unfold kO;show _=N.length;rw[lAq,lMq,VF];lia
theorem Nw{CX:FV}{P:Program}{w:World}{K:W.Frag}{mg:Str->Option Value}{base:Heap}{k:Nat}{f:Addr}{name qual:Str}{params:Arguments}{body:List Stmt}{scope:Scope}{dV kV doc pm gm ct oc:Value}{an od:Option Addr}
  {osl:Array (Option Value)}{N ps:List Str}{sp:Sp}(lk:K.lookup f=some ⟨oc,od,.func (W.fnOf name qual params body scope dV kV doc pm an gm ct),osl⟩) (hcd:W.codeIn K gm qual=true) (S:bq N ps scope)
  (len:∀vs H Q E,sp vs H Q E->vs.length=ps.length)
  (hbody:∀(A:Around) (outer:List Env) (s:Shared) (H:Hp) (vs:List V) (Q:VK) (E:XK),jm k (A.deeper (envOfC qual scope s.heap.objs.size f gm))->sp vs H Q E ->
   ∃t,Ct (DD CX P w K mg base N qual scope f gm A outer s H E) body t/\t { nx:=fun _ H'=>Q .non H',rt:=Q } (kO N vs) H) :
  qT P w K mg base CX (k+1) f (W.fnOf name qual params body scope dV kV doc pm an gm ct) ps sp:=by
 refine⟨len,fun A outer s H args us vs Q E hr e0 hb r hsp=>?_⟩
 have hl:=len _ _ _ _ hsp;have KX:K.In s.heap:=e0.mod.kin.keeps fun b o e=>(e0.bs b o e).1
 have lim:s.heap.NoLimit:=e0.mod.nolimit.keeps fun b o e=>(e0.bs b o e).1
 have hkind:∀y∈ps.zip us,scope.names.lookup y.1=some .local∨(scope.names.lookup y.1=some .cell/\((cellsFrom (s.heap.objs.size+1) scope.names []).lookup y.1).isSome=true):=fun⟨n,v⟩ hy=>by
  rcases S.par n (VA hy).1 with q|q
  .exact .inl q
  .exact .inr ⟨q,W.cellsFrom_some _ _ _ (.inl q)⟩
 refine codeAny_call_function hr.depth (KX _ _ lk) rfl S.co S.gen rfl (W.codeRec_of KX hcd) (hb _ _ _ _ ?_);refine wpAny_newFunctionEnv_cells S.kind hkind fun env he s1 x=>?_
 subst he;refine⟨lim.keeps x.toInCall.keep,codeAny_func ?_⟩;obtain⟨t,ht,hq⟩:=hbody A outer s H vs Q E (hr.deeper _) hsp;have I:Inv (DD CX P w K mg base N qual scope f gm A outer s H E) [] (kO N vs) H s1:=CC S hr.hd e0 hl r x;refine wpAny_mono (ht [] s1 (kO N vs) H _ I hq) (fun fl s' hs=>?_) fun e s' hs=>hs
 have fin:∀{σ':St}{H':Hp}{v:V}{u:Value},Inv (DD CX P w K mg base N qual scope f gm A outer s H E) [] σ' H' s'->bR v u->Q v H'->CE outer P w H s Q u s' :=
  fun {σ' H' v u} J rv q=>⟨v,H',J.os,J.bare,J.base,J.hok,rv,q⟩
 cases fl with
 |ret u =>
  obtain⟨v,σ',H',J,rv,q⟩:=hs;exact fin J rv q
 |next =>
  obtain⟨σ',H',J,q⟩:=hs;exact fin (v:=V.non) (u:=WJ) J rfl q
 |brk =>
  obtain⟨_,_,_,q⟩:=hs;exact False.elim q
 |cont =>
  obtain⟨_,_,_,q⟩:=hs;exact False.elim q
section
variable {X:Cx}{x:Str}{p pos:Pos}{e:Expr}{es:List Expr}{t:TA}{id T:String}{r:List V->Hp->VK->Prop}
def Jj(r:List V->Hp->VK->Prop) (t:TA):TE:=fun σ H Q=>t σ H fun vs H1=>r vs H1 Q
theorem aS(hc:mL X (.builtin id) r) (hg:Gl X x) (hm:X.mg x=none) (hv:bootBuiltins x=some (.builtin id)) (ha:PA X (e::es) t) (hn:x ≠ "__name__" := by decide) (hdb:(x == ("__debug__" : Str))=false:=by decide)
  (he:starEach (e::es) X.env=(false,eval e X.env)::starEach es X.env:=by rfl) (hpl:(backTo pos (starEach es X.env)).any (·.1)=false:=by rfl):PE X (.Call (.Name x p) (e::es) [] pos) (Jj r t):=by
 intro aa s σ H Q I h;refine wpAny_Call_Name_kw (nq I hg hm hv ?_ hn hdb);exact Wk (dY (ha pos aa s σ H _ I h) fun us s1 ⟨vs,H1,I1,r1,q1⟩=>hc aa s1 σ H1 vs us Q I1 r1 q1) he hpl
theorem pY(hc:mL X (.type T) r) (hg:Gl X x) (hm:X.mg x=none) (hv:bootBuiltins x=some (.type T)) (ha:PA X (e::es) t) (hn:x ≠ "__name__" := by decide) (hdb:(x == ("__debug__" : Str))=false:=by decide)
  (he:starEach (e::es) X.env=(false,eval e X.env)::starEach es X.env:=by rfl) (hpl:(backTo pos (starEach es X.env)).any (·.1)=false:=by rfl):PE X (.Call (.Name x p) (e::es) [] pos) (Jj r t):=by
 intro aa s σ H Q I h;refine wpAny_Call_Name_kw (nq I hg hm hv ?_ hn hdb);exact Ta (dY (ha pos aa s σ H _ I h) fun us s1 ⟨vs,H1,I1,r1,q1⟩=>hc aa s1 σ H1 vs us Q I1 r1 q1) he hpl
end
end L2
namespace HT
open PySem PyProof.Rows
def dQ:List Int->List Int->Bool
 | [],[]=>false
 | [],_::_=>true
 |_::_,[]=>false
 |x::xs,y::ys=>if x=y then dQ xs ys else decide (x<y)
theorem kq(x y:Int) (xs ys:List Int):dQ (x::xs) (y::ys)=if x=y then dQ xs ys else decide (x<y):=rfl
theorem uI:dQ [] []=false:=rfl
theorem tY(y:Int) (ys:List Int):dQ [] (y::ys)=true:=rfl
theorem uo(x:Int) (xs:List Int):dQ (x::xs) []=false:=rfl
theorem Hb(A:Around) (s:Shared) (a:Int) (t:Tok) (c:Int) (u:Tok):∃e,SeqAt.EqAt A s (.int a t) (.int c u) e/\(e=true↔a=c) :=
 ⟨(a == c),SeqAt.EqAt.int_int a t c u,by simp⟩
theorem GI(A:Around) (s:Shared) (a:Int) (t:Tok) (c:Int) (u:Tok) (prog:Program) (w:World) (E:Value->Shared->Prop) (Q:Value->Shared->Prop) (h:Q (.bool (decide (a<c))) s) :
  wpAny (model prog w) A (richCompare .Lt (.int a t) (.int c u)) Q E s :=
 (WK h:wpAny (model prog w) A (compareOp .Lt (.int a t) (.int c u)) Q E s)
section
open PySem.SeqAt
open PySem.AutoSeq1 (wpAny_loadPart')
open PySem.MeetsSeq PySem.MeetsSeq2 PySem.MeetsSeq3
end
section
variable {prog:Program}{w:World}{A:Around}{E:Value->Shared->Prop}{s:Shared}
def uD(n d:Nat):Option Int->Nat
 |none=>d
 |some v=>if v<0 then (v+(n:Int)).toNat else min v.toNat n
theorem xW(n d:Nat):uD n d none=d:=rfl
theorem rF(n d k:Nat):uD n d (some (k:Int))=min k n:=by
 show (if (k:Int)<0 then ((k:Int)+(n:Int)).toNat else min (k:Int).toNat n)=min k n
 rw[if_neg (by lia),Tv]
end
end HT
namespace L2
open PySem PySem.Spec PyProof.Rows
abbrev TO:=St->Hp->(Option Int->Hp->Prop)->Prop
def PO(X:Cx) (e:Option Expr) (t:TO):Prop :=
 ∀(aa:List (Addr×Obj)) (s:Shared) (σ:St) (H:Hp) (Q:Option Int->Hp->Prop),Inv X aa σ H s->t σ H Q ->
  wpAny (model X.prog X.w) X.A (evalPart e X.env) (fun u s'=>∃o H',Inv X aa σ H' s'/\IsPart u o/\Q o H') X.xe s
def B9:TO:=fun _ H Q=>Q none H
def J7(t:TE):TO:=fun σ H Q=>t σ H fun x H1=>∃i,x = .int i/\Q (some i) H1
theorem mZ{ns:List Int}:∀{us:List Value},bo (ns.map V.int) us->IntsAre us ns:=by
 induction ns with
 |nil=>intro us r;rw[U2]at r;cases r;exact .nil
 |cons n ns ih =>
  intro us r;rw[Ru]at r;cases r with
  |cons r1 r2 =>
   obtain⟨t,e⟩:=r1;subst e;exact .cons n t (ih r2)
section
variable {X:Cx}{e:Expr}{te:TE}{lo hi:Option Expr}{tl th:TO}{pos p2:Pos}
theorem wq:PO X none B9:=by
 intro aa s σ H Q I h;rw[evalPart_none];exact wpAny_pure ⟨none,H,I,.none,h⟩
theorem nW(h:PE X e te):PO X (some e) (J7 te):=by
 intro aa s σ H Q I hw;rw[evalPart_some];refine dY (h aa s σ H _ I hw) fun u s1 ⟨x,H1,I1,r1,q1⟩=>?_
 obtain⟨i,rfl,q⟩:=q1;obtain⟨t,rfl⟩:=r1;exact⟨some i,H1,I1,.int i t,q⟩
def Qg(X:Cx) (r:V->Option Int->Option Int->Hp->VK->Prop):Prop :=
 ∀(aa:List (Addr×Obj)) (s:Shared) (σ:St) (H:Hp) (x:V) (v vl vu:Value) (lo hi:Option Int) (sl:Addr) (Q:VK),Inv X aa σ H s->bR x v->s.heap.IsSliceOf sl vl vu .none->IsPart vl lo->IsPart vu hi->r x lo hi H Q ->
  ∃T id,typeLookup (.type T) "__getitem__" = pure (some (.builtin id))/\s.TypeIs v T/\wpAny (model X.prog X.w) X.A (getItem v (.ref sl)) (EP X aa σ Q) X.xe s
def Qe(r:V->Option Int->Option Int->Hp->VK->Prop) (te:TE) (tl th:TO):TE:=fun σ H Q=>te σ H fun x H1=>tl σ H1 fun l H2=>th σ H2 fun u H3=>r x l u H3 Q
theorem oB{r:V->Option Int->Option Int->Hp->VK->Prop}(hr:Qg X r) (he:PE X e te) (hl:PO X lo tl) (hu:PO X hi th):PE X (.Subscript e (.Slice lo hi none p2) pos) (Qe r te tl th):=by
 intro aa s σ H Q I h;refine Subscript_ (dY (he aa s σ H _ I h) fun v s1 ⟨x,H1,I1,r1,q1⟩=>?_)
 refine wpAny_Slice (dY (hl aa s1 σ H1 _ I1 q1) fun vl s2 ⟨l,H2,I2,pl,q2⟩=>dY (hu aa s2 σ H2 _ I2 q2) fun vu s3 ⟨u,H3,I3,pu,q3⟩=>?_)
 rw[evalPart_none];refine wpAny_pure ?_;have I4:Inv X aa σ H3 { s3 with heap:=s3.heap.push { cls:=.type "slice", data:=.fields #[vl,vu,.none] } }:=I3.kept (t':=s3.toks) fun b ob q=>Rr _ q
 obtain⟨T,id,hT,ht,hg⟩:=hr aa { s3 with heap:=s3.heap.push { cls:=.type "slice", data:=.fields #[vl,vu,.none] } } σ H3 x v vl vu l u s3.heap.objs.size Q I4 r1 (Heap.IsSliceOf.new ..) pl pu q3
 show wpAny (model X.prog X.w) X.A (subscriptTail e (.Slice lo hi none p2) v (.ref s3.heap.objs.size)) (EP X aa σ Q) X.xe { s3 with heap:=s3.heap.push { cls:=.type "slice", data:=.fields #[vl,vu,.none] } }
 exact tail_any (ops:=[.ref s3.heap.objs.size,v]) ht hT hg (by with_unfolding_all rfl)
def A4(xs:List V) (lo hi:Option Int):List V:=(xs.drop (HT.uD xs.length 0 lo)).take (HT.uD xs.length xs.length hi-HT.uD xs.length 0 lo)
theorem yP(xs:List V) (lo hi:Option Int):(A4 xs lo hi).length<=xs.length:=by
 unfold A4;rw[lTq,RL];lia
end
def xo(n:Nat) (i:Int):Option Nat:=if 0<=i then (if i<n then some i.toNat else none) else if -(n:Int)<=i then some (i+n).toNat else none
def atI{α:Type}(xs:List α) (i:Int):Option α:=(xo xs.length i).bind fun j=>xs[j]?
theorem B8{n:Nat}{i:Int}{j:Nat}(h:xo n i=some j):seqIndex? i n=some j/\j<n/\-(n:Int)<=i/\i<n:=by
 unfold xo at h
 by_cases h0:0<=i
 .rw [if_pos h0]at h
  by_cases h1:i<n
  .rw [if_pos h1]at h;have e:i.toNat=j:=RD.inj h;exact⟨by rw[seqIndex_of h0 h1,e],by lia,by lia,h1⟩
  .rw [if_neg h1]at h;cases h
 .rw [if_neg h0]at h
  by_cases h1:-(n:Int)<=i
  .rw [if_pos h1]at h;have e:(i+n).toNat=j:=RD.inj h;exact⟨by rw[seqIndex_neg (by lia) h1,e],by lia,h1,by lia⟩
  .rw [if_neg h1]at h;cases h
theorem Ht{α:Type}{xs:List α}{i:Int}{v:α}(h:atI xs i=some v):∃j,seqIndex? i xs.length=some j/\xs[j]?=some v/\j<xs.length/\-(xs.length:Int)<=i/\i<xs.length:=by
 unfold atI at h;cases e:xo xs.length i with
 |none=>rw[e]at h;cases h
 |some j =>
  rw[e]at h;obtain⟨h1,h2,h3,h4⟩:=B8 e;exact⟨j,h1,h,h2,h3,h4⟩
theorem rJ{α:Type}{xs:List α}{j:Nat}{v:α}(h:xs[j]?=some v):atI xs (j:Int)=some v:=by
 have hj:j<xs.length:=(gSq.mp h).1;have e:xo xs.length (j:Int)=some j:=by
  unfold xo;rw[if_pos (by lia),if_pos (by lia)];simp
 unfold atI;rw[e];exact h
theorem GE{α:Type}(xs:List α) (v:α):atI (xs++[v]) (-1)=some v:=by
 have hl:(xs++[v]).length=xs.length+1:=by simp
 have e:xo (xs++[v]).length (-1)=some xs.length:=by
  unfold xo;rw[hl,if_neg (by decide),if_pos (by lia)]
  congr 1;lia
 unfold atI;rw[e];show (xs++[v])[xs.length]?=some v;simp
def HA(b:Expr):Prop:=∀o i,subscripted b false o i=operate [o,i] (getItem o i)
def Ql(X:Cx) (r:R2):Prop :=
 ∀(value slice:Expr) (aa:List (Addr×Obj)) (s:Shared) (σ:St) (H:Hp) (x y:V) (v u:Value) (Q:VK),Inv X aa σ H s->bR x v->bR y u->r x y H Q ->
  subscripted slice false v u=operate [v,u] (getItem v u)->wpAny (model X.prog X.w) X.A (subscriptTail value slice v u) (EP X aa σ Q) X.xe s
def O1(X:Cx) (id:String) (r:V->List V->Hp->VK->Prop):Prop :=
 ∀(aa:List (Addr×Obj)) (s:Shared) (σ:St) (H:Hp) (x:V) (xs:List V) (v:Value) (us:List Value) (Q:VK),Inv X aa σ H s->bR x v->bo xs us->r x xs H Q ->
  wpAny (model X.prog X.w) X.A (call (.builtin id) (v::us)) (EP X aa σ Q) X.xe s
section
variable {X:Cx}{a b:Expr}{ta tb:TE}{pos:Pos}
theorem mT{r:R2}(hr:Ql X r) (ha:PE X a ta) (hb:PE X b tb) (hs:HA b):PE X (.Subscript a b pos) (IJ r ta tb):=by
 intro aa s σ H Q I h;exact Subscript_ (LC ha hb I h fun v u s2 x y H2 I2 rx ry q=>hr a b aa s2 σ H2 x y v u Q I2 rx ry q (hs _ _))
def IU(K:W.Frag):R2:=fun x y H Q=>∃p xs i v,x = .ref p/\y = .int i/\dZ K H p xs/\atI xs i=some v/\Q v H
theorem gc:Ql X (IU X.K):=by
 intro value slice aa s σ H x y v u Q I rx ry h hs;obtain⟨p,xs,i,z,rfl,rfl,hq,he,q⟩:=h;cases rx;obtain⟨t,rfl⟩:=ry;obtain⟨its,r,pl,hz⟩:=I.list hq;obtain⟨j,h1,h2,h3,h4,h5⟩:=Ht he;obtain⟨w,ew,rw'⟩:=r.get h2;have hl:=r.length;have hn:=En;have fin:EP X aa σ Q w s:=⟨z,H,I,rw',q⟩
 by_cases h0:0<=i
 .have hj:i.toNat=j:=by
   rw[seqIndex_of h0 h5]at h1;exact RD.inj h1
  exact item_listR pl.isList h0 (by lia) (by rw[hj];simpa using ew) fin hs
 .have hj:(i+(its.toArray.size:Int)).toNat=j:=by
   rw[seqIndex_neg (by lia) h4]at h1
   rw[RH,←hl];exact RD.inj h1
  exact subscriptTail_builtinR (x:=w) pl.isList.typeIs slot_list_getitem.lookup
   (wpAny_getItem_list_neg (Q:=fun r s'=>r=w/\EP X aa σ Q r s') pl.isList (by lia) (by rw[RH] <;> lia) (by lia) (by rw[hj];simpa using ew) ⟨rfl,fin⟩) hs
theorem wU(lo hi:Option Int) (n:Nat):(sliceBounds lo hi none n).1=((HT.uD n 0 lo:Nat):Int)/\(sliceBounds lo hi none n).2.1=((HT.uD n n hi:Nat):Int)/\(sliceBounds lo hi none n).2.2=1:=by
 refine⟨?_,?_,rfl⟩
 .cases lo with
  |none=>simp[sliceBounds,HT.uD]
  |some i =>
   simp only[sliceBounds,HT.uD,Wc,show (1:Int)>0 by decide,if_true]
   by_cases h:i<0
   .simp only [h,if_true] <;> lia
   .simp only [h,if_false] <;> lia
 .cases hi with
  |none=>simp[sliceBounds,HT.uD]
  |some i =>
   simp only[sliceBounds,HT.uD,Wc,show (1:Int)>0 by decide,if_true]
   by_cases h:i<0
   .simp only [h,if_true] <;> lia
   .simp only [h,if_false] <;> lia
theorem uO(its:List Value) (lo hi:Option Int):slicePick its.toArray lo hi none=((its.drop (HT.uD its.length 0 lo)).take (HT.uD its.length its.length hi-HT.uD its.length 0 lo)).toArray:=by
 obtain⟨h1,h2,h3⟩:=wU lo hi its.toArray.size;unfold slicePick;rw[h1,h2,h3];simp only[sliceRange_one,pick_run,RH] <;> rfl
def N3(K:W.Frag):V->Option Int->Option Int->Hp->VK->Prop:=fun x lo hi H Q=>∃a xs,x = .ref a/\dZ K H a xs/\∀p,H p=none->Q (.ref p) (cI H p (.lst (A4 xs lo hi)))
theorem rn:Qg X (N3 X.K):=by
 intro aa s σ H x v vl vu lo hi sl Q I rx hs pl pu h;obtain⟨a,xs,rfl,hx,q⟩:=h;cases rx;obtain⟨its,r,ht,hz⟩:=I.list hx;have hlen:=r.length;refine⟨"list", _,slot_list_getitem.lookup,ht.isList.typeIs,?_⟩;refine wpAny_getItem_list_slice ht.isList hs pl pu .none (by simp) ?_ (by rw[RH] <;> lia)
 rw[uO,←hlen];refine⟨.ref s.heap.objs.size,_,I.laid (t':=s.toks) (o:=.lst (A4 xs lo hi)) (fun b ob q=>Rr _ q) (Rk _) ?_,rfl,q _ (I.hok.fresh (Rk _))⟩
 exact⟨S9 (yP xs lo hi) hz,_,0,(r.drop (HT.uD xs.length 0 lo)).take (HT.uD xs.length xs.length hi-HT.uD xs.length 0 lo),Sk _ rfl⟩
def mQ:V->Bool
 | .non=>true
 | .bl _=>true
 | .int _=>true
 | .str _=>true
 |_=>false
def J4:V->V->Bool
 | .non,.non=>true
 | .bl a,.bl b=>a == b
 | .bl a,.int b=>(if a then 1 else 0) == b
 | .int a,.bl b=>a == (if b then 1 else 0)
 | .int a,.int b=>a == b
 | .str a,.str b=>a == b
 |_,_=>false
theorem KW{A:Around}{s:Shared}{y x:V}{u v:Value}(ry:bR y u) (rx:bR x v) (fy:mQ y=true) (fx:mQ x=true):SeqAt.EqAt A s u v (J4 y x):=by
 cases y with
 |non =>
  cases ry;cases x with
  |non=>cases rx;exact SeqAt.EqAt.same _
  |bl b=>cases rx;exact SeqAt.EqAt.none_bool b
  |int b=>obtain⟨t,rfl⟩:=rx;exact SeqAt.EqAt.none_int b t
  |str b=>obtain⟨t,rfl⟩:=rx;exact SeqAt.EqAt.none_str b t
  |_=>exact absurd (show false=true from fx) RG
 |bl a =>
  cases ry;cases x with
  |non=>cases rx;exact SeqAt.EqAt.bool_none a
  |bl b=>cases rx;exact SeqAt.EqAt.bool_bool a b
  |int b=>obtain⟨t,rfl⟩:=rx;exact SeqAt.EqAt.bool_int a b t
  |str b=>obtain⟨t,rfl⟩:=rx;exact SeqAt.EqAt.bool_str a b t
  |_=>exact absurd (show false=true from fx) RG
 |int a =>
  obtain⟨t',rfl⟩:=ry;cases x with
  |non=>cases rx;exact SeqAt.EqAt.int_none a t'
  |bl b=>cases rx;exact SeqAt.EqAt.int_bool a t' b
  |int b=>obtain⟨t,rfl⟩:=rx;exact SeqAt.EqAt.int_int a t' b t
  |str b=>obtain⟨t,rfl⟩:=rx;exact SeqAt.EqAt.int_str a t' b t
  |_=>exact absurd (show false=true from fx) RG
 |str a =>
  obtain⟨t',rfl⟩:=ry;cases x with
  |non=>cases rx;exact SeqAt.EqAt.str_none a t'
  |bl b=>cases rx;exact SeqAt.EqAt.str_bool a t' b
  |int b=>obtain⟨t,rfl⟩:=rx;exact SeqAt.EqAt.str_int a t' b t
  |str b=>obtain⟨t,rfl⟩:=rx;exact SeqAt.EqAt.str_str a t' b t
  |_=>exact absurd (show false=true from fx) RG
 |_=>exact absurd (show false=true from fy) RG
def zi(x:V) (u:Value):Bool:=match u with
 | .none=>J4 .non x
 | .bool b=>J4 (.bl b) x
 | .int i _=>J4 (.int i) x
 | .str z _=>J4 (.str z) x
 |_=>false
theorem Eu{x y:V}{u:Value}(r:bR y u) (f:mQ y=true):zi x u=J4 y x:=by
 cases y with
 |non=>cases r;rfl
 |bl b=>cases r;rfl
 |int i=>obtain⟨t,rfl⟩:=r;rfl
 |str z=>obtain⟨t,rfl⟩:=r;rfl
 |_=>exact absurd (show false=true from f) RG
theorem oH{x:V}:∀{xs:List V}{us:List Value},bo xs us->xs.all mQ=true->us.any (zi x)=xs.any fun y=>J4 y x
 |_,_,.nil,_=>rfl
 |y::xs,u::us,.cons r t,f=>by
  rw[VS,TJ]at f;rw[TX,TX,Eu r f.1,oH t f.2]
theorem lY{A:Around}{s:Shared}{x:V}{v:Value}(rx:bR x v) (fx:mQ x=true):∀{xs:List V}{us:List Value},bo xs us->xs.all mQ=true->∀u∈us,SeqAt.EqAt A s u v (zi x u)
 |_,_,.nil,_=>fun u hu=>by cases hu
 |y::xs,u::us,.cons r t,f=>fun u' hu=>by
  rw[VS,TJ]at f;rcases Rl.mp hu with rfl|hu
  .rw [Eu r f.1];exact KW r rx f.1 fx
  .exact lY rx fx t f.2 u' hu
def Mw(x:V) (xs:List V):Bool:=xs.any fun y=>J4 y x
def PN(K:W.Frag) (neg:Bool):R2:=fun x y H Q=>∃p xs,y = .ref p/\(dZ K H p xs∨zz K H p xs)/\mQ x=true/\xs.all mQ=true/\Q (.bl (if neg then !Mw x xs else Mw x xs)) H
theorem C4:uG X (compareOp .In) (PN X.K false):=by
 intro aa s σ H x y v u Q I rx ry h;obtain⟨p,xs,rfl,hq,fx,fs,q⟩:=h;cases ry;rcases hq with hq|hq
 .obtain ⟨its,r,pl,hz⟩:=I.list hq;refine SeqAt.in_listAt (zi x) pl.isList (fun w hw=>lY rx fx r fs w (by simpa using hw)) ⟨.bl _,H,I,rfl,?_⟩
  rw[show its.toArray.any (zi x)=its.any (zi x) by simp,oH r fs]
  exact q
 .obtain ⟨its,r,pl,hz⟩:=I.tuple hq;refine SeqAt.in_tupleAt (zi x) pl (fun w hw=>lY rx fx r fs w (by simpa using hw)) ⟨.bl _,H,I,rfl,?_⟩
  rw[show its.toArray.any (zi x)=its.any (zi x) by simp,oH r fs]
  exact q
theorem oP:uG X (compareOp .NotIn) (PN X.K true):=by
 intro aa s σ H x y v u Q I rx ry h;obtain⟨p,xs,rfl,hq,fx,fs,q⟩:=h;cases ry;rcases hq with hq|hq
 .obtain ⟨its,r,pl,hz⟩:=I.list hq;refine SeqAt.notIn_listAt (zi x) pl.isList (fun w hw=>lY rx fx r fs w (by simpa using hw)) ⟨.bl _,H,I,rfl,?_⟩
  rw[show its.toArray.any (zi x)=its.any (zi x) by simp,oH r fs]
  exact q
 .obtain ⟨its,r,pl,hz⟩:=I.tuple hq;refine SeqAt.notIn_tupleAt (zi x) pl (fun w hw=>lY rx fx r fs w (by simpa using hw)) ⟨.bl _,H,I,rfl,?_⟩
  rw[show its.toArray.any (zi x)=its.any (zi x) by simp,oH r fs]
  exact q
theorem kM:mL X (.type "list") (fun xs H Q=>∃p ys,xs=[.ref p]/\(dZ X.K H p ys∨zz X.K H p ys)/\∀l,H l=none->Q (.ref l) (cI H l (.lst ys))):=by
 intro aa s σ H xs us Q I r h;obtain⟨p,ys,rfl,hq,q⟩:=h;obtain⟨u,rfl,rx⟩:=oh r;cases rx;have fin:∀(its:List Value),bo ys its->ys.length<=sizeLine->∀(h':Heap) (c':Nat),(∀b o',s.heap.get? b=some o'->h'.get? b=some o') ->
   h'.get? s.heap.objs.size=some { cls:=.type "list", dict:=none,data:=.seq its.toArray c',slots:=#[] }->EP X aa σ Q (.ref s.heap.objs.size) { s with heap:=h' }:=fun its r' hz h' c' kp e =>
  ⟨.ref s.heap.objs.size,_,I.laid (t':=s.toks) kp (Rk _) (show cW X.prog X.w _ h' _ (.lst ys) from ⟨hz,its,c',r',e⟩),rfl,q _ (I.hok.fresh (Rk _))⟩
 rcases hq with hq|hq
 .obtain ⟨its,r',pl,hz⟩:=I.list hq;have hlen:=r'.length;obtain⟨o,ho,hc,n,hd⟩:=pl.isList;exact call_list_seq p (.inl rfl) ho hc hd (fun h' c' kp e=>fin its r' hz h' c' kp e) (by simp only[RH] <;> lia)
 .obtain ⟨its,r',pl,hz⟩:=I.tuple hq;have hlen:=r'.length;obtain⟨o,ho,hc,n,hd⟩:=pl;exact call_list_seq p (.inr rfl) ho hc hd (fun h' c' kp e=>fin its r' hz h' c' kp e) (by simp only[RH] <;> lia)
def OJ(K:W.Frag) (T:String) (x:V) (H:Hp):Prop:=match x with
 | .str _=>T = "str"
 | .int _=>T = "int"
 | .ref p=>(T = "list" /\ ∃xs,dZ K H p xs)∨(T = "tuple" /\ ∃o,K.lookup p=some o/\o.cls = .type "tuple" /\ o.dict=none) ∨
   (T = "dict" /\ ((∃kvs,H p=some (.dK kvs))∨∃kvs,H p=some (.dT kvs)))∨(T = "set" /\ ∃S n,H p=some (.set S n))
 |_=>False
theorem Ee{aa:List (Addr×Obj)}{σ:St}{H:Hp}{s:Shared}{T:String}{x:V}{v:Value}(I:Inv X aa σ H s) (r:bR x v) (ty:OJ X.K T x H) :
  s.TypeIs v T/\∀a,v = .ref a->∃ob,s.heap.get? a=some ob/\ob.dict=none:=by
 cases x with
 |str z =>
  obtain⟨t,rfl⟩:=r;cases (show T = "str" from ty)
  exact⟨typeIs_str s z t,fun _ e=>nomatch e⟩
 |int i =>
  obtain⟨t,rfl⟩:=r;cases (show T = "int" from ty)
  exact⟨typeIs_int s i t,fun _ e=>nomatch e⟩
 |ref p =>
  cases r;rcases ty with ⟨rfl,xs,hq⟩|⟨rfl,o,hk,hc,hd⟩|⟨rfl,hk⟩|⟨rfl,S,n,hk⟩
  .obtain ⟨its,_,pl,_⟩:=I.list hq;refine⟨pl.isList.typeIs,fun a e=>?_⟩
   cases e;obtain⟨o,n,e,c,hd,_⟩:=pl;exact⟨o,e,hd⟩
  .refine ⟨⟨o,I.kIn p o hk,hc⟩,fun a e=>?_⟩
   cases e;exact⟨o,I.kIn _ o hk,hd⟩
  .have z:∃o,s.heap.get? p=some o/\o.ExactDict:=by
    rcases hk with ⟨kvs,hk⟩|⟨kvs,hk⟩
    .obtain ⟨_,_,_,_,o,_,_,e,ex,_⟩:=I.hok p _ hk;exact⟨o,e,ex⟩
    .obtain ⟨_,_,_,_,o,_,_,e,ex,_⟩:=I.hok p _ hk;exact⟨o,e,ex⟩
   obtain⟨o,e,ex⟩:=z;refine⟨⟨o,e,ex.1⟩,fun a e2=>?_⟩
   cases e2;exact⟨o,e,ex.2.1⟩
  .obtain ⟨o,_,_,_,e,ex,_⟩:=I.hok p _ hk;refine⟨⟨o,e,ex.1⟩,fun a e2=>?_⟩
   cases e2;exact⟨o,e,ex.2.1⟩
 |_=>exact False.elim ty
def Oc(K:W.Frag) (T:String) (r:V->List V->Hp->VK->Prop) (to:TE):TE:=fun σ H Q=>to σ H fun x H1=>OJ K T x H1/\r x [] H1 Q
def He(K:W.Frag) (T:String) (r:V->List V->Hp->VK->Prop) (to:TE) (t:TA):TE:=fun σ H Q=>to σ H fun x H1=>OJ K T x H1/\t σ H1 fun xs H2=>r x xs H2 Q
variable {o e:Expr}{es:List Expr}{to:TE}{t:TA}{name:Str}{apos cpos:Pos}{T id:String}{r:V->List V->Hp->VK->Prop}
theorem Aa(pa:PlainAttrs T) (slot:Slot T name id) (hty:typeOf (.builtin id)=pure (.type "method_descriptor")) (hm:O1 X id r) (ho:PE X o to)
  (hbase:attributeBase o name X.env (eval o X.env)=eval o X.env:=by rfl) (hline:(apos.endLine == cpos.line)=true:=by rfl):PE X (.Call (.Attribute o name apos) [] [] cpos) (Oc X.K T r to):=by
 intro aa s σ H Q I h;refine wpAny_Call_method0_late hbase hline (dY (ho aa s σ H _ I h) fun v s1 ⟨x,H1,I1,r1,ty,q1⟩=>?_)
 obtain⟨h1,h2⟩:=Ee I1 r1 ty;exact⟨T,id,pa,slot,hty,h1,h2,Calls.callWith_builtin rfl (PySem.evalArgs_none (hm aa s1 σ H1 x [] v [] Q I1 r1 .nil q1))⟩
theorem fN(pa:PlainAttrs T) (slot:Slot T name id) (hty:typeOf (.builtin id)=pure (.type "method_descriptor")) (hm:O1 X id r) (ho:PE X o to) (ha:PA X (e::es) t)
  (hbase:attributeBase o name X.env (eval o X.env)=eval o X.env:=by rfl)
  (hfew:((backTo cpos (starEach (e::es) X.env)).all (fun x=>!x.1) && (backToKw cpos (keywordEach [] X.env)).all (fun x=>x.1.isSome)
   && decide ((e::es).length+([]:List Keyword).length+(if ([]:List Keyword).isEmpty then 0 else 1)<30))=true:=by rfl)
  (hline:(apos.endLine == cpos.line)=true:=by rfl) (hs:starEach (e::es) X.env=(false,eval e X.env)::starEach es X.env:=by rfl) (hplain:(backTo cpos (starEach es X.env)).any (·.1)=false:=by rfl) :
  PE X (.Call (.Attribute o name apos) (e::es) [] cpos) (He X.K T r to t):=by
 intro aa s σ H Q I h;refine wpAny_Call_method_late hbase hfew hline rfl (dY (ho aa s σ H _ I h) fun v s1 ⟨x,H1,I1,r1,ty,q1⟩=>?_)
 obtain⟨h1,h2⟩:=Ee I1 r1 ty;refine⟨T,id,pa,slot,hty,h1,h2,?_⟩;have hA:=ha cpos aa s1 σ H1 _ I1 q1;rw[hs]at hA ⊢;refine Calls.callWith_builtin (by show (false || (backTo cpos (starEach es X.env)).any (·.1))=false;rw[hplain] <;> rfl) (Calls.evalArgs_plain ?_)
 exact dY hA fun us s2 ⟨vs,H2,I2,r2,q2⟩=>hm aa s2 σ H2 x vs v us Q I2 r1 r2 q2
/- xs.append(e),list.index on a module's tuple .. are O1 facts of 06m -/
end
def OR(X:Cx) (id:String) (r:V->List V->Hp->VK->Prop):Prop :=
 ∀(aa:List (Addr×Obj)) (s:Shared) (σ:St) (H:Hp) (x:V) (xs:List V) (v:Value) (us:List Value) (Q:VK),Inv X aa σ H s->bR x v->bo xs us->r x xs H Q ->
  wpAny (model X.prog X.w) X.A (call (.builtin id) (v::us)) (EP X aa σ Q) X.xe s
theorem bo.one:∀{x:V}{us:List Value},bo [x] us->∃u,us=[u]/\bR x u
 |_,_,.cons r .nil=>⟨_,rfl,r⟩
theorem bo.zero:∀{us:List Value},bo [] us->us=[]
 |_,.nil=>rfl
theorem bo.dropLast{xs:List V}{us:List Value}(h:bo xs us):bo xs.dropLast us.dropLast:=by
 induction h with
 |nil=>exact .nil
 |cons r t ih =>
  cases t with
  |nil=>exact .nil
  |cons q t'=>exact .cons r ih
theorem bo.eraseIdx:∀{xs:List V}{us:List Value}(i:Nat),bo xs us->bo (xs.eraseIdx i) (us.eraseIdx i)
 |_,_,_,.nil=>.nil
 |_,_,0,.cons _ t=>t
 |_,_,i+1,.cons r t=>.cons r (bo.eraseIdx i t)
theorem nj{α:Type}(l:List α):l.eraseIdx (l.length-1)=l.dropLast:=by
 induction l with
 |nil=>rfl
 |cons a r ih =>
  cases r with
  |nil=>rfl
  |cons b r =>
   have e:(a::b::r).length-1=((b::r).length-1)+1:=by
    have h1:(a::b::r).length=r.length+2:=rfl;have h2:(b::r).length=r.length+1:=rfl;lia
   rw[e,SI,ih]
   all_goals rfl
theorem vv{α:Type}:∀(l:List α) (i:Nat),(l.eraseIdx i).length<=l.length
 | [],_=>Rk _
 |_::_,0=>Tz _
 |_::r,i+1=>Nat.succ_le_succ (vv r i)
section
variable {X:Cx}{aa:List (Addr×Obj)}{σ:St}{H:Hp}{s:Shared}{l b:Addr}{xs ys zs:List V}
theorem Inv.lset{its its':List Value}{n:Nat}{f:Array Value->Array Value}{t':Nat}(I:Inv X aa σ H s) (hH:H l=some (.lst xs))
  (e:s.heap.get? l=some { cls:=.type "list", data:=.seq its.toArray n }) (hf:f its.toArray=its'.toArray) (hv:bo ys its') (hz:ys.length<=sizeLine) :
  Inv X aa σ (cI H l (.lst ys)) { s with heap:=s.heap.update l (Obj.mapSeq f),toks:=t' }:=by
 have q:=PySem.IsL.update e f;rw[hf]at q;refine I.write (x:=l) (e:=l) (by rw[hH];exact trivial) (.inl rfl) (fun b' u hb hu=>(Heap.get?_update_other s.heap (Obj.mapSeq f) (Ne.symm hb)).trans hu) ⟨_,q⟩ ?_
 exact⟨hz,its',_,hv,q⟩
theorem Inv.lnew{its:List Value}{t':Nat}(I:Inv X aa σ H s) (hv:bo ys its) (hz:ys.length<=sizeLine) :
  Inv X aa σ (cI H s.heap.objs.size (.lst ys)) { s with heap:=s.heap.push { cls:=.type "list", data:=.seq its.toArray },toks:=t' } :=
 I.laid (fun _ _ q=>Rr _ q) (Rk _) ⟨hz,its,0,hv,Sk _ rfl⟩
theorem Inv.fresh(I:Inv X aa σ H s):H s.heap.objs.size=none:=I.hok.fresh (Rk _)
theorem Inv.lstM(I:Inv X aa σ H s) (hH:H l=some (.lst xs)):xs.length<=sizeLine/\∃(its:List Value) (n:Nat),bo xs its/\xs.length=its.length/\s.heap.get? l=some { cls:=.type "list", data:=.seq its.toArray n }:=by
 obtain⟨z,its,n,r,e⟩:=I.hok l _ hH;exact⟨z,its,n,r,r.length,e⟩
theorem E8{n:Nat}(h:n<=sizeLine):Builtin.List.listTooLong n=false:=by
 unfold Builtin.List.listTooLong;exact decide_eq_false (by lia)
end
section
variable {X:Cx}
def mj:V->List V->Hp->VK->Prop:=fun x vs H Q=>∃l xs y,x = .ref l/\vs=[y]/\H l=some (.lst xs)/\xs.length<sizeLine/\Q .non (cI H l (.lst (xs++[y])))
theorem cC:OR X "list.append" mj:=by
 intro aa s σ H x vs v us Q I rx rv h;obtain⟨l,xs,y,rfl,rfl,hH,hz,q⟩:=h;cases rx;obtain⟨u,rfl,ru⟩:=rv.one;obtain⟨z,its,n,r,hl,e⟩:=I.lstM hH;refine call_meets F.slot_list_append ⟨_,e,rfl⟩ F.entry_list_append (F.args_list_append_2 _ _) (PySem.list_append l its.toArray n u (by rw[RH];lia)) ⟨e,?_⟩
 refine⟨.non,_,I.lset (its':=its++[u]) hH e (by simp) (r.append (.cons ru .nil)) ?_,rfl,q⟩
 rw[lAq,lSq];lia
def BG:V->List V->Hp->VK->Prop:=fun x vs H Q=>∃l b xs zs,x = .ref l/\vs=[.ref b]/\H l=some (.lst xs)/\H b=some (.lst zs)/\xs.length+zs.length<=sizeLine/\Q .non (cI H l (.lst (xs++zs)))
theorem vk:OR X "list.extend" BG:=by
 intro aa s σ H x vs v us Q I rx rv h;obtain⟨l,b,xs,zs,rfl,rfl,hH,hB,hz,q⟩:=h;cases rx;obtain⟨u,rfl,ru⟩:=rv.one;cases ru;obtain⟨z,its,n,r,hl,e⟩:=I.lstM hH;obtain⟨z2,its2,n2,r2,hl2,e2⟩:=I.lstM hB;have hsz:its.toArray.size+its2.toArray.size<=sizeLine:=by rw[RH,RH];lia
 have hlong:¬ (!its.toArray.isEmpty && Builtin.List.listTooLong (its.toArray.size+its2.toArray.size))=true:=by
  rw[E8 hsz,Bool.and_false];exact RG
 refine call_meets F.slot_list_extend ⟨_,e,rfl⟩ F.entry_list_extend (F.args_list_extend_2 _ _)
  (AutoSeq1.list_extend_list_list_0 l its.toArray n b its2.toArray n2 hlong (by rw[RH];lia) (by lia)) ⟨e,e2,?_⟩
 refine⟨.non,_,I.lset (its':=its++its2) hH e (by simp) (r.append r2) ?_,rfl,q⟩
 rw[lAq];lia
def K0:V->List V->Hp->VK->Prop:=fun x vs H Q=>∃l xs y,x = .ref l/\vs=[]/\H l=some (.lst xs)/\xs[xs.length-1]?=some y/\Q y (cI H l (.lst xs.dropLast))
theorem Af:OR X "list.pop" K0:=by
 intro aa s σ H x vs v us Q I rx rv h;obtain⟨l,xs,y,rfl,rfl,hH,hy,q⟩:=h;cases rx;have hus:=rv.zero;subst hus;obtain⟨z,its,n,r,hl,e⟩:=I.lstM hH;obtain⟨u,hu,ru⟩:=r.get hy;have hy':its.toArray[its.toArray.size-1]?=some u:=by
  show its.toArray[its.length-1]?=some u;rw[←RJ,←hl];exact hu
 refine call_meets F.slot_list_pop ⟨_,e,rfl⟩ F.entry_list_pop (F.args_list_pop_1 _) (MeetsSeq.list_pop_last l its.toArray n u hy' (by rw[RH];lia)) ⟨e,?_⟩
 refine⟨y,_,I.lset (its':=its.dropLast) hH e ?_ r.dropLast ?_,ru,q⟩
 .show its.toArray.eraseIdxIfInBounds (its.toArray.size-1)=its.dropLast.toArray;rw[RH,UM,nj]
 .rw [List.length_dropLast];lia
def Ge:V->List V->Hp->VK->Prop:=fun x vs H Q=>∃l xs i k y,x = .ref l/\vs=[.int i]/\H l=some (.lst xs)/\-(2 ^ 63)<=i/\i<2 ^ 63/\seqIndex? i xs.length=some k/\xs[k]?=some y/\Q y (cI H l (.lst (xs.eraseIdx k)))
theorem sA:OR X "list.pop" Ge:=by
 intro aa s σ H x vs v us Q I rx rv h;obtain⟨l,xs,i,k,y,rfl,rfl,hH,h1,h2,hk,hy,q⟩:=h;cases rx;obtain⟨u,rfl,ru⟩:=rv.one;obtain⟨t,rfl⟩:=ru;obtain⟨z,its,n,r,hl,e⟩:=I.lstM hH;obtain⟨w,hw,rw'⟩:=r.get hy;refine call_meets F.slot_list_pop ⟨_,e,rfl⟩ F.entry_list_pop (F.args_list_pop_2 _ _)
  (MeetsSeq.list_pop_at l its.toArray n i t k w (fitsIndex_both h1 h2) (by rw[RH,←hl];exact hk) (by rw[←RJ];exact hw) (by rw[RH];lia)) ⟨e,?_⟩
 refine⟨y,_,I.lset (its':=its.eraseIdx k) hH e ?_ (r.eraseIdx k) ?_,rw',q⟩
 .show its.toArray.eraseIdxIfInBounds k=(its.eraseIdx k).toArray;rw[UM]
 .have:=vv xs k;lia
def N5:R2:=fun x y H Q=>∃l b xs zs,x = .ref l/\y = .ref b/\H l=some (.lst xs)/\H b=some (.lst zs)/\xs.length+zs.length<=sizeLine/\∀p,H p=none->Q (.ref p) (cI H p (.lst (xs++zs)))
theorem Fx:uG X (binaryOp .Add) N5:=by
 intro aa s σ H x y v u Q I rx ry h;obtain⟨l,b,xs,zs,rfl,rfl,hH,hB,hz,q⟩:=h;cases rx;cases ry;obtain⟨z,its,n,r,hl,e⟩:=I.lstM hH;obtain⟨z2,its2,n2,r2,hl2,e2⟩:=I.lstM hB;refine PySem.P.add_list e e2 ?_ (by rw[RH,RH];lia)
 have ea:its.toArray++its2.toArray=(its++its2).toArray:=by simp
 rw[ea];exact⟨.ref _,_,I.lnew (t':=s.toks) (r.append r2) (by rw[lAq];lia),rfl,q _ I.fresh⟩
end
section
variable {κ:Type} [DecidableEq κ]
def oZ(kvs:List (κ×V)) (k:κ):Option V:=(kvs.find? fun kv=>decide (kv.1=k)).map (·.2)
def iN(kvs:List (κ×V)) (k:κ) (v:V):List (κ×V) :=
 if (kvs.any fun kv=>decide (kv.1=k))=true then kvs.map (fun kv=>if kv.1=k then (kv.1,v) else kv) else kvs++[(k,v)]
theorem um{p:κ×V}{r:List (κ×V)}{k:κ}(e:p.1=k):oZ (p::r) k=some p.2:=by simp[oZ,Ue,e]
theorem rY{p:κ×V}{r:List (κ×V)}{k:κ}(e:¬ p.1=k):oZ (p::r) k=oZ r k:=by simp[oZ,Ue,e]
theorem xM(k:κ):∀kvs:List (κ×V),(kvs.any fun kv=>decide (kv.1=k))=(oZ kvs k).isSome
 | []=>rfl
 |p::r=>by
  rw[TX]
  by_cases e:p.1=k
  .simp only [um e,decide_eq_true e,Bool.true_or,Option.isSome_some]
  .rw [rY e,decide_eq_false e,Bool.false_or];exact xM k r
theorem iW(kvs:List (κ×V)) (k:κ) (v:V):(iN kvs k v).length<=kvs.length+1:=by
 unfold iN;split
 .rw [lMq];lia
 .rw [lAq,lCq,TU];lia
theorem uM.isSome_eq{o:Option V}{u:Option Value}(r:uM o u):o.isSome=u.isSome:=by
 cases o with
 |none=>cases u with
  |none=>rfl
  |some _=>exact(show False from r).elim
 |some _=>cases u with
  |none=>exact(show False from r).elim
  |some _=>rfl
theorem KV.val{kvs:List (κ×V)}{vs:List (κ×Value)}(r:KV kvs vs) (k:κ):uM (oZ kvs k) (valueAt vs k):=by
 unfold KV at r
 induction r with
 |nil=>exact True.intro
 | @cons p q ps qs h t ih =>
  obtain⟨h1,h2⟩:=h
  by_cases e:p.1=k
  .have e':q.1=k:=h1.symm.trans e;have b:valueAt (q::qs) k=some q.2:=by simp[valueAt,Ue,e']
   rw[um e,b];exact h2
  .have e':¬ q.1=k:=fun z=>e (h1.trans z)
   have b:valueAt (q::qs) k=valueAt qs k:=by simp[valueAt,Ue,e']
   rw[rY e,b];exact ih
theorem KV.any{kvs:List (κ×V)}{vs:List (κ×Value)}(r:KV kvs vs) (k:κ):(kvs.any fun kv=>decide (kv.1=k))=vs.any fun kv=>decide (kv.1=k):=by
 unfold KV at r
 induction r with
 |nil=>rfl
 |cons h t ih=>rw[TX,TX,ih,h.1]
theorem KV.repl{kvs:List (κ×V)}{vs:List (κ×Value)}(r:KV kvs vs) (k:κ) {y:V}{u:Value}(ry:bR y u) :
  KV (kvs.map fun kv=>if kv.1=k then (kv.1,y) else kv) (vs.map fun kv=>if kv.1=k then (kv.1,u) else kv):=by
 unfold KV at r ⊢
 induction r with
 |nil=>exact .nil
 | @cons p q ps qs h t ih =>
  rw[Ru,Ru];refine .cons ?_ ih;obtain⟨h1,h2⟩:=h
  by_cases e:p.1=k
  .rw [if_pos e,if_pos (h1.symm.trans e)];exact⟨h1,ry⟩
  .rw [if_neg e,if_neg (fun z=>e (h1.trans z))];exact⟨h1,h2⟩
theorem KV.put{kvs:List (κ×V)}{vs:List (κ×Value)}(r:KV kvs vs) (k:κ) {y:V}{u:Value}(ry:bR y u):KV (iN kvs k y) (stored vs k u):=by
 unfold iN stored;rw[r.any k]
 by_cases e:(vs.any fun kv=>decide (kv.1=k))=true
 .rw [if_pos e,if_pos e];exact r.repl k ry
 .rw [if_neg e,if_neg e];exact Paired.snoc r ⟨rfl,ry⟩
theorem KV.length{kvs:List (κ×V)}{vs:List (κ×Value)}(r:KV kvs vs):kvs.length=vs.length:=Paired.length r
end
theorem zd{P:Program}{w:World}{k:aN}{u:Value}(r:bR (kV k) u):(bZ P w).is k u=true:=by
 cases k with
 |inl i=>obtain⟨t,e⟩:=(show ∃t,u=VE i t from r);subst e;exact yA P w i t
 |inr x=>obtain⟨t,e⟩:=(show ∃t,u=Wx x t from r);subst e;exact xI P w x t
theorem vC{P:Program}{w:World}:∀{ks:List aN}{us:List Value},bo (ks.map kV) us->ItemsAre (bZ P w) ks us
 | [],_,r=>by rw[U2]at r;cases r;exact .nil
 |k::ks,_,r=>by
  rw[Ru]at r;cases r with
  |cons h t=>exact .cons (zd h) (vC t)
abbrev KT(H:Hp):List (List aN×V)->List (List aN×Addr×Value)->Prop:=Paired fun p q=>p.1=q.1/\H q.2.1=some (.tup (p.1.map kV))/\bR p.2 q.2.2
theorem KT.val{H:Hp}{kvs:List (List aN×V)}{xs:List (List aN×Addr×Value)}(r:KT H kvs xs) (k:List aN):uM (oZ kvs k) ((atKey xs k).map (·.2)):=by
 induction r with
 |nil=>exact True.intro
 | @cons p q ps qs h t ih =>
  obtain⟨h1,_,h2⟩:=h
  by_cases e:p.1=k
  .have e':q.1=k:=h1.symm.trans e;have b:atKey (q::qs) k=some q.2:=by simp[atKey,Ue,e']
   rw[um e,b];exact h2
  .have e':¬ q.1=k:=fun z=>e (h1.trans z)
   have b:atKey (q::qs) k=atKey qs k:=by simp[atKey,Ue,e']
   rw[rY e,b];exact ih
theorem KT.repl{H:Hp}{kvs:List (List aN×V)}{xs:List (List aN×Addr×Value)}(r:KT H kvs xs) (k:List aN) {y:V}{u:Value}(ry:bR y u) :
  KT H (kvs.map fun kv=>if kv.1=k then (kv.1,y) else kv) (xs.map (putAt k u)):=by
 induction r with
 |nil=>exact .nil
 | @cons p q ps qs h t ih =>
  rw[Ru,Ru];refine .cons ?_ ih;obtain⟨h1,h2,h3⟩:=h;unfold putAt
  by_cases e:p.1=k
  .rw [if_pos e,if_pos (h1.symm.trans e)];exact⟨h1,h2,ry⟩
  .rw [if_neg e,if_neg (fun z=>e (h1.trans z))];exact⟨h1,h2,h3⟩
theorem KT.put{H:Hp}{kvs:List (List aN×V)}{xs:List (List aN×Addr×Value)}(r:KT H kvs xs) (k:List aN) {b:Addr}{y:V}{u:Value}(hb:H b=some (.tup (k.map kV))) (ry:bR y u) :
  KT H (iN kvs k y) (storedH xs k b u):=by
 have e:(kvs.any fun kv=>decide (kv.1=k))=(atKey xs k).isSome:=by
  rw[xM,(r.val k).isSome_eq,Ul]
 unfold iN storedH;rw[e]
 by_cases q:(atKey xs k).isSome=true
 .rw [if_pos q,if_pos q];exact r.repl k ry
 .rw [if_neg q,if_neg q];exact Paired.snoc r ⟨rfl,hb,ry⟩
theorem KT.keeps{H H':Hp}{kvs:List (List aN×V)}{xs:List (List aN×Addr×Value)}(r:KT H kvs xs) (ht:∀b ys,H b=some (.tup ys)->H' b=some (.tup ys)):KT H' kvs xs :=
 Paired.mapP r fun _ _ z=>⟨z.1,ht _ _ z.2.1,z.2.2⟩
section
variable {P:Program}{w:World}{H:Hp}{h:Heap}{a:Addr}
theorem JT{u:HO}(ok:nU P w H h) (e:Rd H a u):cW P w H h a u:=e.ok ok
theorem yE{kvs:List (aN×V)}(ok:nU P w H h) (e:Rd H a (.dK kvs)):kvs.length<=sizeLine/\(a == sysModules)=false/\∃vs,KV kvs vs/\h.DictOf (bZ P w) a vs :=
 show cW P w H h a (.dK kvs) from JT ok e
theorem JV{kvs:List (aN×V)}(ok:nU P w H h) (e:H a=some (.dK kvs)):kvs.length<=sizeLine/\(a == sysModules)=false/\∃vs,KV kvs vs/\h.DictOf (bZ P w) a vs:=yE ok (.inl e)
theorem xi{ks:List aN}(ok:nU P w H h) (e:H a=some (.tup (ks.map kV))):(tupleKind (bZ P w)).is h ks a:=by
 obtain⟨_,its,r,o,h1,h2,n,h3⟩:=(show cW P w H h a (.tup (ks.map kV)) from ok a _ e)
 exact⟨o,its.toArray,n,h1,h2,h3,by simpa using vC r⟩
theorem yS{kvs:List (List aN×V)}(ok:nU P w H h) (e:Rd H a (.dT kvs)):kvs.length<=sizeLine/\(a == sysModules)=false /\
  ∃xs,KT H kvs xs/\h.DictOfH (tupleKind (bZ P w)) a xs:=by
 obtain⟨z,y,xs,r,o,es,ep,h1,h2,h3,h4,h5⟩:=(show cW P w H h a (.dT kvs) from JT ok e)
 refine⟨z,y,xs,r,o,es,ep,h1,h2,h3,h4,fun x hx=>?_,h5⟩
 have all:∀{l:List (List aN×V)}{m:List (List aN×Addr×Value)},KT H l m->∀x∈m,(tupleKind (bZ P w)).is h x.1 x.2.1:=by
  intro l m q
  induction q with
  |nil=>intro x hx;exact nomatch hx
  | @cons p q ps qs hq t ih =>
   intro x hx;rcases Rl.mp hx with e|hx
   .subst e;exact xi ok (by rw[←hq.1];exact hq.2.1)
   .exact ih x hx
 exact all r x hx
theorem NZ{kvs:List (List aN×V)}(ok:nU P w H h) (e:H a=some (.dT kvs)):kvs.length<=sizeLine/\(a == sysModules)=false /\
  ∃xs,KT H kvs xs/\h.DictOfH (tupleKind (bZ P w)) a xs:=yS ok (.inl e)
end
def sv(H:Hp) (a:Addr) (y:V) (r:Option V):Prop :=
 (∃kvs k,Rd H a (.dK kvs)/\y=kV k/\r=oZ kvs k)∨∃kvs k b,Rd H a (.dT kvs)/\y = .ref b/\H b=some (.tup (k.map kV))/\r=oZ kvs k
def Gb(H:Hp) (a:Addr) (y v:V) (H':Hp):Prop :=
 (∃kvs k,H a=some (.dK kvs)/\y=kV k/\kvs.length<sizeLine/\H'=cI H a (.dK (iN kvs k v))) ∨
 ∃kvs k b,H a=some (.dT kvs)/\y = .ref b/\H b=some (.tup (k.map kV))/\kvs.length<sizeLine/\H'=cI H a (.dT (iN kvs k v))
theorem sv.k{H:Hp}{a:Addr}{kvs:List (aN×V)}{k:aN}(e:H a=some (.dK kvs)):sv H a (kV k) (oZ kvs k):=.inl ⟨kvs,k,.inl e,rfl,rfl⟩
theorem Gb.k{H:Hp}{a:Addr}{kvs:List (aN×V)}{k:aN}{v:V}(e:H a=some (.dK kvs)) (hl:kvs.length<sizeLine):Gb H a (kV k) v (cI H a (.dK (iN kvs k v))):=.inl ⟨kvs,k,e,rfl,hl,rfl⟩
section
variable {X:Cx}{aa:List (Addr×Obj)}{σ:St}{H:Hp}{s:Shared}{a:Addr}{y v:V}{u r:Value}{o:Option V}{A:Around}{E:Value->Shared->Prop}
theorem Inv.big(I:Inv X aa σ H s):sysModules<s.heap.objs.size:=by
 have h:mainGlobals<s.heap.objs.size:=(I.mod.glob.keeps I.bk).lt;exact Nat.lt_trans (by decide) h
theorem C3{Q:Value->Shared->Prop}(hu:A.units+1<cLine) (I:Inv X aa σ H s) (g:sv H a y (some v)) (ry:bR y u) (h:∀w' s',Inv X aa σ H s'->bR v w'->Q w' s') :
  wpAny (model X.prog X.w) A (getItem (.ref a) u) Q E s:=by
 rcases g with ⟨kvs,k,e,ey,l⟩|⟨kvs,k,b,e,ey,eb,l⟩
 .subst ey;obtain⟨z,hd,vs,rel,dd⟩:=yE I.hok e;obtain⟨w',hw,rw'⟩:=uM.some_of (v:=v) (o:=valueAt vs k) (by rw[l];exact rel.val k)
  exact wpAny_getItem_of (zd ry) dd.mapOf hw (h w' _ (I.tok _) rw')
 .subst ey;cases (show u=S8 b from ry)
  obtain⟨z,hd,xs,rel,dd⟩:=yS I.hok e;obtain⟨w',hw,rw'⟩:=uM.some_of (v:=v) (o:=(atKey xs k).map (·.2)) (by rw[l];exact rel.val k)
  obtain⟨p,hp,hp2⟩:=oMq.mp hw;refine wpAny_getItem_heap (tupleKind_room_in1 hu) (xi I.hok eb) dd hp ?_;rw[hp2];exact h w' _ (I.tok _) rw'
theorem Ja{Q:Value->Shared->Prop}(hu:A.units+1<cLine) (I:Inv X aa σ H s) (g:sv H a y o) (ry:bR y u) (h:∀s',Inv X aa σ H s'->Q (.bool (!o.isSome)) s') :
  wpAny (model X.prog X.w) A (compareOp .NotIn u (.ref a)) Q E s:=by
 rcases g with ⟨kvs,k,e,ey,l⟩|⟨kvs,k,b,e,ey,eb,l⟩
 .subst ey;obtain⟨z,hd,vs,rel,dd⟩:=yE I.hok e;refine wpAny_notIn_of (zd ry) hd dd.mapOf ?_;rw[← (rel.val k).isSome_eq,←l];exact h _ (I.tok _)
 .subst ey;cases (show u=S8 b from ry)
  obtain⟨z,hd,xs,rel,dd⟩:=yS I.hok e;refine wpAny_notIn_heap (tupleKind_room_in1 hu) (xi I.hok eb) hd dd ?_;have q:=(rel.val k).isSome_eq;rw[Ul]at q;rw[←q,←l];exact h _ (I.tok _)
theorem vL{h':Heap}{t':Nat}{ob:HO}(I:Inv X aa σ H s) (mu:NK (H a)) (hs:U1 a s.heap h') (he:∃q,h'.get? a=some q) (new:cW X.prog X.w (cI H a ob) h' a ob) :
  Inv X aa σ (cI H a ob) { s with heap:=h',toks:=t' } :=
 I.write (x:=a) (e:=a) mu (.inl rfl) (fun b q hb z=>(hs.2 b hb).trans z) he new
theorem Ar{P:Program}{w:World}{H':Hp}{h':Heap}{kvs:List (aN×V)}{vs:List (aN×Value)}(z:kvs.length<=sizeLine) (hd:(a == sysModules)=false) (rel:KV kvs vs) (dd:h'.DictOf (bZ P w) a vs) :
  cW P w H' h' a (.dK kvs):=⟨z,hd,vs,rel,dd⟩
theorem CU{H':Hp}{Q:Unit->Shared->Prop}(hu:A.units+1<cLine) (I:Inv X aa σ H s) (g:Gb H a y v H') (ry:bR y u) (rv:bR v r) (h:∀s',Inv X aa σ H' s'->Q () s') :
  wpAny (model X.prog X.w) A (setItem (.ref a) u r) Q E s:=by
 rcases g with ⟨kvs,k,e,ey,l,eH⟩|⟨kvs,k,b,e,ey,eb,l,eH⟩
 .subst ey eH;obtain⟨z,hd,vs,rel,dd⟩:=JV I.hok e;have hz:vs.length<=sizeLine:=by rw[←rel.length];exact z
  have hl:(iN kvs k v).length<=sizeLine:=by have:=iW kvs k v;lia
  refine wpAny_setItem_pairs (hsz:=hz) (zd ry) dd fun h' dd' hs=>h _ ?_
  have he:∃q,h'.get? a=some q:=let ⟨q,_,_,hq,_⟩:=dd';⟨q,hq⟩
  exact vL I (by rw[e];exact True.intro) hs he (Ar hl hd (rel.put k rv) dd')
 .subst ey eH;cases (show u=S8 b from ry)
  obtain⟨z,hd,xs,rel,dd⟩:=NZ I.hok e;have hz:xs.length<=sizeLine:=by rw[←Paired.length rel];exact z
  have hl:(iN kvs k v).length<=sizeLine:=by have:=iW kvs k v;lia
  refine wpAny_setItem_heap (hsz:=hz) (tupleKind_room_in1 hu) (xi I.hok eb) dd fun h' dd' hs=>h _ ?_
  obtain⟨q,es,ep,hq,h2,h3,h4,_,h5⟩:=dd';refine vL I (by rw[e];exact True.intro) hs ⟨q,hq⟩ ⟨hl,hd,_,(rel.put k eb rv).keeps fun c ys ec=>?_,q,es,ep,hq,h2,h3,h4,h5⟩
  rw[aL (Oh ec e (fun z=>nomatch z))]
  exact ec
end
def M9(i:Expr):Prop:=∀ov iv,subscripted i false ov iv=operate [ov,iv] (getItem ov iv)
theorem JD{prog:Program}{w:World}{A:Around}{E:Value->Shared->Prop}{s:Shared}{env:Env}{value slice:Expr}{pos:Pos}{T id:String}{Q:Value->Shared->Prop}
  (hl:typeLookup (.type T) "__getitem__" = pure (some (.builtin id))) (hs:M9 slice)
  (h:wpAny (model prog w) A (eval value env) (fun o s₁=>wpAny (model prog w) A (eval slice env) (fun i s₂=>s₂.TypeIs o T/\wpAny (model prog w) A (getItem o i) Q E s₂) E s₁) E s) :
  wpAny (model prog w) A (eval (.Subscript value slice pos) env) Q E s:=by
 refine Subscript_ (wpAny_mono h (fun o s₁ h₁=>wpAny_mono h₁ (fun i s₂ h₂=>?_) fun _ _ x=>x) fun _ _ x=>x)
 obtain⟨hT,h₂⟩:=h₂;unfold subscriptTail;refine wpAny_bind ?_;rw[getitemInPython_of_ne hT.not_modules];refine wpAny_bind (wpAny_specialOf hT hl ?_);have fin:wpAny (model prog w) A (subscripted slice false o i) (fun r s₃=>wpAny (model prog w) A (letTemporaryGo value o r >>= fun _=>pure r) Q E s₃) E s₂:=by
  rw[hs o i];exact wpAny_operating (wpAny_mono h₂ (fun r s₃ h₃=>wpAny_bind (wpAny_letTemporaryGo (wpAny_pure h₃))) fun _ _ x=>x)
 first
  |exact wpAny_pure (wpAny_bind fin)
  |exact wpAny_bind (wpAny_pure (wpAny_bind fin))
  |exact wpAny_bind fin
theorem yY{X:Cx}{aa:List (Addr×Obj)}{σ:St}{H:Hp}{s:Shared}{a:Addr}{y:V}{o:Option V}(I:Inv X aa σ H s) (g:sv H a y o):s.TypeIs (.ref a) "dict" := by
 rcases g with ⟨kvs,k,e,_,_⟩|⟨kvs,k,b,e,_,_,_⟩
 .obtain ⟨_,_,vs,_,dd⟩:=yE I.hok e;exact dd.typeIs
 .obtain ⟨_,_,xs,_,dd⟩:=yS I.hok e;exact dd.typeIs
def GU(td ty:TE):TE:=fun σ H Q=>td σ H fun x H1=>ty σ H1 fun y H2=>∃a v,x = .ref a/\sv H2 a y (some v)/\Q v H2
def Bq(ty td:TE):TE:=fun σ H Q=>ty σ H fun y H1=>td σ H1 fun x H2=>∃a o,x = .ref a/\sv H2 a y o/\Q (.bl (!o.isSome)) H2
def J6(td ty tv:TE):TS:=fun D σ H=>tv σ H fun v H1=>td σ H1 fun x H2=>ty σ H2 fun y H3=>∃a H4,x = .ref a/\Gb H3 a y v H4/\D.nx σ H4
section
variable {X:Cx}{o i e value:Expr}{pos pos' tpos:Pos}{td ty tv:TE}
theorem jf(hu:X.A.units+1<cLine) (ho:PE X o td) (hi:PE X i ty) (hs:M9 i):PE X (.Subscript o i pos) (GU td ty):=by
 intro aa s σ H Q I h;refine JD PySem.F.slot_dict_getitem.lookup hs (dY (ho aa s σ H _ I h) fun u s1 ⟨x,H1,I1,rx,q1⟩=>dY (hi aa s1 σ H1 _ I1 q1) fun iv s2 ⟨y,H2,I2,ry,a,v,ex,g,q2⟩=>?_)
 subst ex;obtain rfl:u=S8 a:=rx;exact⟨yY I2 g,C3 hu I2 g ry fun w' s3 I3 rw'=>⟨v,H2,I3,rw',q2⟩⟩
theorem qf(hu:X.A.units+1<cLine) (hi:PE X i ty) (ho:PE X o td):PC X .NotIn i o (Bq ty td):=by
 intro aa s σ H Q I h;refine dY (hi aa s σ H _ I h) fun iv s1 ⟨y,H1,I1,ry,q1⟩=>dY (ho aa s1 σ H1 _ I1 q1) fun u s2 ⟨x,H2,I2,rx,a,ov,ex,g,q2⟩=>?_
 subst ex;obtain rfl:u=S8 a:=rx;exact Ja hu I2 g ry fun s3 I3=>⟨.bl (!ov.isSome),H2,I3,rfl,q2⟩
theorem pI(hu:X.A.units+1<cLine) (ho:PE X o td) (hi:PE X i ty) (hv:PE X value tv) (hs:swapsWith value (some (.Subscript o i pos')) pos.line X.env=pure false) :
  PS X (.Assign [.Subscript o i pos'] value pos) (J6 td ty tv):=by
 intro aa s σ H D I h;refine wpAny_Assign_Subscript (dY (hv aa s σ H _ I h) fun r s1 ⟨v,H1,I1,rv,q1⟩=>dY (ho aa s1 σ H1 _ I1 q1) fun u s2 ⟨x,H2,I2,rx,q2⟩=>dY (hi aa s2 σ H2 _ I2 q2) fun iv s3 ⟨y,H3,I3,ry,a,H4,ex,g,q3⟩=>?_) hs
 subst ex;obtain rfl:u=S8 a:=rx;exact CU hu I3 g ry rv fun s4 I4=>⟨σ,H4,I4,q3⟩
end
theorem yM{P:Program}{w:World}{H:Hp}(h:Heap) (hb:sysModules<h.objs.size):cW P w H (h.push { cls:=.type "dict", data:=.dict #[] }) h.objs.size (.dK []) :=
 ⟨Sl _,beq_eq_false_iff_ne.mpr (Ne.symm (RI hb)),[],.nil,WE.new h⟩
def Gd:TE:=fun _ H Q=>∀p,H p=none->Q (.ref p) (cI H p (.dK []))
section
variable {X:Cx}{pos:Pos}
theorem oS:PE X (.Dict [] [] pos) Gd:=fun aa s σ H Q I h =>
 wpAny_Dict_empty ⟨.ref s.heap.objs.size,_,I.laid (a:=s.heap.objs.size) (o:=.dK []) (t':=s.toks) (fun _ _ q=>Rr _ q) (Rk _) (yM s.heap I.big),rfl,h _ (I.hok.fresh (Rk _))⟩
end
def Ax:List (TE×TE)->St->Hp->(List (V×V)->Hp->Prop)->Prop
 | [],_,H,Q=>Q [] H
 | (tk,tv)::r,σ,H,Q=>tk σ H fun x H1=>tv σ H1 fun y H2=>Ax r σ H2 fun ps H3=>Q ((x,y)::ps) H3
abbrev VV:List (V×V)->List (Value×Value)->Prop:=Paired fun p q=>bR p.1 q.1/\bR p.2 q.2
def O2(X:Cx) (pos:Pos) (keys:List (Option Expr)) (values:List Expr) (trs:List (TE×TE)):Prop :=
 ∀(aa:List (Addr×Obj)) (s:Shared) (σ:St) (H:Hp) (Q:List (V×V)->Hp->Prop),Inv X aa σ H s->Ax trs σ H Q ->
  wpAny (model X.prog X.w) X.A (evalPairs (pairTrees keys values X.env pos)) (fun vs s'=>∃ps H',Inv X aa σ H' s'/\VV ps vs/\Q ps H') X.xe s
theorem Jb{X:Cx}{pos:Pos}:O2 X pos [] [] []:=fun aa s σ H Q I h=>pairTrees_nil_walk ⟨[],H,I,.nil,h⟩
theorem G5{X:Cx}{pos:Pos}{k v:Expr}{ks:List (Option Expr)}{vs:List Expr}{tk tv:TE}{trs:List (TE×TE)}(hk:PE X k tk) (hv:PE X v tv) (hr:O2 X pos ks vs trs) :
  O2 X pos (some k::ks) (v::vs) ((tk,tv)::trs):=fun aa s σ H Q I h =>
 pairTrees_cons_walk (dY (hk aa s σ H _ I h) fun u s1 ⟨x,H1,I1,rx,q1⟩=>dY (hv aa s1 σ H1 _ I1 q1) fun w2 s2 ⟨y,H2,I2,ry,q2⟩ =>
  dY (hr aa s2 σ H2 _ I2 q2) fun ws s3 ⟨ps,H3,I3,rel,q3⟩=>⟨(x,y)::ps,H3,I3,.cons ⟨rx,ry⟩ rel,q3⟩)
def qj(kvs more:List (aN×V)):List (aN×V):=more.foldl (fun acc kv=>iN acc kv.1 kv.2) kvs
theorem KV.merge:∀{more:List (aN×V)}{rs:List (aN×Value)}{kvs:List (aN×V)}{vs:List (aN×Value)},KV more rs->KV kvs vs->KV (qj kvs more) (merged vs rs):=by
 intro more rs kvs vs r;unfold KV at r
 induction r generalizing kvs vs with
 |nil=>intro q;exact q
 | @cons p q ps qs h t ih =>
  intro r0;have e:KV (iN kvs p.1 p.2) (stored vs q.1 q.2):=by
   have:=r0.put p.1 h.2;rw[←h.1];exact this
  exact ih e
theorem mR:∀(more kvs:List (aN×V)),(qj kvs more).length<=kvs.length+more.length
 | [],kvs=>by show kvs.length<=kvs.length+0;lia
 |p::r,kvs=>by
  have h1:=mR r (iN kvs p.1 p.2);have h2:=iW kvs p.1 p.2;show (qj (iN kvs p.1 p.2) r).length<=_;rw[lCq];lia
theorem sV{P:Program}{w:World}:∀{kvs:List (aN×V)}{ws:List (Value×Value)},VV (kvs.map fun kv=>(kV kv.1,kv.2)) ws->∃rs,Carries (bZ P w) ws rs/\KV kvs rs
 | [],_,r=>by rw[U2]at r;cases r;exact⟨[],True.intro,.nil⟩
 |p::kvs,_,r=>by
  rw[Ru]at r;cases r with
  | @cons a b as bs h t =>
   obtain⟨rs,c,q⟩:=sV (P:=P) (w:=w) t;obtain⟨b1,b2⟩:=b;exact⟨(p.1,b2)::rs,⟨zd h.1,rfl,c⟩,.cons ⟨rfl,h.2⟩ q⟩
def JU(trs:List (TE×TE)):TE:=fun σ H Q=>∀p,H p=none->Ax trs σ (cI H p (.dK [])) fun ps H2=>H2 p=some (.dK [])/\∃kvs:List (aN×V),ps=kvs.map (fun kv=>(kV kv.1,kv.2))/\kvs.length<=15/\Q (.ref p) (cI H2 p (.dK (qj [] kvs)))
theorem HH{X:Cx}{pos:Pos}{keys:List (Option Expr)}{values:List Expr}{trs:List (TE×TE)}(h:O2 X pos keys values trs) (hall:keys.all (·.isSome)=true) (hl:keys.length=values.length) (h0:keys≠[])
  (h15:keys.length<=15):PE X (.Dict keys values pos) (JU trs):=by
 intro aa s σ H Q I q;have hn:=I.hok.fresh (Rk s.heap.objs.size);have I1:=I.laid (a:=s.heap.objs.size) (o:=.dK []) (h':=s.heap.push { cls:=.type "dict", data:=.dict #[] }) (t':=s.toks) (fun _ _ q=>Rr _ q) (Rk _) (yM s.heap I.big)
 refine wpAny_Dict_walk (knd:=bZ X.prog X.w) hall hl h0 h15 (dY (h aa _ σ _ _ I1 (q _ hn)) fun ws s2 ⟨ps,H2,I2,rel,e,kvs,ep,lk,q2⟩=>?_)
 subst ep;obtain⟨rs,c,rk⟩:=sV (P:=X.prog) (w:=X.w) rel;obtain⟨z,hd,vs0,r0,dd⟩:=JV I2.hok e;cases r0;refine⟨rs,c,dd,fun h' dd' hs=>⟨.ref s.heap.objs.size,_,?_,rfl,q2⟩⟩
 have hz:(qj [] kvs).length<=sizeLine:=by
  have h1:=mR kvs [];rw[TU]at h1;rw[sizeLine_eq];lia
 have he:∃q,h'.get? s.heap.objs.size=some q:=let ⟨q,_,_,hq,_⟩:=dd';⟨q,hq⟩
 exact vL I2 (by rw[e];exact True.intro) hs he (Ar hz hd (rk.merge .nil) dd')
structure M2 (X:Cx) (o:Expr) (m:Str) (apos:Pos) (e f:Expr) (cpos:Pos):Prop where
 base:attributeBase o m X.env (eval o X.env)=eval o X.env
 few:((backTo cpos (starEach [e,f] X.env)).all (fun x=>!x.1) && (backToKw cpos (keywordEach [] X.env)).all (fun x=>x.1.isSome)
  && decide (([e,f]:List Expr).length+([]:List Keyword).length+(if ([]:List Keyword).isEmpty then 0 else 1)<30))=true
 line:(apos.endLine == cpos.line)=true
 trees:backTo cpos (starEach [e,f] X.env)=[(false,eval e X.env),(false,eval f X.env)]
def QJ(H:Hp) (a:Addr):Prop:=(∃kvs,Rd H a (.dK kvs))∨∃kvs,Rd H a (.dT kvs)
theorem K6{X:Cx}{aa:List (Addr×Obj)}{σ:St}{H:Hp}{s:Shared}{a:Addr}(I:Inv X aa σ H s) (d:QJ H a) :
  s.TypeIs (.ref a) "dict" /\ (∀b,S8 a = .ref b->∃ob,s.heap.get? b=some ob/\ob.dict=none)/\(a == sysModules)=false:=by
 rcases d with ⟨kvs,e⟩|⟨kvs,e⟩
 .obtain ⟨_,hd,vs,_,dd⟩:=yE I.hok e;refine⟨dd.typeIs,fun b q=>?_,hd⟩
  cases q;obtain⟨ob,_,_,h1,h2,_⟩:=dd;exact⟨ob,h1,h2.2.1⟩
 .obtain ⟨_,hd,xs,_,dd⟩:=yS I.hok e;refine⟨dd.typeIs,fun b q=>?_,hd⟩
  cases q;obtain⟨ob,_,_,h1,h2,_⟩:=dd;exact⟨ob,h1,h2.2.1⟩
end L2
namespace Att
open PySem PySem.W PySem.Calls PyProof.Rows
theorem qY{P:Params}{h:Heap}:∀(ns:List Int) (vs:List Value),WellAll P h vs (ns.map WData.int)->IntsAre vs ns:=by
 intro ns
 induction ns with
 |nil =>
  intro vs w;rw[U2]at w;cases w;exact .nil
 |cons n ns ih =>
  intro vs w;rw[Ru]at w;cases w with
  |cons a b =>
   cases a;exact .cons _ _ (ih _ b)
theorem Da{l:OpenLaw}{n:Nat}(hn:l.most=some n) {P:Params}{h:Heap}{args:List WData}{vals:List Value}
  (hpre:l.row.toRowW.claim.pre args=true) (hwl:WellAll P h vals args) :
  ∃a vs ns,vals=[S8 a]/\args=[WData.list (ns.map WData.int)]/\h.get? a=some { cls:=.type "list", data:=.seq vs.toArray }/\IntsAre vs ns/\ns.length<=n:=by
 have hsh:WShape.hasAll [] args [.list .int]=true:=(pre_splitW hpre).1;have hc:l.pre.holds [] { args:=args }=true:=(pre_splitW hpre).2;obtain⟨d,r,rfl,h1,h2⟩:=hasAllW_cons hsh;obtain rfl:=hasAllW_nil h2;obtain⟨xs,rfl,h3⟩:=hasW_list h1;obtain⟨ns,rfl⟩:=items_int h3;have hlen:ns.length<=n:=by
  unfold OpenLaw.pre at hc;have h4:(WTm.not (.lt (.lit (.int (n:Int))) (.len (.arg 0)))).holds [] { args:=[.list (ns.map .int)] }=true:=by
   have h4:=(holds_andW hc).1;rw[hn]at h4;exact h4
  have h5:=condW_of h4 (w_not (w_lt w_lit (w_len_list (w_arg rfl))));rw[lMq]at h5;refine We fun q=>?_
  have q':(n:Int)<((ns.length:Nat):Int):=by lia
  first
   | (rw[decide_eq_true q']at h5;exact absurd h5 (by decide))
   | (simp at h5;lia)
 cases hwl with
 |cons w1 w2 =>
  cases w2;cases w1 with
  |list ho hall=>exact⟨_,_,ns,rfl,rfl,ho,qY ns _ hall,hlen⟩
theorem Dr(l:OpenLaw) (args:List WData):l.row.toRowW.claim.post args (.bool true) args=true :=
 postW_of (r:=l.row.toRowW) (X:=(true == true))
  (show WShape.has [] (.bool true) .bool=true by first|rfl|decide|simp[WShape.has,WShape.arms,WShape.armsAll])
  (show (WTm.eq .res (.lit (.bool true))).value [] { args:=args,res:=some (.bool true),after:=args }=some (.bool (true == true)) from w_eq_bool (w_res rfl) w_lit) rfl
theorem yx{l:OpenLaw}{n:Nat}{q:Program}{loose:List Str}{XP:(Str->Option Value)->Heap->Prop}{YP:World->Heap->Prop}{d:DefRec}
  (hn:l.most=some n) (hdf:d.params.defaults=[])
  (call:∀(w:World) (s₀ s₁:Shared) (mg mb:Str->Option Value) (fa:Addr) (o:Obj) (pm cd doc:Value) (a:Addr) (vs:List Value) (ns:List Int),
   Ground q loose [] XP w s₀ mg mb s₁.heap->YP w s₁.heap ->
   s₁.heap.get? fa=some o->o.data = .func (docDef d.name d.params d.body d.scope pm cd doc)->s₁.heap.CodeRec cd d.name->mg d.name=some (.ref fa) ->
   s₁.heap.get? a=some { cls:=.type "list", data:=.seq vs.toArray }->IntsAre vs ns->ns.length<=n->s₁.gens=#[] ->
   codeAny (model l.prog w) callerA (.call (.ref fa) ⟨[.ref a],[]⟩) (fun r s'=>r = .ok (.ret (.bool true))/\OldK s₁.heap s'.heap/\s'.os=s₁.os/\AllBare s'.gens) s₁) :
  WalkO q loose XP YP l.row.toRowW d [] (fun f vs=>PySem.call f vs):=by
 intro w s₀ s₁ mg mb G Y fa o pm cd doc dV kV ho hd hcd hD hmg hg args vals as hpre hlay hrd hwl hlo;obtain rfl:dV = .none:=Dflts.none hD hdf;obtain rfl:kV = .none:=Dflts.noKw hD;obtain⟨a,vs,ns,rfl,rfl,hobj,hints,hlen⟩:=Da hn hpre hwl;refine enter_call (codeAny_mono (call w s₀ s₁ mg mb fa o pm cd doc a vs ns G Y ho (fd_plain hd) hcd hmg hobj hints hlen hg) fun r s' hq=>?_)
 obtain⟨rfl,h2,h3,h4⟩:=hq;exact⟨.inl ⟨.bool true,.bool true,[],rfl,fun _=>rfl,.bool true,Dr l _,fun _=>⟨RC.nil,fun _ hm=>(nomatch hm)⟩⟩,h2,h3,h4⟩
end Att
namespace L2
open PySem PySem.Spec PyProof.Rows
theorem vals_ints:∀{vs:List Value}{ns:List Int},IntsAre vs ns->bo (ns.map V.int) vs
 |_,_,.nil=>.nil
 |_,_,.cons n t h=>.cons ⟨t,rfl⟩ (vals_ints h)
def KO(H:Hp):Prop:=∀b,H b=none∨∃o xs,H b=some (.frz o (.lst xs))
theorem Gu{P:Program}{w:World}{K:W.Frag}{mg mb:Str->Option Value}{CX:FV}{k:Nat}{fa a:Addr}{fd:FuncData}{x:Str}{sp:Sp}{s₁:Shared}{vs:List Value}{ns:List Int}
  (KX:K.In s₁.heap) (hns:s₁.heap.Ns mainGlobals mg) (hb:s₁.heap.Ns builtinsNs mb) (hbb:∀x:Str,x ≠ "__name__" -> mb x=bootBuiltins x) (hlim:s₁.heap.NoLimit) (hg:s₁.gens=#[])
  (ha:s₁.heap.get? a=some { cls:=.type "list", data:=.seq vs.toArray }) (hi:IntsAre vs ns) (hl:ns.length<=sizeLine) (hr:jm k callerA)
  (F:∀base:Heap,K.In base->base.Ns mainGlobals mg->qT P w K mg base CX k fa fd [x] sp) (hbind:∀(s:Shared) (u:Value),BindsTo s fd ⟨[u],[]⟩ [(x,u)])
  (hsp:∀H:Hp,KO H->dZ K H a (ns.map V.int)->sp [.ref a] H (fun v _=>v = .bl true) fun _ _ _=>False)
  (hCX:∀H e s',CX [] H s₁ (fun _ _ _=>False) e s'->False) :
  codeAny (model P w) callerA (.call (.ref fa) ⟨[.ref a],[]⟩) (fun r s'=>r = .ok (.ret (.bool true))/\OldK s₁.heap s'.heap/\s'.os=s₁.os/\AllBare s'.gens) s₁:=by
 have rv:=vals_ints hi;have lenV:=hi.length;have core:∀H:Hp,KO H->dZ K H a (ns.map V.int)->nU P w H s₁.heap->(∀b,H b≠none->b=a)->(H a≠none->K.lookup a=none) ->
   codeAny (model P w) callerA (.call (.ref fa) ⟨[.ref a],[]⟩) (fun r s'=>r = .ok (.ret (.bool true))/\OldK s₁.heap s'.heap/\s'.os=s₁.os/\AllBare s'.gens) s₁:=by
  intro H hO hS hok hA hK;have base_of:∀{b:Addr}{o:Obj},s₁.heap.get? b=some o->H b=none->(vJ s₁.heap H).get? b=some o:=fun e n=>Fu e n
  have noA:∀{b:Addr}{o:Obj}{es:Array DictEntry}{ep:Nat},s₁.heap.get? b=some o->o.data = .dict es ep->H b=none:=fun {b o es ep} e d=>by
   cases q:H b with
   |none=>rfl
   |some u =>
    have e':b=a:=hA b (by rw[q];simp)
    subst e';rw[ha]at e;cases e;have d':Data.seq vs.toArray _=Data.dict es ep:=d;cases d'
  have nsK:∀{b:Addr}{m:Str->Option Value},s₁.heap.Ns b m->(vJ s₁.heap H).Ns b m:=fun {b m} ⟨o,es,ep,e,d,r⟩=>⟨o,es,ep,base_of e (noA e d),d,r⟩
  have hKb:K.In (vJ s₁.heap H):=fun b o e=>base_of (KX b o e) (by
   cases q:H b with
   |none=>rfl
   |some u =>
    have e':b=a:=hA b (by rw[q];simp)
    subst e';rw[hK (by rw[q];simp)]at e;cases e)
  have hM:Mod K mg (vJ s₁.heap H):=⟨hKb,nsK hns,⟨mb,nsK hb,hbb⟩,let ⟨mc,h1,h2⟩:=hlim;⟨mc,nsK h1,h2⟩⟩
  have e0:JJ P w K mg (vJ s₁.heap H) callerA [] s₁ H:=⟨rfl,hM,fun b o e=>Jz e,U3 (Cz _ _),trivial,fun b hb=>absurd (show b∈([]:List Addr) from hb) (by simp),hok,.of_eq hg⟩
  refine codeAny_mono ((F _ hKb (nsK hns)).run callerA [] s₁ H ⟨[.ref a],[]⟩ [.ref a] [.ref a] _ _ hr e0 (hbind s₁ (.ref a)) (.cons rfl .nil) (hsp H hO hS)) fun r s' h=>?_
  cases r with
  |error e=>exact(hCX H e s' h).elim
  |ok fl =>
   cases fl with
   |next=>exact False.elim h
   |brk=>exact False.elim h
   |cont=>exact False.elim h
   |ret u =>
    obtain⟨v,H',os,bare,un,hok',r',q⟩:=h;have q':v = .bl true:=q;subst q';obtain rfl:u=U6 true:=r';refine⟨rfl,OldK.of_keep fun b o e=>?_,os,bare⟩
    cases q:H b with
    |none=>exact un.keep b o e q (by intro z;exact absurd (show b∈([]:List Addr) from z) (by simp)) (by simp)
    |some u =>
     rcases hO b with z|⟨ob,xs,z⟩
     .rw [q]at z;cases z
     .have z2:=un.frzs b ob _ z;obtain⟨e1,_⟩:=hok b _ z;obtain⟨e2,_⟩:=hok' b _ z2;rw[e]at e1;cases e1;exact e2
 cases hk:K.lookup a with
 |some o =>
  have e:=KX a o hk;rw[ha]at e;cases e;refine core (fun _=>none) (fun _=>.inl rfl) (.inr ⟨_,vs.toArray,_,hk,rfl,rfl,rfl,by rw[RH,lenV];exact hl,by simpa using rv⟩) (fun b u z=>by have z':(none:Option HO)=some u:=z;cases z') (fun b z=>absurd rfl z) fun z=>absurd rfl z
 |none =>
  refine core (fun b=>if b=a then some (.frz { cls:=.type "list", data:=.seq vs.toArray } (.lst (ns.map V.int))) else none) (fun b=>?_) (.inl (.inr ⟨{ cls:=.type "list", data:=.seq vs.toArray },if_pos rfl⟩)) (fun b u z=>?_) (fun b z=>?_) fun _=>hk
  .by_cases hb:b=a
   .exact .inr ⟨_,_,if_pos hb⟩
   .exact .inl (if_neg hb)
  .by_cases hb:b=a
   .have z':=(if_pos hb).symm.trans z;cases z';subst hb;exact⟨ha,by rw[lMq];exact hl,vs,_,rv,ha⟩
   .have z':=(if_neg hb).symm.trans z;cases z'
  .by_cases hb:b=a
   .exact hb
   .exact absurd (if_neg hb) z
theorem Iq{l:W.OpenLaw}{n k:Nat}{q:Program}{loose:List Str}{XP:(Str->Option Value)->Heap->Prop}{YP:World->Heap->Prop}{d:DefRec}{K:Params->W.Frag}{CX:World->FV}{sp:World->Sp}{x:Str}
  (hn:l.most=some n) (hn2:n<=sizeLine) (hdf:d.params.defaults=[]) (hr:jm k callerA)
  (hY:∀(w:World) (h:Heap),YP w h->(K w.params).In h)
  (F:∀(w:World) (mg:Str->Option Value) (fa:Addr) (h:Heap),(K w.params).In h->h.Ns mainGlobals mg->mg d.name=some (.ref fa) ->
   ∃fd:FuncData,(∀(s:Shared) (u:Value),BindsTo s fd ⟨[u],[]⟩ [(x,u)]) /\
    ∀base:Heap,(K w.params).In base->base.Ns mainGlobals mg->qT l.prog w (K w.params) mg base (CX w) k fa fd [x] (sp w))
  (hsp:∀(w:World) (H:Hp) (a:Addr) (ns:List Int),ns.length<=n->KO H->dZ (K w.params) H a (ns.map V.int)->sp w [.ref a] H (fun v _=>v = .bl true) fun _ _ _=>False)
  (hCX:∀(w:World) (H:Hp) (s:Shared) (e:Value) (s':Shared),CX w [] H s (fun _ _ _=>False) e s'->False) :
  W.WalkO q loose XP YP l.row.toRowW d [] (fun f vs=>PySem.call f vs):=by
 refine Att.yx hn hdf fun w s₀ s₁ mg mb fa o pm cd doc a vs ns G Y ho hd hcd hmg hobj hints hlen hg=>?_
 have KX:=hY w _ Y;obtain⟨fd,hb,hF⟩:=F w mg fa _ KX G.T.g hmg;exact Gu KX G.T.g G.T.b G.T.builtins G.T.nolimit hg hobj hints (S9 hlen hn2) hr hF hb (fun H hO hS=>hsp w H a ns hlen hO hS) fun H e s'=>hCX w H s₁ e s'
def gR(s:Stmt):Arguments:=match s with
 | .FunctionDef _ a _ _ _ _ _ _ _ _=>a
 |_=>{ posonlyargs:=[],args:=[],vararg:=none,kwonlyargs:=[],kw_defaults:=[],kwarg:=none,defaults:=[] }
def gi(s:Stmt):List Stmt:=match s with
 | .FunctionDef _ _ b _ _ _ _ _ _ _=>b
 |_=>[]
def aF(s:Stmt):Scope:=match s with
 | .FunctionDef _ _ _ _ _ _ sc _ _ _=>sc
 |_=>{ kind:=.function,names:=[],isGenerator:=false,isCoroutine:=false }
abbrev Mk:FV:=fun _ _ _ _ _ _=>False
abbrev E0:XK:=fun _ _ _=>False
theorem M8{X:Cx}:AD Mk X E0:=fun _ _ _ _ _ _ _ h=>h.elim
structure Kh (K:W.Frag) (x qual:Str) (st:Stmt) (f:Addr) (fd:FuncData):Prop where
 ex:∃(oc:Value) (od:Option Addr) (kV doc pm:Value) (an:Option Addr) (gm ct:Value) (osl:Array (Option Value)),
  fd=W.fnOf x qual (gR st) (gi st) (aF st) .none kV doc pm an gm ct/\K.lookup f=some ⟨oc,od,.func fd,osl⟩/\W.codeIn K gm qual=true
 kp:W.keepIn K (.ref f)=true
section
variable {P:Program}{w:World}{K:W.Frag}{mg:Str->Option Value}{base:Heap}
theorem Kh.ok{x qual:Str}{st:Stmt}{f:Addr}{fd:FuncData}{N ps:List Str}{k:Nat}{sp:Sp}(F:Kh K x qual st f fd) (S:bq N ps (aF st)) (len:∀vs H Q E,sp vs H Q E->vs.length=ps.length)
  (hbody:∀(gm:Value) (A:Around) (outer:List Env) (s:Shared) (H:Hp) (vs:List V) (Q:VK) (E:XK),jm k (A.deeper (envOfC qual (aF st) s.heap.objs.size f gm))->sp vs H Q E ->
   ∃t,Ct (DD Mk P w K mg base N qual (aF st) f gm A outer s H E).nox (gi st) t/\t { nx:=fun _ H'=>Q .non H',rt:=Q } (kO N vs) H):qT P w K mg base Mk (k+1) f fd ps sp:=by
 obtain⟨oc,od,kV,doc,pm,an,gm,ct,osl,rfl,lk,hcd⟩:=F.ex;refine Nw lk hcd S len fun A outer s H vs Q E hr hsp=>?_
 obtain⟨t,h,q⟩:=hbody gm A outer s H vs Q E hr hsp;exact⟨t,h.nox,q⟩
theorem Kh.binds{x qual:Str}{st:Stmt}{f:Addr}{fd:FuncData}{ps:List Str}(F:Kh K x qual st f fd)
  (h:∀(kV doc pm:Value) (an:Option Addr) (gm ct:Value) (us:List Value),us.length=ps.length->bindArgs (W.fnOf x qual (gR st) (gi st) (aF st) .none kV doc pm an gm ct) ⟨us,[]⟩=pure (ps.zip us)):mP K fd ps []:=by
 obtain⟨oc,od,kV,doc,pm,an,gm,ct,osl,rfl,lk,hcd⟩:=F.ex;exact .all (h kV doc pm an gm ct)
theorem Ae{x qual:Str}{st:Stmt}{f:Addr}{oc:Value}{od an:Option Addr}{osl:Array (Option Value)}{kV doc pm gm ct:Value}(l:K.lookup f=some ⟨oc,od,.func (W.fnOf x qual (gR st) (gi st) (aF st) .none kV doc pm an gm ct),osl⟩)
  (c:W.codeIn K gm qual=true) (k:W.keepIn K (.ref f)=true):Kh K x qual st f (W.fnOf x qual (gR st) (gi st) (aF st) .none kV doc pm an gm ct):=⟨⟨oc,od,kV,doc,pm,an,gm,ct,osl,rfl,l,c⟩,k⟩
end
theorem gG{A:Around}{k:Nat}(hr:jm k A):A.units+1<cLine:=Nat.lt_of_le_of_lt (Nat.add_le_add_left (by decide:1<=64) _) hr.units
section
variable {X:Cx}
theorem pv(i:Nat) {x:Str}{pos:Pos}(hN:X.N[i]?=some x:=by rfl) (hv:Qd X.env.scope x:=by first|exact RM rfl|exact RK (RM rfl)|exact RK (RK rfl)) (hd:(x == ("__debug__" : Str))=false:=by decide)
  (hcd:(x == ("__classdict__" : Str))=false:=by decide):PE X (.Name x pos) (kQ i):=Ku hN hv hd hcd
end
theorem zh{A B:Prop}(h:B):if false=true then A else B:=by
 rw[if_neg RG];exact h
theorem Ah{A B:Prop}(h:A):if true=true then A else B:=by
 rw[if_pos rfl];exact h
def bD(H H':Hp):Prop:=∀b o,H b=some o->H' b=some o
theorem bD.refl(H:Hp):bD H H:=fun _ _ h=>h
theorem bD.trans{H H1 H2:Hp}(a:bD H H1) (b:bD H1 H2):bD H H2:=fun c o h=>b c o (a c o h)
theorem bD.free{H H':Hp}(e:bD H H') {l:Addr}(h:H' l=WG):H l=WG:=by
 cases q:H l with
 |none=>rfl
 |some o =>
  rw[e l o q]at h;cases h
theorem bD.seq{K:W.Frag}{H H':Hp}{a:Addr}{xs:List V}(e:bD H H') (h:dZ K H a xs):dZ K H' a xs:=by
 rcases h with (h|⟨o,h⟩)|h
 .exact .inl (.inl (e _ _ h))
 .exact .inl (.inr ⟨o,e _ _ h⟩)
 .exact .inr h
end L2
namespace Mr
def cell(ns:List Int) (k:Nat):Int:=ns.getD k 0
def bC(ns:List Int):Nat->Nat
 |0=>0
 |k+1=>if ns.getD k 0<ns.getD (bC ns k) 0 then k else bC ns k
def rot(ns:List Int) (i:Nat):List Int:=ns.drop i++ns.take i
def good(ns:List Int):List Int:=rot ns (bC ns ns.length)
theorem gI(ns:List Int):∀n,(0<n->bC ns n<n)/\(∀j,j<n->ns.getD (bC ns n) 0<=ns.getD j 0)/\(∀j,j<bC ns n->ns.getD (bC ns n) 0<ns.getD j 0)
 |0=>⟨fun h=>absurd h (TV _),fun j h=>absurd h (Tb _),fun j h=>absurd h (Tb _)⟩
 |n+1=>by
  obtain⟨h1,h2,h3⟩:=gI ns n;simp only[bC]
  by_cases c:ns.getD n 0<ns.getD (bC ns n) 0
  .rw [if_pos c];refine⟨fun _=>UN n,fun j hj=>?_,fun j hj=>?_⟩
   .rcases Ux (V5 hj) with q|q
    .have:=h2 j q;lia
    .subst q;exact UO _
   .have:=h2 j hj;lia
  .rw [if_neg c];refine⟨fun _=>?_,fun j hj=>?_,h3⟩
   .by_cases hn:0<n
    .exact TY (h1 hn)
    .have:n=0:=by lia
     subst this;exact UN 0
   .rcases Ux (V5 hj) with q|q
    .exact h2 j q
    .subst q;lia
theorem zg(ns:List Int):bC ns ns.length<=ns.length:=by
 by_cases h:0<ns.length
 .exact Te ((gI ns ns.length).1 h)
 .have:ns.length=0:=by lia
  rw[this];exact Rk 0
theorem iS{ns:List Int}{j:Nat}(h:j<ns.length):ns.getD j 0=ns[j]:=by
 rw[gDq,gEg h];rfl
theorem qQ{ns:List Int}{M:Int}(hm:M∈ns) (hl:∀a,a∈ns->M<=a):ns.idxOf M=bC ns ns.length:=by
 have h0:0<ns.length:=UK hm;obtain⟨h1,h2,h3⟩:=gI ns ns.length;have h1:=h1 h0;have hi:ns.idxOf M<ns.length:=Vn.mpr hm;have e:ns.getD (ns.idxOf M) 0=M:=by rw[iS hi];exact VZ hi
 have eL:ns.getD (bC ns ns.length) 0=M:=by
  have q1:=h2 _ hi;rw[e]at q1;have q2:=hl _ (by rw[iS h1];exact gRq h1:ns.getD (bC ns ns.length) 0∈ns)
  lia
 rcases V6 (ns.idxOf M) (bC ns ns.length) with q|q|q
 .have:=h3 _ q;lia
 .exact q
 .exfalso;have:=List.not_of_lt_findIdx (p:=(· == M)) (xs:=ns) (i:=bC ns ns.length) (by simpa [List.idxOf] using q)
  rw[iS h1]at eL;simp[eL]at this
theorem yR:good []=[]:=rfl
theorem zO(ns:List Int) (i:Nat):(rot ns i).length=ns.length:=by
 unfold rot;rw[lAq,RL,lTq];lia
theorem lW(ns:List Int):(good ns).length=ns.length:=zO _ _
def step(ns:List Int):Int:=if 0<cell ns 0 % 3 then cell ns 0 % 10 ^ 40+1 else 1
def Oe(ns:List Int):Int:=if 0<cell ns 1 % 3 then cell ns 1 % 10 ^ 40 else 0
def J1(ns:List Int) (k:Int):Int:=step ns*(((1+cell ns 1 / 3 % 66)*k+cell ns 0 / 3 % 67) % 67+1)+Oe ns
def QU(ns:List Int) (k:Int):Int:=if cell ns 1 % 5=4 then 10 ^ 60-J1 ns k else J1 ns k
theorem nv{A B:List Int}{m:Int}(h:∀x,x∈A->m<x) (h2:∀x,x∈B->m<=x):good (A++m::B)=m::B++A:=by
 have hm:m∈A++m::B:=by simp
 have hl:∀a,a∈A++m::B->m<=a:=fun a ha=>by
  rcases mAq.mp ha with q|q
  .exact U4 (h a q)
  .rcases Rl.mp q with rfl|q
   .exact UO _
   .exact h2 a q
 have e:=qQ hm hl;have ei:(A++m::B).idxOf m=A.length:=by
  rw[List.idxOf_append,if_neg (fun q=>absurd (h m q) (Int.lt_irrefl m)),List.idxOf_cons_self,SB]
 unfold good rot;rw[←e,ei,List.drop_left,List.take_left]
theorem xy{t:List Int}(h0:t≠[]) (hn:t.Nodup):∃A m B,t=A++m::B/\(∀x,x∈A->m<x)/\∀x,x∈B->m<x:=by
 have hl:0<t.length:=U8.mpr h0;obtain⟨h1,h2,h3⟩:=gI t t.length;have h1:=h1 hl;refine⟨t.take (bC t t.length),t[bC t t.length],t.drop (bC t t.length+1),?_,?_,?_⟩
 .rw [←RS h1,R5]
 .intro x hx;obtain⟨j,hj,rfl⟩:=List.mem_take_iff_getElem.mp hx;have:=h3 j (by lia)
  rw[iS h1,iS (by lia)]at this
  exact this
 .intro x hx;obtain⟨j,hj,rfl⟩:=List.mem_drop_iff_getElem.mp hx;have a:=h2 (bC t t.length+1+j) (by lia)
  rw[iS h1,iS (by lia)]at a
  have ne:t[bC t t.length]≠t[bC t t.length+1+j]:=Tg.mp hn _ _ h1 (by lia) (by lia)
  lia
theorem xq{t:List Int}(hn:t.Nodup) (i:Nat):good (rot t i)=good t:=by
 by_cases h0:t=[]
 .subst h0;simp[rot]
 .obtain ⟨A,m,B,rfl,h1,h2⟩:=xy h0 hn;rw[nv h1 (fun x q=>U4 (h2 x q))]
  by_cases c:i<=A.length
  .have e:rot (A++m::B) i=A.drop i++m::(B++A.take i):=by
    unfold rot;rw[List.drop_append_of_le_length c,List.take_append_of_le_length c];simp
   rw[e,nv (fun x q=>h1 x (So q)) (fun x q=>?_)]
   .simp
   .rcases mAq.mp q with q|q
    .exact U4 (h2 x q)
    .exact U4 (h1 x (Sv q))
  .have hi:A.length<i:=by lia
   obtain⟨j,rfl⟩:∃j,i=A.length+(j+1):=⟨i-A.length-1,by lia⟩
   have e:rot (A++m::B) (A.length+(j+1))=(B.drop j++A)++m::B.take j:=by
    unfold rot;rw[Wf,List.take_append];simp[Tc,S0]
   rw[e,nv (fun x q=>?_) (fun x q=>U4 (h2 x (Sv q)))]
   .rw [TK,TK,←Rn,R5]
   .rcases mAq.mp q with q|q
    .exact h2 x (So q)
    .exact h1 x q
theorem rot_perm(t:List Int) (i:Nat):(rot t i).Perm t:=by
 unfold rot;exact Sb.trans (by rw[R5])
theorem aY(t:List Int):(good t).Perm t:=rot_perm t _
theorem dq{rs ts:List (List Int)}(h:rs.Perm ts):rs.flatten.Perm ts.flatten:=by
 induction h with
 |nil=>exact .refl _
 |cons x _ ih=>rw[fCq,fCq];exact SU.append (.refl x) ih
 |swap x y l =>
  rw[fCq,fCq,fCq,fCq,←Rn,←Rn];exact SU.append Sb (.refl _)
 |trans _ _ a b=>exact a.trans b
theorem bI{f:List Int->List Int}(hf:∀r,(f r).Perm r):∀rs:List (List Int),(rs.map f).flatten.Perm rs.flatten
 | []=>.refl _
 |r::rs=>by
  rw[Ru,fCq,fCq];exact SU.append (hf r) (bI hf rs)
theorem DN{rs:List (List Int)}{r:List Int}(h:rs.flatten.Nodup) (hr:r∈rs):r.Nodup:=RC.sublist (RE hr) h
theorem Lk{rs:List (List Int)}{r:List Int}(hr:r∈rs):r.length<=rs.flatten.length:=(RE hr).length_le
def OB(r:List Int) (i:Nat) (e:Int):List Int:=r.take i++[e]++r.drop i
def QS(ts:List (List Int)) (a:Nat) (f:Nat->Nat) (e:Int):List (List Int):=ts.set a (OB (ts.getD a []) (f (ts.getD a []).length) e)
theorem Bi:∀t:Fin 66,∀d:Fin 67,0<d.val->(t.val+1)*d.val % 67≠0:=by decide +kernel
end Mr
namespace MrS
open PySem PyProof.Rows
def jc:Bool->Keyed->Array Keyed->Nat->Nat->Nat->StateT SortSt Sem (Option Nat):=sortPriv% PySem.Builtin.gallop
structure mz (prog:Program) (w:World) (A:Around) (s:Shared) (κ:SortKind) (P:Keyed->Prop) (lt:Keyed->Keyed->Bool):Prop where
 ask:∀x y,P x->P y->∀(E:Value->Shared->Prop) (Q:Bool->Shared->Prop),Q (lt x y) s->wpAny (model prog w) A (keyLt' κ x.1 y.1) Q E s
 asym:∀x y,P x->P y->lt x y=true->lt y x=false
 trans:∀x y z,P x->P y->P z->lt y x=false->lt z y=false->lt z x=false
section
variable {prog:Program}{w:World}{A:Around}{E:Value->Shared->Prop}{s:Shared}{κ:SortKind}{P:Keyed->Prop}{lt:Keyed->Keyed->Bool}
theorem mz.refl(C:mz prog w A s κ P lt) {x:Keyed}(hx:P x):lt x x=false:=by
 cases e:lt x x with
 |false=>rfl
 |true=>rw[←C.asym x x hx hx e,e]
theorem mz.cmp(C:mz prog w A s κ P lt) {x y:Keyed}{st:SortSt}{Q:Option Bool->SortSt->Prop}(hx:P x) (hy:P y) (hk:kindOf st=κ) (h:Q (some (lt x y)) st) :
  wpS (model prog w) A E s (lt' x y) Q st:=by
 rw[lt'_eq];refine wpS_bind (wpS_get ?_);rw[hk];refine wpS_bind (wpS_lift (wpAny_attempt (C.ask x y hx hy _ _ ⟨rfl,?_⟩)));exact wpS_pure h
theorem bj{arr:Array Keyed}{i:Nat}{x:Keyed}{st:SortSt}{Q:Keyed->SortSt->Prop}(hx:arr[i]?=some x) (h:Q x st):wpS (model prog w) A E s (elem' arr i) Q st:=by
 rw[elem'_eq,hx];exact wpS_pure h
theorem mz.at(C:mz prog w A s κ P lt) {i j:Nat}{x y:Keyed}{st:SortSt}{Q:Option Bool->SortSt->Prop}(hi:(arrOf st)[i]?=some x) (hj:(arrOf st)[j]?=some y) (hx:P x) (hy:P y) (hk:kindOf st=κ) (h:Q (some (lt x y)) st) :
  wpS (model prog w) A E s (ltAt' i j) Q st:=by
 rw[ltAt'_eq];refine wpS_bind (wpS_get ?_);exact wpS_bind (bj hi (wpS_bind (bj hj (C.cmp hx hy hk h))))
def jW(lt:Keyed->Keyed->Bool) (left:Bool) (key:Keyed) (arr:Array Keyed) (base i:Nat):Bool :=
 if left then lt (arr.getD (base+i) key) key else !lt key (arr.getD (base+i) key)
theorem zT(left:Bool) (key:Keyed) (arr:Array Keyed) (base n hint:Nat):jc left key arr base n hint=(do
 let beyond (i:Nat):StateT SortSt Sem (Option Bool):=do
  let x ←elem' arr (base+i)
  if left then lt' x key else return (←lt' key x).map (!·)
 let mut lastofs:=0
 let mut ofs:=1
 let mut lo:=0
 let mut hi:=0
 let some right ←beyond hint|return none
 if right then
  let maxofs:=n-hint
  for _ in [0:n] do
   if ofs ≥ maxofs then break
   let some more ←beyond (hint+ofs)|return none
   if !more then break
   lastofs:=ofs
   ofs:=2*ofs+1
  lo:=hint+lastofs+1
  hi:=hint+min ofs maxofs
 else
  let maxofs:=hint+1
  for _ in [0:n] do
   if ofs ≥ maxofs then break
   let some found ←beyond (hint-ofs)|return none
   if found then break
   lastofs:=ofs
   ofs:=2*ofs+1
  lo:=hint+1-min ofs maxofs
  hi:=hint-lastofs
 for _ in [0:n] do
  if lo ≥ hi then break
  let m:=lo+(hi-lo) / 2
  let some more ←beyond m|return none
  if more then lo:=m+1 else hi:=m
 return some hi):=rfl
theorem ir(C:mz prog w A s κ P lt) {left:Bool}{key:Keyed}{arr:Array Keyed}{base i:Nat}{st:SortSt}{Q:Option Bool->SortSt->Prop}(hi:base+i<arr.size) (ha:∀x,x∈arr->P x) (hkey:P key) (hk:kindOf st=κ)
  (h:Q (some (jW lt left key arr base i)) st):wpS (model prog w) A E s (do
   let x ←elem' arr (base+i)
   if left=true then lt' x key else do
    let __x ←lt' key x
    pure (__x.map (!·))) Q st:=by
 have e:arr[base+i]?=some arr[base+i]:=Rm hi;have e2:arr.getD (base+i) key=arr[base+i]:=by simp[VT,hi]
 refine wpS_bind (bj e ?_);have hp:P arr[base+i]:=ha _ (Sd hi);unfold jW at h;rw[e2]at h;cases left with
 |true =>
  rw[if_pos rfl]at h ⊢;exact C.cmp hp hkey hk h
 |false =>
  rw[if_neg (by decide)]at h ⊢
  exact wpS_bind (C.cmp hkey hp hk (wpS_pure h))
theorem qw{left:Bool}{key:Keyed}{arr:Array Keyed}{base n lo hi:Nat}{st:SortSt}{f:Nat->Option (Option Nat)×Nat×Nat->StateT SortSt Sem (ForInStep (Option (Option Nat)×Nat×Nat))}
  (mono:∀i j,i<=j->j<n->jW lt left key arr base j=true->jW lt left key arr base i=true)
  (down:∀i j,i<=j->j<n->jW lt left key arr base i=false->jW lt left key arr base j=false)
  (hf:∀(i l u:Nat) (Q':ForInStep (Option (Option Nat)×Nat×Nat)->SortSt->Prop),u<=n->(u<=l->Q' (.done (none,l,u)) st)->(l<u->jW lt left key arr base (l+(u-l) / 2)=true->Q' (.yield (none,l+(u-l) / 2+1,u)) st) ->
   (l<u->jW lt left key arr base (l+(u-l) / 2)=false->Q' (.yield (none,l,l+(u-l) / 2)) st)->wpS (model prog w) A E s (f i (none,l,u)) Q' st)
  (h1:lo<=hi) (h2:hi<=n) (h3:∀j,j<lo->jW lt left key arr base j=true) (h4:∀j,hi<=j->j<n->jW lt left key arr base j=false) :
  wpS (model prog w) A E s (forIn [:n] ((none,lo,hi):Option (Option Nat)×Nat×Nat) f)
   (fun c st'=>∃k,c=(none,k,k)/\st'=st/\k<=n/\(∀j,j<k->jW lt left key arr base j=true)/\(∀j,k<=j->j<n->jW lt left key arr base j=false)) st:=by
 refine wpS_forRange
  (I:=fun i c st'=>∃l u,c=(none,l,u)/\st'=st/\l<=u/\u<=n/\(∀j,j<l->jW lt left key arr base j=true)/\(∀j,u<=j->j<n->jW lt left key arr base j=false)/\(u-l)+i<=n)
  ?step ?fin ⟨lo,hi,rfl,rfl,h1,h2,h3,h4,by lia⟩
 case step =>
  rintro i c st' _ hi' ⟨l,u,rfl,rfl,a1,a2,a3,a4,a5⟩;refine hf i l u _ a2 (fun c1=>?_) (fun c1 e=>?_) (fun c1 e=>?_)
  .have e:l=u:=by lia
   subst e;exact⟨l,rfl,rfl,a2,a3,a4⟩
  .exact ⟨_,u,rfl,rfl,by lia,a2,fun j hj=>mono j _ (by lia) (by lia) e,a4,by lia⟩
  .exact ⟨l,_,rfl,rfl,by lia,by lia,a3,fun j hj hn=>down _ j hj hn e,by lia⟩
 case fin =>
  rintro c st' ⟨l,u,rfl,rfl,a1,a2,a3,a4,a5⟩;have e:l=u:=by lia
  subst e;exact⟨l,rfl,rfl,a2,a3,a4⟩
theorem fT(C:mz prog w A s κ P lt) {left:Bool}{key:Keyed}{arr:Array Keyed}{base n hint:Nat}{st:SortSt}{Q:Option Nat->SortSt->Prop}(hh:hint<n) (hb:base+n<=arr.size) (ha:∀x,x∈arr->P x) (hkey:P key) (hk:kindOf st=κ)
  (mono:∀i j,i<=j->j<n->jW lt left key arr base j=true->jW lt left key arr base i=true)
  (h:∀k,k<=n->(∀j,j<k->jW lt left key arr base j=true)->(∀j,k<=j->j<n->jW lt left key arr base j=false)->Q (some k) st) :
  wpS (model prog w) A E s (jc left key arr base n hint) Q st:=by
 have down:∀i j,i<=j->j<n->jW lt left key arr base i=false->jW lt left key arr base j=false:=fun i j hij hj e=>by
  cases q:jW lt left key arr base j with
  |false=>rfl
  |true=>rw[mono i j hij hj q]at e;cases e
 rw[zT];dsimp only;refine wpS_bind (ir C (base:=base) (i:=hint) (by lia) ha hkey hk ?_)
 cases er:jW lt left key arr base hint with
 |true =>
  dsimp only;rw[if_pos rfl];refine wpS_bind (wpS_mono (wpS_forRange
   (I:=fun i c st'=>∃l o,c=(none,l,o)/\st'=st/\l<o/\i+1<=o/\hint+l<n/\jW lt left key arr base (hint+l)=true)
   (Q:=fun c st'=>∃l o,c=(none,l,o)/\st'=st/\l<o/\hint+l<n/\jW lt left key arr base (hint+l)=true/\(n-hint<=o∨(hint+o<n/\jW lt left key arr base (hint+o)=false)))
   ?step ?fin ⟨0,1,rfl,rfl,by lia,by lia,by lia,er⟩) ?post)
  case step =>
   rintro i c st' _ hi' ⟨l,o,rfl,rfl,a1,a2,a3,a4⟩;dsimp only
   by_cases c1:o ≥ n-hint
   .rw [if_pos c1];exact wpS_pure ⟨l,o,rfl,rfl,a1,a3,a4,.inl c1⟩
   .rw [if_neg c1];refine wpS_bind (ir C (base:=base) (i:=hint+o) (by lia) ha hkey hk ?_)
    cases e:jW lt left key arr base (hint+o) with
    |true =>
     dsimp only;rw[if_neg (by decide)]
     exact wpS_pure ⟨o,_,rfl,rfl,by lia,by lia,by lia,e⟩
    |false =>
     dsimp only;rw[if_pos (by decide)]
     exact wpS_pure ⟨l,o,rfl,rfl,a1,a3,a4,.inr ⟨by lia,e⟩⟩
  case fin =>
   rintro c st' ⟨l,o,rfl,rfl,a1,a2,a3,a4⟩;exact⟨l,o,rfl,rfl,a1,a3,a4,.inl (by lia)⟩
  case post =>
   rintro c st' ⟨l,o,rfl,rfl,a1,a3,a4,a5⟩;dsimp only;refine wpS_bind (wpS_mono (qw (lt:=lt) (left:=left) (key:=key) (arr:=arr) (base:=base) mono down (fun i l' u' Q' hu q1 q2 q3=>?_) (by lia) (by lia) (fun j hj=>mono j _ (by lia) a3 a4) ?_) ?_)
   .dsimp only
    by_cases c1:l' ≥ u'
    .rw [if_pos c1];exact wpS_pure (q1 c1)
    .rw [if_neg c1];refine wpS_bind (ir C (base:=base) (i:=l'+(u'-l') / 2) (by lia) ha hkey hk ?_)
     cases e:jW lt left key arr base (l'+(u'-l') / 2) with
     |true =>
      dsimp only;rw[if_pos rfl];exact wpS_pure (q2 (by lia) e)
     |false =>
      dsimp only;rw[if_neg (by decide)]
      exact wpS_pure (q3 (by lia) e)
   .intro j hj hn;rcases a5 with a5|⟨a5,a6⟩
    .lia
    .exact down (hint+o) j (by lia) hn a6
   .rintro c st' ⟨k,rfl,rfl,k1,k2,k3⟩;exact wpS_pure (h k k1 k2 k3)
 |false =>
  dsimp only;rw[if_neg (by decide)]
  refine wpS_bind (wpS_mono (wpS_forRange
   (I:=fun i c st'=>∃l o,c=(none,l,o)/\st'=st/\l<o/\i+1<=o/\l<=hint/\jW lt left key arr base (hint-l)=false)
   (Q:=fun c st'=>∃l o,c=(none,l,o)/\st'=st/\l<o/\l<=hint/\jW lt left key arr base (hint-l)=false/\(hint+1<=o∨(o<=hint/\jW lt left key arr base (hint-o)=true)))
   ?step ?fin ⟨0,1,rfl,rfl,by lia,by lia,by lia,er⟩) ?post)
  case step =>
   rintro i c st' _ hi' ⟨l,o,rfl,rfl,a1,a2,a3,a4⟩;dsimp only
   by_cases c1:o ≥ hint+1
   .rw [if_pos c1];exact wpS_pure ⟨l,o,rfl,rfl,a1,a3,a4,.inl c1⟩
   .rw [if_neg c1];refine wpS_bind (ir C (base:=base) (i:=hint-o) (by lia) ha hkey hk ?_)
    cases e:jW lt left key arr base (hint-o) with
    |true =>
     dsimp only;rw[if_pos rfl];exact wpS_pure ⟨l,o,rfl,rfl,a1,a3,a4,.inr ⟨by lia,e⟩⟩
    |false =>
     dsimp only;rw[if_neg (by decide)]
     exact wpS_pure ⟨o,_,rfl,rfl,by lia,by lia,by lia,e⟩
  case fin =>
   rintro c st' ⟨l,o,rfl,rfl,a1,a2,a3,a4⟩;exact⟨l,o,rfl,rfl,a1,a3,a4,.inl (by lia)⟩
  case post =>
   rintro c st' ⟨l,o,rfl,rfl,a1,a3,a4,a5⟩;dsimp only;refine wpS_bind (wpS_mono (qw (lt:=lt) (left:=left) (key:=key) (arr:=arr) (base:=base) mono down (fun i l' u' Q' hu q1 q2 q3=>?_) (by lia) (by lia) ?_ (fun j hj hn=>down _ j hj hn a4)) ?_)
   .dsimp only
    by_cases c1:l' ≥ u'
    .rw [if_pos c1];exact wpS_pure (q1 c1)
    .rw [if_neg c1];refine wpS_bind (ir C (base:=base) (i:=l'+(u'-l') / 2) (by lia) ha hkey hk ?_)
     cases e:jW lt left key arr base (l'+(u'-l') / 2) with
     |true =>
      dsimp only;rw[if_pos rfl];exact wpS_pure (q2 (by lia) e)
     |false =>
      dsimp only;rw[if_neg (by decide)]
      exact wpS_pure (q3 (by lia) e)
   .intro j hj;rcases a5 with a5|⟨a5,a6⟩
    .lia
    .exact mono j (hint-o) (by lia) (by lia) a6
   .rintro c st' ⟨k,rfl,rfl,k1,k2,k3⟩;exact wpS_pure (h k k1 k2 k3)
end
abbrev kc(lt:Keyed->Keyed->Bool) (l:List Keyed):Prop:=l.Pairwise fun x y=>lt y x=false
structure MI (lt:Keyed->Keyed->Bool) (a b out:Array Keyed) (ia ib:Nat):Prop where
 la:ia<=a.size
 lb:ib<=b.size
 pm:(out.toList++(a.toList.drop ia++b.toList.drop ib)).Perm (a.toList++b.toList)
 so:kc lt out.toList
 ua:∀x∈out.toList,∀y∈a.toList.drop ia,lt y x=false
 ub:∀x∈out.toList,∀y∈b.toList.drop ib,lt y x=false
section
variable {lt:Keyed->Keyed->Bool}{a b out out':Array Keyed}{ia ib k:Nat}
theorem MI.congr(m:MI lt a b out ia ib) (e:out'.toList=out.toList):MI lt a b out' ia ib:=⟨m.la,m.lb,by rw[e];exact m.pm,by rw[e];exact m.so,by rw[e];exact m.ua,by rw[e];exact m.ub⟩
theorem xp(l:List Keyed) (i k:Nat):l.drop i=(l.drop i).take k++l.drop (i+k):=by
 rw[←List.drop_drop,R5]
theorem kg(a:Array Keyed) (i k:Nat):(a.extract i (i+k)).toList=(a.toList.drop i).take k:=by
 rw[UV,Uu,UA]
theorem MI.moreA(m:MI lt a b out ia ib) (sa:kc lt a.toList) (hk:ia+k<=a.size) (h:∀x∈(a.toList.drop ia).take k,∀y∈b.toList.drop ib,lt y x=false):MI lt a b (out++a.extract ia (ia+k)) (ia+k) ib:=by
 have e:(out++a.extract ia (ia+k)).toList=out.toList++(a.toList.drop ia).take k:=by rw[RO,kg]
 have sd:kc lt (a.toList.drop ia):=sa.sublist (S4 _ _);have c:=xp a.toList ia k;have sd2:=sd;rw[c]at sd2;obtain⟨q1,q2,q3⟩:=RN.mp sd2;refine⟨hk,m.lb,?_,?_,?_,?_⟩
 .rw [e,Rn];refine(SU.append_left _ ?_).trans m.pm;rw[←Rn,←c]
 .rw [e];exact RN.mpr ⟨m.so,q1,fun x hx y hy=>m.ua x hx y (Sv hy)⟩
 .rw [e];intro x hx y hy;rcases mAq.mp hx with hx|hx
  .exact m.ua x hx y (by rw[c];exact RB _ hy)
  .exact q3 x hx y hy
 .rw [e];intro x hx y hy;rcases mAq.mp hx with hx|hx
  .exact m.ub x hx y hy
  .exact h x hx y hy
theorem MI.moreB(m:MI lt a b out ia ib) (sb:kc lt b.toList) (hk:ib+k<=b.size) (h:∀x∈(b.toList.drop ib).take k,∀y∈a.toList.drop ia,lt y x=false):MI lt a b (out++b.extract ib (ib+k)) ia (ib+k):=by
 have e:(out++b.extract ib (ib+k)).toList=out.toList++(b.toList.drop ib).take k:=by rw[RO,kg]
 have sd:kc lt (b.toList.drop ib):=sb.sublist (S4 _ _);have c:=xp b.toList ib k;have sd2:=sd;rw[c]at sd2;obtain⟨q1,q2,q3⟩:=RN.mp sd2;refine⟨m.la,hk,?_,?_,?_,?_⟩
 .rw [e,Rn];refine(SU.append_left _ ?_).trans m.pm;refine((List.perm_append_comm_assoc _ _ _).trans ?_);rw[←c]
 .rw [e];exact RN.mpr ⟨m.so,q1,fun x hx y hy=>m.ub x hx y (Sv hy)⟩
 .rw [e];intro x hx y hy;rcases mAq.mp hx with hx|hx
  .exact m.ua x hx y hy
  .exact h x hx y hy
 .rw [e];intro x hx y hy;rcases mAq.mp hx with hx|hx
  .exact m.ub x hx y (by rw[c];exact RB _ hy)
  .exact q3 x hx y hy
theorem kG{l:List Keyed}{i:Nat}{x:Keyed}(h:l[i]?=some x):(l.drop i).take 1=[x]:=by
 obtain⟨hi,e⟩:=gSq.mp h;rw[RS hi,e];rfl
theorem MI.pushA{x:Keyed}(m:MI lt a b out ia ib) (sa:kc lt a.toList) (hx:a[ia]?=some x) (h:∀y∈b.toList.drop ib,lt y x=false):MI lt a b (out.push x) (ia+1) ib:=by
 have hi:ia<a.size:=(Sh.mp hx).1;have hx':a.toList[ia]?=some x:=by rw[RJ];exact hx
 refine(m.moreA sa (k:=1) hi fun z hz y hy=>?_).congr ?_
 .rw [kG hx',mSq]at hz;rw[hz];exact h y hy
 .rw [Um,RO,kg,kG hx']
theorem MI.pushB{x:Keyed}(m:MI lt a b out ia ib) (sb:kc lt b.toList) (hx:b[ib]?=some x) (h:∀y∈a.toList.drop ia,lt y x=false):MI lt a b (out.push x) ia (ib+1):=by
 have hi:ib<b.size:=(Sh.mp hx).1;have hx':b.toList[ib]?=some x:=by rw[RJ];exact hx
 refine(m.moreB sb (k:=1) hi fun z hz y hy=>?_).congr ?_
 .rw [kG hx',mSq]at hz;rw[hz];exact h y hy
 .rw [Um,RO,kg,kG hx']
structure Hd (lt:Keyed->Keyed->Bool) (a b r:Array Keyed):Prop where
 pm:r.toList.Perm (a.toList++b.toList)
 so:kc lt r.toList
theorem jO(a:Array Keyed) (i:Nat):(a.extract i a.size).toList=a.toList.drop i:=by
 rw[UV,Uu];exact S0 (by rw[RL,RA];exact Rk _)
theorem MI.endB(m:MI lt a b out ia ib) (sa:kc lt a.toList) (e:ib=b.size):Hd lt a b (out++a.extract ia a.size++b.extract ib b.size):=by
 have eb:b.toList.drop ib=[]:=by rw[e,←RA,T9]
 have et:(out++a.extract ia a.size++b.extract ib b.size).toList=out.toList++a.toList.drop ia:=by
  rw[RO,RO,jO,jO,eb,aNq]
 have pm:=m.pm;rw[eb,aNq]at pm;exact⟨by rw[et];exact pm,by rw[et];exact RN.mpr ⟨m.so,sa.sublist (S4 _ _),m.ua⟩⟩
theorem MI.endA(m:MI lt a b out ia ib) (sb:kc lt b.toList) (e:ia=a.size):Hd lt a b (out++a.extract ia a.size++b.extract ib b.size):=by
 have ea:a.toList.drop ia=[]:=by rw[e,←RA,T9]
 have et:(out++a.extract ia a.size++b.extract ib b.size).toList=out.toList++b.toList.drop ib:=by
  rw[RO,RO,jO,jO,ea,aNq]
 have pm:=m.pm;rw[ea,Sz]at pm;exact⟨by rw[et];exact pm,by rw[et];exact RN.mpr ⟨m.so,sb.sublist (S4 _ _),m.ub⟩⟩
theorem MI.lastA(m:MI lt a b out ia ib) (sa:kc lt a.toList) (sb:kc lt b.toList) (h:∀x∈b.toList.drop ib,∀y∈a.toList.drop ia,lt y x=false):Hd lt a b (out++b.extract ib b.size++a.extract ia a.size):=by
 have et:(out++b.extract ib b.size++a.extract ia a.size).toList=out.toList++(b.toList.drop ib++a.toList.drop ia):=by
  rw[RO,RO,jO,jO,Rn]
 refine⟨?_,?_⟩
 .rw [et];exact(SU.append_left _ Sb).trans m.pm
 .rw [et];refine RN.mpr ⟨m.so,RN.mpr ⟨sb.sublist (S4 _ _),sa.sublist (S4 _ _),h⟩,fun x hx y hy=>?_⟩
  rcases mAq.mp hy with hy|hy
  .exact m.ub x hx y hy
  .exact m.ua x hx y hy
end
def tX:Array Keyed->Array Keyed->StateT SortSt Sem (Array Keyed):=sortPriv% PySem.Builtin.mergeLo
def dJ:Nat->StateT SortSt Sem Unit:=sortPriv% PySem.Builtin.setMinGallop
abbrev sg(st:SortSt) (g:Nat):SortSt:=SortSt.mk' (kindOf st) (arrOf st) (pendingOf st) g (failedOf st)
theorem qm(g:Nat):dJ g=modify fun st=>sg st g:=rfl
section
variable (a b:Array Keyed)
abbrev dn(o:Array Keyed) (i j:Nat):=o++a.extract i a.size++b.extract j b.size
abbrev lA(o:Array Keyed) (i j:Nat):=o++b.extract j b.size++a.extract i a.size
abbrev SF(α:Type):=ForInStep (Option (Array Keyed)×Array Keyed×Nat×Nat×α)
def Px(o:Array Keyed) (i j m k l:Nat):StateT SortSt Sem (SF (Nat×Nat×Nat)):=do
 let x ←elem' a i
 if i+1+1 == a.size then pure (.done (some (lA a b (o.push x) (i+1) j),o.push x,i+1,j,m,k,l))
 else if decide (k<7) && decide (l<7) then pure (.done (none,o.push x,i+1,j,m,k,l))
 else pure (.yield (none,o.push x,i+1,j,m,k,l))
def Pg(o:Array Keyed) (i j m k q:Nat):StateT SortSt Sem (SF (Nat×Nat×Nat)):=do
 let x ←elem' b j
 if j+1 == b.size then pure (.done (some (dn a b (o.push x) i (j+1)),o.push x,i,j+1,m,k,q))
 else do
  let y ←elem' a i
  match ←jc true y b (j+1) (b.size-(j+1)) 0 with
  |some l =>
   if l>0 then
    if j+1+l == b.size then pure (.done (some (dn a b (o.push x++b.extract (j+1) (j+1+l)) i (j+1+l)),o.push x++b.extract (j+1) (j+1+l),i,j+1+l,m,k,l))
    else Px a b (o.push x++b.extract (j+1) (j+1+l)) i (j+1+l) m k l
   else Px a b (o.push x) i (j+1) m k l
  |_=>pure (.done (some (dn a b (o.push x) i (j+1)),o.push x,i,j+1,m,k,q))
def P6(o:Array Keyed) (i j m p q:Nat):StateT SortSt Sem (SF (Nat×Nat×Nat)):=do
 dJ m
 let x ←elem' b j
 match ←jc false x a i (a.size-i) 0 with
 |some k =>
  if k>0 then
   if i+k+1 == a.size then pure (.done (some (lA a b (o++a.extract i (i+k)) (i+k) j),o++a.extract i (i+k),i+k,j,m,k,q))
   else if i+k == a.size then pure (.done (some (dn a b (o++a.extract i (i+k)) (i+k) j),o++a.extract i (i+k),i+k,j,m,k,q))
   else Pg a b (o++a.extract i (i+k)) (i+k) j m k q
  else Pg a b o i j m k q
 |_=>pure (.done (some (dn a b o i j),o,i,j,m,p,q))
def Qh(m:Nat) (o:Array Keyed) (i j p q:Nat):StateT SortSt Sem (SF (Nat×Nat)):=do
 let y ←elem' b j
 let x ←elem' a i
 match ←lt' y x with
 |some c =>
  if c then do
   let z ←elem' b j
   if j+1 == b.size then pure (.done (some (dn a b (o.push z) i (j+1)),o.push z,i,j+1,0,q+1))
   else if q+1 ≥ m then pure (.done (none,o.push z,i,j+1,0,q+1))
   else pure (.yield (none,o.push z,i,j+1,0,q+1))
  else do
   let z ←elem' a i
   if i+1+1 == a.size then pure (.done (some (lA a b (o.push z) (i+1) j),o.push z,i+1,j,p+1,0))
   else if p+1 ≥ m then pure (.done (none,o.push z,i+1,j,p+1,0))
   else pure (.yield (none,o.push z,i+1,j,p+1,0))
 |_=>pure (.done (some (dn a b o i j),o,i,j,p,q))
def Qt(o:Array Keyed) (i j m:Nat):StateT SortSt Sem (SF Nat):=do
 let r ←forIn [0:a.size+b.size] (none,o,i,j,0,0) fun _ s=>Qh a b m s.2.1 s.2.2.1 s.2.2.2.1 s.2.2.2.2.1 s.2.2.2.2.2
 Break.runK.match_1 (fun _=>StateT SortSt Sem (SF Nat)) r.1 (fun v=>pure (.done (some v,r.2.1,r.2.2.1,r.2.2.2.1,m))) fun _=>do
  rule "list.sort.gallop"
  let r ←forIn [0:a.size+b.size] (none,r.2.1,r.2.2.1,r.2.2.2.1,m+1,r.2.2.2.2.1,r.2.2.2.2.2) fun _ s=>if s.2.2.2.2.1>1 then P6 a b s.2.1 s.2.2.1 s.2.2.2.1 (s.2.2.2.2.1-1) s.2.2.2.2.2.1 s.2.2.2.2.2.2 else P6 a b s.2.1 s.2.2.1 s.2.2.2.1 s.2.2.2.2.1 s.2.2.2.2.2.1 s.2.2.2.2.2.2
  Break.runK.match_1 (fun _=>StateT SortSt Sem (SF Nat)) r.1 (fun v=>pure (.done (some v,r.2.1,r.2.2.1,r.2.2.2.1,r.2.2.2.2.1))) fun _=>do
   dJ (r.2.2.2.2.1+1)
   pure (.yield (none,r.2.1,r.2.2.1,r.2.2.2.1,r.2.2.2.2.1+1))
theorem yO:tX a b=(do
 rule "list.sort.merge-lo"
 let x ←elem' b 0
 if 1 == b.size then pure (dn a b #[x] 0 1)
 else if 0+1 == a.size then pure (lA a b #[x] 0 1)
 else do
  let st ←get
  let r ←forIn [0:a.size+b.size] (none,#[x],0,1,gallopOf st) fun _ s=>Qt a b s.2.1 s.2.2.1 s.2.2.2.1 s.2.2.2.2
  Break.runK.match_1 (fun _=>StateT SortSt Sem (Array Keyed)) r.1 (fun v=>pure v) fun _=>unsupported "internal:list.sort.merge-bound"):=rfl
end
section
variable {prog:Program}{w:World}{A:Around}{E:Value->Shared->Prop}{s:Shared}{κ:SortKind}{P:Keyed->Prop}{lt:Keyed->Keyed->Bool}
theorem kz{g:Nat}{st:SortSt}{Q:Unit->SortSt->Prop}(h:Q () (sg st g)):wpS (model prog w) A E s (dJ g) Q st:=by
 rw[qm];exact wpS_modify h
theorem jA{x:String}{st:SortSt}{Q:Unit->SortSt->Prop}(h:Q () st):wpS (model prog w) A E s (liftM (rule x):StateT SortSt Sem Unit) Q st:=wpS_lift (wpAny_rule ⟨rfl,h⟩)
theorem rS(C:mz prog w A s κ P lt) {a:Array Keyed}{i:Nat}{x:Keyed}(ha:∀x,x∈a->P x) (sa:kc lt a.toList) (hx:a[i]?=some x):∀y∈a.toList.drop i,lt y x=false:=by
 obtain⟨hi,e⟩:=Sh.mp hx;have hi':i<a.toList.length:=by simpa using hi
 have e':a.toList[i]=x:=by simpa using e
 have sd:kc lt (a.toList.drop i):=sa.sublist (S4 _ _);rw[RS hi',e']at sd ⊢;intro y hy;rcases Rl.mp hy with rfl|hy
 .exact C.refl (ha _ (by rw[←e];exact Sd hi))
 .exact (To.mp sd).1 y hy
theorem ip{a:Array Keyed}{i:Nat}{y:Keyed}(h:y∈a.toList.drop i):y∈a:=by simpa using So h
theorem oT(C:mz prog w A s κ P lt) {left:Bool}{key:Keyed}{arr:Array Keyed}{base n:Nat}(hb:base+n<=arr.size) (ha:∀x,x∈arr->P x) (hkey:P key) (so:kc lt (arr.toList.drop base)) :
  ∀i j,i<=j->j<n->jW lt left key arr base j=true->jW lt left key arr base i=true:=by
 intro i j hij hj h;have hi':base+i<arr.size:=by lia
 have hj':base+j<arr.size:=by lia
 have ei:arr.getD (base+i) key=arr[base+i]:=by simp[VT,hi']
 have ej:arr.getD (base+j) key=arr[base+j]:=by simp[VT,hj']
 have pi:=ha _ (Sd hi');have pj:=ha _ (Sd hj');have le:lt arr[base+j] arr[base+i]=false:=by
  rcases Ux hij with q|q
  .have:=Tg.mp so i j (by simp;lia) (by simp;lia) q
   simpa using this
  .subst q;exact C.refl pi
 unfold jW at h ⊢;rw[ei];rw[ej]at h;cases left with
 |true =>
  rw[if_pos rfl]at h ⊢;cases q:lt arr[base+i] key with
  |true=>rfl
  |false =>
   have:=C.trans key arr[base+i] arr[base+j] hkey pi pj q le;rw[h]at this;cases this
 |false =>
  rw[if_neg (by decide)]at h ⊢
  have h':lt key arr[base+j]=false:=by simpa using h
  have:=C.trans arr[base+i] arr[base+j] key pi pj hkey le h';simp[this]
theorem fA{left:Bool}{key x:Keyed}{arr:Array Keyed}{base i:Nat}(hx:arr[base+i]?=some x):jW lt left key arr base i=if left then lt x key else !lt key x:=by
 obtain⟨hi,e⟩:=Sh.mp hx;unfold jW;have ei:arr.getD (base+i) key=x:=by simp[VT,hi,e]
 rw[ei]
theorem jh{a:Array Keyed}{i k:Nat}{x:Keyed}(h:x∈(a.toList.drop i).take k):∃j,j<k/\a[i+j]?=some x:=by
 obtain⟨j,hj,e⟩:=Ts.mp h;rw[lTq]at hj;refine⟨j,by lia,?_⟩
 rw[Vi,UF]at e;rw[Sh];have hs:i+j<a.size:=by
  rw[RL,RA]at hj;lia
 exact⟨hs,by simpa using e⟩
theorem lI{a:Array Keyed}{i:Nat}{x:Keyed}(h:x∈a.toList.drop i):∃j,i+j<a.size/\a[i+j]?=some x:=by
 obtain⟨j,hj,e⟩:=Ts.mp h;rw[RL,RA]at hj;have hs:i+j<a.size:=by lia
 refine⟨j,hs,?_⟩;rw[UF]at e;rw[Sh];exact⟨hs,by simpa using e⟩
inductive Lp {ρ τ ι σ:Type}(t:ι->τ) (v:ι->σ) (J K:ι->Prop) (R:ρ->σ->Prop):ForInStep (Option ρ×τ)->σ->Prop
 |y (x):J x->Lp t v J K R (.yield (none,t x)) (v x)
 |d (x):K x->Lp t v J K R (.done (none,t x)) (v x)
 |r (a y st):R a st->Lp t v J K R (.done (some a,y)) st
theorem jz{M:Model}{ρ τ ι σ β:Type}{n:Nat}(t:ι->τ) (v:ι->σ) (J:Nat->ι->Prop) (K:ι->Prop) (R:ρ->σ->Prop) {f:Nat->Option ρ×τ->StateT σ Sem (ForInStep (Option ρ×τ))}{k:Option ρ×τ->StateT σ Sem β}{Q:β->σ->Prop}
  (x:ι) (h:J 0 x) (step:∀i x,J i x->wpS M A E s (f i (none,t x)) (Lp t v (J (i+1)) K R) (v x)) (fin:∀x,J n x->K x) (pn:∀x,K x->wpS M A E s (k (none,t x)) Q (v x)) (ps:∀r y st,R r st->wpS M A E s (k (some r,y)) Q st) :
  wpS M A E s (forIn [0:n] (none,t x) f >>= k) Q (v x):=by
 refine wpS_bind (wpS_mono (wpS_forRange (I:=fun i c st=>∃x,c=(none,t x)/\st=v x/\J i x) (Q:=fun c st=>Lp t v K K R (.done c) st) ?_ ?_ ⟨x,rfl,rfl,h⟩) ?_)
 .rintro i c st _ _ ⟨x,rfl,rfl,h⟩;refine wpS_mono (step i x h) fun r st' hr=>?_
  cases hr with
  |y x h=>exact⟨x,rfl,rfl,h⟩
  |d x h=>exact .d x h
  |r a y st h=>exact .r a y _ h
 .rintro c st ⟨x,rfl,rfl,h⟩;rw[Wg (Sl n)]at h;exact .d x (fin x h)
 .rintro c st h;cases h with
  |d x h=>exact pn x h
  |r a y st h=>exact ps a y _ h
structure Ls where
 o:Array Keyed
 (i j m p q g:Nat)
structure ML (lt:Keyed->Keyed->Bool) (a b:Array Keyed) (n:Nat) (x:Ls):Prop where
 m:MI lt a b x.o x.i x.j
 p:x.i+1<a.size
 q:x.j<b.size
 r:n<=x.i+x.j
structure Lo (prog:Program) (w:World) (A:Around) (s:Shared) (κ:SortKind) (P:Keyed->Prop) (lt:Keyed->Keyed->Bool) (a b:Array Keyed) (st:SortSt) (Q:Array Keyed->SortSt->Prop):Prop where
 C:mz prog w A s κ P lt
 ha:∀x,x∈a->P x
 hb:∀x,x∈b->P x
 hk:kindOf st=κ
 sa:kc lt a.toList
 sb:kc lt b.toList
 h:∀r g,Hd lt a b r->Q r (sg st g)
abbrev L6(x:Ls):=(x.o,x.i,x.j,x.m,x.p,x.q)
abbrev L5(x:Ls):=(x.o,x.i,x.j,x.p,x.q)
abbrev L4(x:Ls):=(x.o,x.i,x.j,x.m)
variable {a b:Array Keyed}{st:SortSt}{Q:Array Keyed->SortSt->Prop}{n:Nat}{x:Ls}
abbrev Hl(lt:Keyed->Keyed->Bool) (a b:Array Keyed):=∀i,i+1=a.size->∀x∈b.toList,∀y∈a.toList.drop i,lt y x=false
theorem FP(H:Lo prog w A s κ P lt a b st Q) (hl:Hl lt a b) (q:ML lt a b n x) (hi:∀z,a[x.i]?=some z->∀y∈b.toList.drop x.j,lt y z=false) :
  wpS (model prog w) A E s (Px a b x.o x.i x.j x.m x.p x.q) (Lp L6 (fun x=>sg st x.g) (ML lt a b n) (ML lt a b n) Q) (sg st x.g):=by
 have p1:=q.p;have ea:a[x.i]?=some a[x.i]:=Rm (by lia)
 refine wpS_bind (bj ea ?_);have m6:=q.m.pushA H.sa ea (hi _ ea)
 by_cases d6:x.i+1+1=a.size
 .rw [if_pos (by simp[d6])]
  exact wpS_pure (.r _ _ _ (H.h _ _ (m6.lastA H.sa H.sb fun y hy=>hl _ d6 y (So hy))))
 rw[if_neg (by simpa using d6)]
 have R:ML lt a b n ⟨_,_,_,x.m,x.p,x.q,x.g⟩:=⟨m6,by dsimp only;lia,q.q,by have:=q.r;dsimp only;lia⟩
 split
 .exact wpS_pure (.d _ R)
 .exact wpS_pure (.y _ R)
theorem Fp(H:Lo prog w A s κ P lt a b st Q) (hl:Hl lt a b) (q:ML lt a b n x) (hi:∀z,b[x.j]?=some z->∀y∈a.toList.drop x.i,lt y z=false) :
  wpS (model prog w) A E s (Pg a b x.o x.i x.j x.m x.p x.q) (Lp L6 (fun x=>sg st x.g) (ML lt a b n) (ML lt a b n) Q) (sg st x.g):=by
 have p1:=q.p;have p2:=q.q;have p3:=q.r;have eb:b[x.j]?=some b[x.j]:=Rm p2;refine wpS_bind (bj eb ?_);have m4:=q.m.pushB H.sb eb (hi _ eb)
 by_cases d3:x.j+1=b.size
 .rw [if_pos (by simp[d3])]
  exact wpS_pure (.r _ _ _ (H.h _ _ (m4.endB H.sa d3)))
 rw[if_neg (by simpa using d3)]
 have ea:a[x.i]?=some a[x.i]:=Rm (by lia)
 have pa:=H.ha _ (Sd (show x.i<a.size by lia))
 refine wpS_bind (bj ea (wpS_bind (fT H.C (base:=x.j+1) (n:=b.size-(x.j+1)) (by lia) (by lia) H.hb pa H.hk (oT H.C (by lia) H.hb pa (H.sb.sublist (S4 _ _))) fun l l1 l2 l3=>?_)))
 have hB:∀z,a[x.i]?=some z->∀y∈b.toList.drop (x.j+1+l),lt y z=false:=fun z hz y hy=>by
  obtain⟨j',hj',ey⟩:=lI hy;have q:=l3 (l+j') (by lia) (by lia)
  rw[fA (by rw[←UP];exact ey),if_pos rfl]at q
  rw[ea]at hz;cases hz;exact q
 dsimp only
 by_cases cl:l>0
 .rw [if_pos cl];have m5:=m4.moreB H.sb (k:=l) (by lia) fun x hx y hy=>by
   obtain⟨j',hj',ex⟩:=jh hx;have q:=l2 j' hj';rw[fA ex,if_pos rfl]at q;have px:=H.hb x (Sv hx |> ip);exact H.C.trans _ _ _ px pa (H.ha _ (ip hy)) (H.C.asym _ _ px pa q) (rS H.C H.ha H.sa ea y hy)
  by_cases d5:x.j+1+l=b.size
  .rw [if_pos (by simp[d5])]
   exact wpS_pure (.r _ _ _ (H.h _ _ (m5.endB H.sa d5)))
  rw[if_neg (by simpa using d5)]
  exact FP H hl (x:=⟨_,_,_,_,_,_,x.g⟩) ⟨m5,p1,by dsimp only;lia,by dsimp only;lia⟩ hB
 .rw [if_neg cl];exact FP H hl (x:=⟨_,_,_,_,_,_,x.g⟩) ⟨m4,p1,by dsimp only;lia,by dsimp only;lia⟩ (by rw[show x.j+1=x.j+1+l by lia];exact hB)
theorem EN(H:Lo prog w A s κ P lt a b st Q) (hl:Hl lt a b) (q:ML lt a b n x) :
  wpS (model prog w) A E s (P6 a b x.o x.i x.j x.m x.p x.q) (Lp L6 (fun x=>sg st x.g) (ML lt a b n) (ML lt a b n) Q) (sg st x.g):=by
 have p1:=q.p;have p2:=q.q;have p3:=q.r;have eb:b[x.j]?=some b[x.j]:=Rm p2;have pb:=H.hb _ (Sd p2);refine wpS_bind (kz (wpS_bind (bj eb (wpS_bind (fT H.C (base:=x.i) (n:=a.size-x.i) (by lia) (by lia) H.ha pb H.hk (oT H.C (by lia) H.ha pb (H.sa.sublist (S4 _ _))) fun k k1 k2 k3=>?_)))))
 have hA:∀z,b[x.j]?=some z->∀y∈a.toList.drop (x.i+k),lt y z=false:=fun z hz y hy=>by
  obtain⟨j',hj',ey⟩:=lI hy;have q:=k3 (k+j') (by lia) (by lia)
  rw[fA (by rw[←UP];exact ey),if_neg (by decide)]at q
  rw[eb]at hz;cases hz;exact H.C.asym _ _ pb (H.ha _ (ip hy)) (by simpa using q)
 dsimp only
 by_cases ck:k>0
 .rw [if_pos ck];have m3:=q.m.moreA H.sa (k:=k) (by lia) fun x hx y hy=>by
   obtain⟨j',hj',ex⟩:=jh hx;have q:=k2 j' hj';rw[fA ex,if_neg (by decide)]at q
   exact H.C.trans _ _ _ (H.ha x (Sv hx |> ip)) pb (H.hb _ (ip hy)) (by simpa using q) (rS H.C H.hb H.sb eb y hy)
  by_cases d1:x.i+k+1=a.size
  .rw [if_pos (by simp[d1])]
   exact wpS_pure (.r _ _ _ (H.h _ x.m (m3.lastA H.sa H.sb fun x hx=>hl _ d1 x (So hx))))
  rw[if_neg (by simpa using d1)]
  by_cases d2:x.i+k=a.size
  .rw [if_pos (by simp[d2])]
   exact wpS_pure (.r _ _ _ (H.h _ x.m (m3.endA H.sb d2)))
  rw[if_neg (by simpa using d2)]
  exact Fp H hl (x:=⟨_,_,_,_,_,_,x.m⟩) ⟨m3,by dsimp only;lia,p2,by dsimp only;lia⟩ hA
 .rw [if_neg ck];exact Fp H hl (x:=⟨_,_,_,_,_,_,x.m⟩) ⟨q.m,p1,p2,p3⟩ (by rw[show x.i=x.i+k by lia];exact hA)
theorem LX(H:Lo prog w A s κ P lt a b st Q) (hl:Hl lt a b) {m j:Nat}(q:ML lt a b (n+j) x) :
  wpS (model prog w) A E s (Qh a b m x.o x.i x.j x.p x.q) (Lp L5 (fun x=>sg st x.g) (ML lt a b (n+(j+1))) (ML lt a b (n+1)) Q) (sg st x.g):=by
 have p1:=q.p;have p2:=q.q;have p3:=q.r;have ea:a[x.i]?=some a[x.i]:=Rm (by lia)
 have eb:b[x.j]?=some b[x.j]:=Rm p2;have pa:=H.ha _ (Sd (show x.i<a.size by lia))
 have pb:=H.hb _ (Sd p2);refine wpS_bind (bj eb (wpS_bind (bj ea (wpS_bind (H.C.cmp pb pa H.hk ?_)))));cases e:lt b[x.j] a[x.i] with
 |true =>
  dsimp only;rw[if_pos rfl];refine wpS_bind (bj eb ?_);have m2:=q.m.pushB H.sb eb fun z hz=>H.C.trans _ _ _ pb pa (H.ha _ (ip hz)) (H.C.asym _ _ pb pa e) (rS H.C H.ha H.sa ea z hz)
  by_cases d1:x.j+1=b.size
  .rw [if_pos (by simp[d1])]
   exact wpS_pure (.r _ _ _ (H.h _ _ (m2.endB H.sa d1)))
  rw[if_neg (by simpa using d1)]
  have R:∀n,n<=x.i+(x.j+1)->ML lt a b n ⟨_,_,_,0,0,x.q+1,x.g⟩:=fun n hn=>⟨m2,p1,by dsimp only;lia,hn⟩
  split
  .exact wpS_pure (.d _ (R _ (by lia)))
  .exact wpS_pure (.y _ (R _ (by lia)))
 |false =>
  dsimp only;rw[if_neg (by decide)]
  refine wpS_bind (bj ea ?_);have m2:=q.m.pushA H.sa ea fun z hz=>H.C.trans _ _ _ pa pb (H.hb _ (ip hz)) e (rS H.C H.hb H.sb eb z hz)
  by_cases d1:x.i+1+1=a.size
  .rw [if_pos (by simp[d1])]
   exact wpS_pure (.r _ _ _ (H.h _ _ (m2.lastA H.sa H.sb fun x hx=>hl _ d1 x (So hx))))
  rw[if_neg (by simpa using d1)]
  have R:∀n,n<=x.i+1+x.j->ML lt a b n ⟨_,_,_,0,x.p+1,0,x.g⟩:=fun n hn=>⟨m2,by dsimp only;lia,p2,hn⟩
  split
  .exact wpS_pure (.d _ (R _ (by lia)))
  .exact wpS_pure (.y _ (R _ (by lia)))
theorem K9(H:Lo prog w A s κ P lt a b st Q) (hl:Hl lt a b) (q:ML lt a b n x) :
  wpS (model prog w) A E s (Qt a b x.o x.i x.j x.m) (Lp L4 (fun x=>sg st x.g) (ML lt a b (n+1)) (fun _=>False) Q) (sg st x.g):=by
 refine jz L5 (fun x=>sg st x.g) (fun j=>ML lt a b (n+j)) (ML lt a b (n+1)) Q ⟨x.o,x.i,x.j,0,0,0,x.g⟩ ⟨q.m,q.p,q.q,q.r⟩ (fun j x q=>LX H hl q) (fun y h=>⟨h.m,h.p,h.q,by have:=h.r;have:=h.p;have:=h.q;lia⟩) (fun y q=>?_) fun r y st' hr=>wpS_pure (.r _ _ _ hr)
 refine wpS_bind (jA ?_);refine jz L6 (fun x=>sg st x.g) (fun _=>ML lt a b (n+1)) (ML lt a b (n+1)) Q ⟨y.o,y.i,y.j,x.m+1,y.p,y.q,y.g⟩ ⟨q.m,q.p,q.q,q.r⟩ (fun j z q=>?_) (fun _ h=>h) (fun z q=>?_) fun r y st' hr=>wpS_pure (.r _ _ _ hr)
 .dsimp only;split
  .exact EN H hl (x:=⟨_,_,_,z.m-1,_,_,z.g⟩) ⟨q.m,q.p,q.q,q.r⟩
  .exact EN H hl q
 .refine wpS_bind (kz (wpS_pure ?_));exact Lp.y (t:=L4) (v:=fun x=>sg st x.g) ⟨_,_,_,z.m+1,0,0,z.m+1⟩ ⟨q.m,q.p,q.q,q.r⟩
theorem xE(C:mz prog w A s κ P lt) (ha:∀x,x∈a->P x) (hb:∀x,x∈b->P x) (hk:kindOf st=κ) (sa:kc lt a.toList) (sb:kc lt b.toList)
  (na:0<a.size) (nb:0<b.size) (h0:∀x,b[0]?=some x->∀y∈a.toList,lt y x=false) (hl:∀i,i+1=a.size->∀x∈b.toList,∀y∈a.toList.drop i,lt y x=false)
  (h:∀r g,Hd lt a b r->Q r (sg st g)):wpS (model prog w) A E s (tX a b) Q st:=by
 rw[yO];refine wpS_bind (jA ?_);have eb0:b[0]?=some b[0]:=Rm nb;refine wpS_bind (bj eb0 ?_);have m0:MI lt a b #[] 0 0:=⟨Sl _,Sl _,by simp,by simp[kc],by simp,by simp⟩
 have m1:MI lt a b #[b[0]] 0 1:=m0.pushB sb eb0 fun y hy=>h0 _ eb0 y (by simpa using hy)
 by_cases c1:1=b.size
 .rw [if_pos (by simp[←c1])]
  exact wpS_pure (h _ (gallopOf st) (m1.endB sa c1))
 rw[if_neg (by simpa using c1)]
 by_cases c2:0+1=a.size
 .rw [if_pos (by simp[←c2])]
  exact wpS_pure (h _ (gallopOf st) (m1.lastA sa sb fun x hx=>hl 0 c2 x (So hx)))
 rw[if_neg (by simpa using c2)]
 refine wpS_bind (wpS_get ?_);exact jz L4 (fun x=>sg st x.g) (fun i=>ML lt a b (i+1)) (fun _=>False) Q ⟨_,0,1,_,0,0,gallopOf st⟩ ⟨m1,by dsimp only;lia,by dsimp only;lia,by dsimp only;lia⟩ (fun i x q=>K9 ⟨C,ha,hb,hk,sa,sb,h⟩ hl q) (fun x h=>by have:=h.p;have:=h.q;have:=h.r;lia) (fun x h=>h.elim) fun r y st' hr=>wpS_pure hr
end
structure MH (lt:Keyed->Keyed->Bool) (a b out:Array Keyed) (na nb:Nat):Prop where
 la:na<=a.size
 lb:nb<=b.size
 pm:((a.toList.take na++b.toList.take nb)++out.toList.reverse).Perm (a.toList++b.toList)
 so:kc lt out.toList.reverse
 ua:∀x∈a.toList.take na,∀y∈out.toList,lt y x=false
 ub:∀x∈b.toList.take nb,∀y∈out.toList,lt y x=false
section
variable {lt:Keyed->Keyed->Bool}{a b out out':Array Keyed}{na nb k:Nat}
theorem MH.congr(m:MH lt a b out na nb) (e:out'.toList=out.toList):MH lt a b out' na nb:=⟨m.la,m.lb,by rw[e];exact m.pm,by rw[e];exact m.so,by rw[e];exact m.ua,by rw[e];exact m.ub⟩
theorem oK(l:List Keyed) (k n:Nat) (h:k<=n):l.take n=l.take k++(l.take n).drop k:=by
 have e:(l.take n).take k=l.take k:=by rw[List.take_take,Ug h]
 rw[←e,R5]
theorem cQ(a:Array Keyed) (k n:Nat):(a.extract k n).toList=(a.toList.take n).drop k:=by
 rw[UV,Uu,List.drop_take]
theorem oI(a:Array Keyed) (n:Nat):(a.extract 0 n).toList=a.toList.take n:=by
 rw[cQ,UE]
theorem MH.moreA(m:MH lt a b out na nb) (sa:kc lt a.toList) (hk:k<=na) (h:∀x∈b.toList.take nb,∀y∈(a.toList.take na).drop k,lt y x=false):MH lt a b (out++(a.extract k na).reverse) k nb:=by
 have e:(out++(a.extract k na).reverse).toList=out.toList++((a.toList.take na).drop k).reverse:=by rw[RO,Tt,cQ]
 have er:(out++(a.extract k na).reverse).toList.reverse=(a.toList.take na).drop k++out.toList.reverse:=by rw[e,TC,UW]
 have c:=oK a.toList k na hk;have sd:kc lt (a.toList.take na):=sa.sublist (Sa _ _);have sd2:=sd;rw[c]at sd2;obtain⟨q1,q2,q3⟩:=RN.mp sd2;have sub:∀y,y∈(a.toList.take na).drop k->y∈a.toList.take na:=fun y hy=>So hy
 refine⟨S9 hk m.la,m.lb,?_,?_,?_,?_⟩
 .rw [er];refine SU.trans ?_ m.pm;rw[←Rn];refine SU.append_right _ ?_
  conv=>rhs;rw[c]
  rw[Rn,Rn];exact SU.append_left _ Sb
 .rw [er];exact RN.mpr ⟨q2,m.so,fun x hx y hy=>m.ua x (sub x hx) y (SW.mp hy)⟩
 .rw [e];intro x hx y hy;rcases mAq.mp hy with hy|hy
  .exact m.ua x (by rw[c];exact SN _ hx) y hy
  .exact q3 x hx y (SW.mp hy)
 .rw [e];intro x hx y hy;rcases mAq.mp hy with hy|hy
  .exact m.ub x hx y hy
  .exact h x hx y (SW.mp hy)
theorem MH.moreB(m:MH lt a b out na nb) (sb:kc lt b.toList) (hk:k<=nb) (h:∀x∈a.toList.take na,∀y∈(b.toList.take nb).drop k,lt y x=false):MH lt a b (out++(b.extract k nb).reverse) na k:=by
 have e:(out++(b.extract k nb).reverse).toList=out.toList++((b.toList.take nb).drop k).reverse:=by rw[RO,Tt,cQ]
 have er:(out++(b.extract k nb).reverse).toList.reverse=(b.toList.take nb).drop k++out.toList.reverse:=by rw[e,TC,UW]
 have c:=oK b.toList k nb hk;have sd:kc lt (b.toList.take nb):=sb.sublist (Sa _ _);have sd2:=sd;rw[c]at sd2;obtain⟨q1,q2,q3⟩:=RN.mp sd2;have sub:∀y,y∈(b.toList.take nb).drop k->y∈b.toList.take nb:=fun y hy=>So hy
 refine⟨m.la,S9 hk m.lb,?_,?_,?_,?_⟩
 .rw [er];refine SU.trans ?_ m.pm;rw[←Rn];refine SU.append_right _ ?_
  conv=>rhs;rw[c]
  rw[Rn]
 .rw [er];exact RN.mpr ⟨q2,m.so,fun x hx y hy=>m.ub x (sub x hx) y (SW.mp hy)⟩
 .rw [e];intro x hx y hy;rcases mAq.mp hy with hy|hy
  .exact m.ua x hx y hy
  .exact h x hx y (SW.mp hy)
 .rw [e];intro x hx y hy;rcases mAq.mp hy with hy|hy
  .exact m.ub x (by rw[c];exact SN _ hx) y hy
  .exact q3 x hx y (SW.mp hy)
theorem kA{l:List Keyed}{i:Nat}{x:Keyed}(h:l[i]?=some x):(l.take (i+1)).drop i=[x]:=by
 rw[TZ,h,Wf];have hl:(l.take i).length=i:=by
  have:=(gSq.mp h).1;rw[lTq];lia
 rw[UL (by lia),hl,TB]
 rfl
theorem MH.pushA{x:Keyed}(m:MH lt a b out (na+1) nb) (sa:kc lt a.toList) (hx:a[na]?=some x) (h:∀y∈b.toList.take nb,lt x y=false):MH lt a b (out.push x) na nb:=by
 have hx':a.toList[na]?=some x:=by rw[RJ];exact hx
 refine(m.moreA sa (k:=na) (Tz _) fun z hz y hy=>?_).congr ?_
 .rw [kA hx',mSq]at hy;rw[hy];exact h z hz
 .rw [Um,RO,Tt,cQ,kA hx'];rfl
theorem MH.pushB{x:Keyed}(m:MH lt a b out na (nb+1)) (sb:kc lt b.toList) (hx:b[nb]?=some x) (h:∀y∈a.toList.take na,lt x y=false):MH lt a b (out.push x) na nb:=by
 have hx':b.toList[nb]?=some x:=by rw[RJ];exact hx
 refine(m.moreB sb (k:=nb) (Tz _) fun z hz y hy=>?_).congr ?_
 .rw [kA hx',mSq]at hy;rw[hy];exact h z hz
 .rw [Um,RO,Tt,cQ,kA hx'];rfl
theorem MH.end(m:MH lt a b out na nb) (sa:kc lt a.toList) (sb:kc lt b.toList) (e:na=0∨nb=0):Hd lt a b (a.extract 0 na++b.extract 0 nb++out.reverse):=by
 have et:(a.extract 0 na++b.extract 0 nb++out.reverse).toList=(a.toList.take na++b.toList.take nb)++out.toList.reverse:=by
  rw[RO,RO,oI,oI,Tt]
 refine⟨by rw[et];exact m.pm,?_⟩
 rw[et];refine RN.mpr ⟨?_,m.so,fun x hx y hy=>?_⟩
 .rcases e with rfl|rfl
  .rw [Wr,Sz];exact sb.sublist (Sa _ _)
  .rw [Wr,aNq];exact sa.sublist (Sa _ _)
 .rcases mAq.mp hx with hx|hx
  .exact m.ua x hx y (SW.mp hy)
  .exact m.ub x hx y (SW.mp hy)
theorem MH.firstB(m:MH lt a b out na nb) (sa:kc lt a.toList) (sb:kc lt b.toList) (h:∀x∈b.toList.take nb,∀y∈a.toList.take na,lt y x=false):Hd lt a b (b.extract 0 nb++a.extract 0 na++out.reverse):=by
 have et:(b.extract 0 nb++a.extract 0 na++out.reverse).toList=(b.toList.take nb++a.toList.take na)++out.toList.reverse:=by
  rw[RO,RO,oI,oI,Tt]
 refine⟨?_,?_⟩
 .rw [et];exact(SU.append_right _ Sb).trans m.pm
 .rw [et];refine RN.mpr ⟨RN.mpr ⟨sb.sublist (Sa _ _),sa.sublist (Sa _ _),h⟩,m.so,fun x hx y hy=>?_⟩
  rcases mAq.mp hx with hx|hx
  .exact m.ub x hx y (SW.mp hy)
  .exact m.ua x hx y (SW.mp hy)
end
def sI:Array Keyed->Array Keyed->StateT SortSt Sem (Array Keyed):=sortPriv% PySem.Builtin.mergeHi
section
variable (a b:Array Keyed)
abbrev dH(o:Array Keyed) (i j:Nat):=a.extract 0 i++b.extract 0 j++o.reverse
abbrev fH(o:Array Keyed) (i j:Nat):=b.extract 0 j++a.extract 0 i++o.reverse
abbrev SH(α:Type):=ForInStep (Option (Array Keyed)×Nat×Nat×Array Keyed×α)
def O3(o:Array Keyed) (i j m k l:Nat):StateT SortSt Sem (SH (Nat×Nat×Nat)):=do
 let x ←elem' a (i-1)
 if i-1 == 0 then pure (.done (some (dH a b (o.push x) (i-1) j),i-1,j,o.push x,m,k,l))
 else if decide (k<7) && decide (l<7) then pure (.done (none,i-1,j,o.push x,m,k,l))
 else pure (.yield (none,i-1,j,o.push x,m,k,l))
def OO(o:Array Keyed) (i j m k q:Nat):StateT SortSt Sem (SH (Nat×Nat×Nat)):=do
 let x ←elem' b (j-1)
 if j-1 == 1 then pure (.done (some (fH a b (o.push x) i (j-1)),i,j-1,o.push x,m,k,q))
 else do
  let y ←elem' a (i-1)
  match ←jc true y b 0 (j-1) (j-1-1) with
  |some l =>
   if j-1-l>0 then
    if l == 1 then pure (.done (some (fH a b (o.push x++(b.extract l (j-1)).reverse) i l),i,l,o.push x++(b.extract l (j-1)).reverse,m,k,j-1-l))
    else if l == 0 then pure (.done (some (dH a b (o.push x++(b.extract l (j-1)).reverse) i l),i,l,o.push x++(b.extract l (j-1)).reverse,m,k,j-1-l))
    else O3 a b (o.push x++(b.extract l (j-1)).reverse) i l m k (j-1-l)
   else O3 a b (o.push x) i (j-1) m k (j-1-l)
  |_=>pure (.done (some (dH a b (o.push x) i (j-1)),i,j-1,o.push x,m,k,q))
def OX(o:Array Keyed) (i j m p q:Nat):StateT SortSt Sem (SH (Nat×Nat×Nat)):=do
 dJ m
 let x ←elem' b (j-1)
 match ←jc false x a 0 i (i-1) with
 |some k =>
  if i-k>0 then
   if k == 0 then pure (.done (some (dH a b (o++(a.extract k i).reverse) k j),k,j,o++(a.extract k i).reverse,m,i-k,q))
   else OO a b (o++(a.extract k i).reverse) k j m (i-k) q
  else OO a b o i j m (i-k) q
 |_=>pure (.done (some (dH a b o i j),i,j,o,m,p,q))
def Hc(m:Nat) (o:Array Keyed) (i j p q:Nat):StateT SortSt Sem (SH (Nat×Nat)):=do
 let y ←elem' b (j-1)
 let x ←elem' a (i-1)
 match ←lt' y x with
 |some c =>
  if c then do
   let z ←elem' a (i-1)
   if i-1 == 0 then pure (.done (some (dH a b (o.push z) (i-1) j),i-1,j,o.push z,p+1,0))
   else if p+1 ≥ m then pure (.done (none,i-1,j,o.push z,p+1,0))
   else pure (.yield (none,i-1,j,o.push z,p+1,0))
  else do
   let z ←elem' b (j-1)
   if j-1 == 1 then pure (.done (some (fH a b (o.push z) i (j-1)),i,j-1,o.push z,0,q+1))
   else if q+1 ≥ m then pure (.done (none,i,j-1,o.push z,0,q+1))
   else pure (.yield (none,i,j-1,o.push z,0,q+1))
 |_=>pure (.done (some (dH a b o i j),i,j,o,p,q))
def OU(o:Array Keyed) (i j m:Nat):StateT SortSt Sem (SH Nat):=do
 let r ←forIn [0:a.size+b.size] (none,i,j,o,0,0) fun _ s=>Hc a b m s.2.2.2.1 s.2.1 s.2.2.1 s.2.2.2.2.1 s.2.2.2.2.2
 Break.runK.match_1 (fun _=>StateT SortSt Sem (SH Nat)) r.1 (fun v=>pure (.done (some v,r.2.1,r.2.2.1,r.2.2.2.1,m))) fun _=>do
  rule "list.sort.gallop"
  let r ←forIn [0:a.size+b.size] (none,r.2.1,r.2.2.1,r.2.2.2.1,m+1,r.2.2.2.2.1,r.2.2.2.2.2) fun _ s=>if s.2.2.2.2.1>1 then OX a b s.2.2.2.1 s.2.1 s.2.2.1 (s.2.2.2.2.1-1) s.2.2.2.2.2.1 s.2.2.2.2.2.2 else OX a b s.2.2.2.1 s.2.1 s.2.2.1 s.2.2.2.2.1 s.2.2.2.2.2.1 s.2.2.2.2.2.2
  Break.runK.match_1 (fun _=>StateT SortSt Sem (SH Nat)) r.1 (fun v=>pure (.done (some v,r.2.1,r.2.2.1,r.2.2.2.1,r.2.2.2.2.1))) fun _=>do
   dJ (r.2.2.2.2.1+1)
   pure (.yield (none,r.2.1,r.2.2.1,r.2.2.2.1,r.2.2.2.2.1+1))
theorem yW:sI a b=(do
 rule "list.sort.merge-hi"
 let x ←elem' a (a.size-1)
 if a.size-1 == 0 then pure (dH a b #[x] (a.size-1) b.size)
 else if b.size == 1 then pure (fH a b #[x] (a.size-1) b.size)
 else do
  let st ←get
  let r ←forIn [0:a.size+b.size] (none,a.size-1,b.size,#[x],gallopOf st) fun _ s=>OU a b s.2.2.2.1 s.2.1 s.2.2.1 s.2.2.2.2
  Break.runK.match_1 (fun _=>StateT SortSt Sem (Array Keyed)) r.1 (fun v=>pure v) fun _=>unsupported "internal:list.sort.merge-bound"):=rfl
end
section
variable {prog:Program}{w:World}{A:Around}{E:Value->Shared->Prop}{s:Shared}{κ:SortKind}{P:Keyed->Prop}{lt:Keyed->Keyed->Bool}
theorem rP(C:mz prog w A s κ P lt) {a:Array Keyed}{i:Nat}{x:Keyed}(ha:∀x,x∈a->P x) (sa:kc lt a.toList) (hx:a[i]?=some x):∀y∈a.toList.take (i+1),lt x y=false:=by
 obtain⟨hi,e⟩:=Sh.mp hx;have hx':a.toList[i]?=some x:=by rw[RJ];exact hx
 have sd:kc lt (a.toList.take (i+1)):=sa.sublist (Sa _ _);rw[TZ,hx']at sd ⊢;intro y hy;rcases mAq.mp hy with hy|hy
 .exact (RN.mp sd).2.2 y hy x (by simp)
 .have:y=x:=by simpa using hy
  rw[this];exact C.refl (ha _ (by rw[←e];exact Sd hi))
theorem iA{a:Array Keyed}{i:Nat}{y:Keyed}(h:y∈a.toList.take i):y∈a:=by simpa using Sv h
theorem mi{a:Array Keyed}{n:Nat}{x:Keyed}(h:x∈a.toList.take n):∃j,j<n/\a[0+j]?=some x:=by
 have h':x∈(a.toList.drop 0).take n:=by rw[UE];exact h
 exact jh h'
theorem iB{a:Array Keyed}{k n:Nat}{x:Keyed}(h:x∈(a.toList.take n).drop k):∃j,k<=j/\j<n/\a[0+j]?=some x:=by
 obtain⟨j,hj,e⟩:=Ts.mp h;rw[RL,lTq,RA]at hj;refine⟨k+j,by lia,by lia,?_⟩
 rw[UF,Vi]at e;rw[Sh];exact⟨by lia,by simpa using e⟩
structure MG (lt:Keyed->Keyed->Bool) (a b:Array Keyed) (n:Nat) (x:Ls):Prop where
 m:MH lt a b x.o x.i x.j
 p:0<x.i
 q:1<x.j
 r:x.i+x.j+n<=a.size+b.size
abbrev H6(x:Ls):=(x.i,x.j,x.o,x.m,x.p,x.q)
abbrev H5(x:Ls):=(x.i,x.j,x.o,x.p,x.q)
abbrev H4(x:Ls):=(x.i,x.j,x.o,x.m)
variable {a b:Array Keyed}{st:SortSt}{Q:Array Keyed->SortSt->Prop}{n:Nat}{x:Ls}{o:Array Keyed}{u v i j m k l g:Nat}
abbrev Hf(lt:Keyed->Keyed->Bool) (a b:Array Keyed):=∀x∈b.toList.take 1,∀y∈a.toList,lt y x=false
theorem OH(H:Lo prog w A s κ P lt a b st Q) (hf:Hf lt a b) (m:MH lt a b o i 1):Q (b.extract 0 1++a.extract 0 i++o.reverse) (sg st g):=H.h _ _ (m.firstB H.sa H.sb fun x hx y hy=>hf x hx y (Sv hy))
theorem GO(H:Lo prog w A s κ P lt a b st Q) (q:MG lt a b n ⟨o,u+1,j,m,k,l,g⟩) (hi:∀z,a[u]?=some z->∀y∈b.toList.take j,lt z y=false) :
  wpS (model prog w) A E s (O3 a b o (u+1) j m k l) (Lp H6 (fun x=>sg st x.g) (MG lt a b n) (MG lt a b n) Q) (sg st g):=by
 dsimp only [O3,Uv];have ea:a[u]?=some (a[u]'q.m.la):=Rm q.m.la;refine wpS_bind (bj ea ?_);have m6:=q.m.pushA H.sa ea (hi _ ea)
 by_cases d6:u=0
 .rw [if_pos (by simp[d6])]
  exact wpS_pure (.r _ _ _ (H.h _ _ (m6.end H.sa H.sb (.inl d6))))
 rw[if_neg (by simpa using d6)]
 have R:MG lt a b n ⟨_,_,_,m,k,l,g⟩:=⟨m6,Vc d6,q.q,by have:=q.r;dsimp only at *;lia⟩
 split
 .exact wpS_pure (.d _ R)
 .exact wpS_pure (.y _ R)
theorem Fh(H:Lo prog w A s κ P lt a b st Q) (hf:Hf lt a b) (q:MG lt a b n ⟨o,u+1,v+1,m,k,l,g⟩) (hi:∀z,b[v]?=some z->∀y∈a.toList.take (u+1),lt z y=false) :
  wpS (model prog w) A E s (OO a b o (u+1) (v+1) m k l) (Lp H6 (fun x=>sg st x.g) (MG lt a b n) (MG lt a b n) Q) (sg st g):=by
 dsimp only [OO,Uv];have la:u<a.size:=q.m.la;have lb:v<b.size:=q.m.lb;have p2:1<v+1:=q.q;have p3:u+1+(v+1)+n<=a.size+b.size:=q.r;have eb:b[v]?=some b[v]:=Rm lb;refine wpS_bind (bj eb ?_);have m4:=q.m.pushB H.sb eb (hi _ eb)
 by_cases d3:v=1
 .rw [if_pos (by simp[d3])]
  subst d3;exact wpS_pure (.r _ _ _ (OH H hf m4))
 rw[if_neg (by simpa using d3)]
 have ea:a[u]?=some a[u]:=Rm la;have pa:=H.ha _ (Sd la);refine wpS_bind (bj ea (wpS_bind (fT H.C (base:=0) (n:=v) (by lia) (by lia) H.hb pa H.hk (oT H.C (by lia) H.hb pa (by rw[UE];exact H.sb)) fun l l1 l2 l3=>?_)))
 have hB:∀z,a[u]?=some z->∀y∈b.toList.take l,lt z y=false:=fun z hz y hy=>by
  obtain⟨j',hj',ey⟩:=mi hy;have q:=l2 j' hj';rw[fA ey,if_pos rfl]at q;rw[ea]at hz;cases hz;exact H.C.asym _ _ (H.hb _ (iA hy)) pa q
 dsimp only
 by_cases cl:v-l>0
 .rw [if_pos cl];have m5:=m4.moreB H.sb (k:=l) l1 fun x hx y hy=>by
   obtain⟨j',hj1,hj',ey⟩:=iB hy;have q:=l3 j' hj1 hj';rw[fA ey,if_pos rfl]at q;exact H.C.trans _ _ _ (H.ha _ (iA hx)) pa (H.hb y (So hy |> iA)) (rP H.C H.ha H.sa ea x hx) q
  by_cases d5:l=1
  .rw [if_pos (by simp[d5])]
   subst d5;exact wpS_pure (.r _ _ _ (OH H hf m5))
  rw[if_neg (by simpa using d5)]
  by_cases d6:l=0
  .rw [if_pos (by simp[d6])]
   exact wpS_pure (.r _ _ _ (H.h _ _ (m5.end H.sa H.sb (.inr d6))))
  rw[if_neg (by simpa using d6)]
  exact GO H ⟨m5,q.p,by dsimp only;lia,by dsimp only;lia⟩ hB
 .rw [if_neg cl];have:l=v:=by lia
  subst this;exact GO H ⟨m4,q.p,by dsimp only;lia,by dsimp only;lia⟩ hB
theorem Gh(H:Lo prog w A s κ P lt a b st Q) (hf:Hf lt a b) (q:MG lt a b n x) :
  wpS (model prog w) A E s (OX a b x.o x.i x.j x.m x.p x.q) (Lp H6 (fun x=>sg st x.g) (MG lt a b n) (MG lt a b n) Q) (sg st x.g):=by
 obtain⟨o,i,j,m,p,q',g⟩:=x;have la:i<=a.size:=q.m.la;have p1:0<i:=q.p;have p2:1<j:=q.q;have p3:i+j+n<=a.size+b.size:=q.r;obtain⟨v,rfl⟩:∃v,j=v+1:=⟨j-1,by lia⟩
 have lb:v<b.size:=q.m.lb;dsimp only [OX,Uv];have eb:b[v]?=some b[v]:=Rm lb;have pb:=H.hb _ (Sd lb);refine wpS_bind (kz (wpS_bind (bj eb (wpS_bind (fT H.C (base:=0) (n:=i) (by lia) (by lia) H.ha pb H.hk (oT H.C (by lia) H.ha pb (by rw[UE];exact H.sa)) fun k k1 k2 k3=>?_)))))
 have hA:∀z,b[v]?=some z->∀y∈a.toList.take k,lt z y=false:=fun z hz y hy=>by
  obtain⟨j',hj',ey⟩:=mi hy;have q:=k2 j' hj';rw[fA ey,if_neg (by decide)]at q
  rw[eb]at hz;cases hz;simpa using q
 dsimp only
 by_cases ck:i-k>0
 .rw [if_pos ck];have m3:=q.m.moreA H.sa (k:=k) k1 fun x hx y hy=>by
   obtain⟨j',hj1,hj',ey⟩:=iB hy;have q:=k3 j' hj1 hj';rw[fA ey,if_neg (by decide)]at q
   have py:=H.ha y (So hy |> iA);exact H.C.trans _ _ _ (H.hb _ (iA hx)) pb py (rP H.C H.hb H.sb eb x hx) (H.C.asym _ _ pb py (by simpa using q))
  by_cases d2:k=0
  .rw [if_pos (by simp[d2])]
   exact wpS_pure (.r _ _ _ (H.h _ m (m3.end H.sa H.sb (.inl d2))))
  rw[if_neg (by simpa using d2)]
  obtain⟨u,rfl⟩:∃u,k=u+1:=⟨k-1,by lia⟩
  exact Fh H hf (g:=m) ⟨m3,Wy _,p2,by dsimp only;lia⟩ hA
 .rw [if_neg ck];have:k=i:=by lia
  subst this;obtain⟨u,rfl⟩:∃u,k=u+1:=⟨k-1,by lia⟩
  exact Fh H hf (g:=m) ⟨q.m,p1,p2,p3⟩ hA
theorem Lm(H:Lo prog w A s κ P lt a b st Q) (hf:Hf lt a b) (q:MG lt a b (n+j) x) :
  wpS (model prog w) A E s (Hc a b m x.o x.i x.j x.p x.q) (Lp H5 (fun x=>sg st x.g) (MG lt a b (n+(j+1))) (MG lt a b (n+1)) Q) (sg st x.g):=by
 obtain⟨o,i,k,m',p,q',g⟩:=x;have p1:0<i:=q.p;have p2:1<k:=q.q;have p3:i+k+(n+j)<=a.size+b.size:=q.r;obtain⟨u,rfl⟩:∃u,i=u+1:=⟨i-1,by lia⟩
 obtain⟨v,rfl⟩:∃v,k=v+1:=⟨k-1,by lia⟩
 have la:u<a.size:=q.m.la;have lb:v<b.size:=q.m.lb;dsimp only [Hc,Uv];have ea:a[u]?=some a[u]:=Rm la;have eb:b[v]?=some b[v]:=Rm lb;have pa:=H.ha _ (Sd la);have pb:=H.hb _ (Sd lb);refine wpS_bind (bj eb (wpS_bind (bj ea (wpS_bind (H.C.cmp pb pa H.hk ?_)))));cases e:lt b[v] a[u] with
 |true =>
  dsimp only;rw[if_pos rfl];refine wpS_bind (bj ea ?_);have m2:=q.m.pushA H.sa ea fun y hy=>H.C.trans _ _ _ (H.hb _ (iA hy)) pb pa (rP H.C H.hb H.sb eb y hy) (H.C.asym _ _ pb pa e)
  by_cases d1:u=0
  .rw [if_pos (by simp[d1])]
   exact wpS_pure (.r _ _ _ (H.h _ _ (m2.end H.sa H.sb (.inl d1))))
  rw[if_neg (by simpa using d1)]
  have R:∀n,u+(v+1)+n<=a.size+b.size->MG lt a b n ⟨_,_,_,0,p+1,0,g⟩:=fun n hn=>⟨m2,Vc d1,p2,hn⟩
  split
  .exact wpS_pure (.d _ (R _ (by lia)))
  .exact wpS_pure (.y _ (R _ (by lia)))
 |false =>
  dsimp only;rw[if_neg (by decide)]
  refine wpS_bind (bj eb ?_);have m2:=q.m.pushB H.sb eb fun y hy=>H.C.trans _ _ _ (H.ha _ (iA hy)) pa pb (rP H.C H.ha H.sa ea y hy) e
  by_cases d1:v=1
  .rw [if_pos (by simp[d1])]
   subst d1;exact wpS_pure (.r _ _ _ (OH H hf m2))
  rw[if_neg (by simpa using d1)]
  have R:∀n,u+1+v+n<=a.size+b.size->MG lt a b n ⟨_,_,_,0,0,q'+1,g⟩:=fun n hn=>⟨m2,p1,by dsimp only;lia,hn⟩
  split
  .exact wpS_pure (.d _ (R _ (by lia)))
  .exact wpS_pure (.y _ (R _ (by lia)))
theorem Ks(H:Lo prog w A s κ P lt a b st Q) (hf:Hf lt a b) (q:MG lt a b n x) :
  wpS (model prog w) A E s (OU a b x.o x.i x.j x.m) (Lp H4 (fun x=>sg st x.g) (MG lt a b (n+1)) (fun _=>False) Q) (sg st x.g):=by
 refine jz H5 (fun x=>sg st x.g) (fun j=>MG lt a b (n+j)) (MG lt a b (n+1)) Q ⟨x.o,x.i,x.j,0,0,0,x.g⟩ ⟨q.m,q.p,q.q,q.r⟩ (fun j x q=>Lm H hf q) (fun y h=>⟨h.m,h.p,h.q,by have:=h.r;have:=h.p;have:=h.q;lia⟩) (fun y q=>?_) fun r y st' hr=>wpS_pure (.r _ _ _ hr)
 refine wpS_bind (jA ?_);refine jz H6 (fun x=>sg st x.g) (fun _=>MG lt a b (n+1)) (MG lt a b (n+1)) Q ⟨y.o,y.i,y.j,x.m+1,y.p,y.q,y.g⟩ ⟨q.m,q.p,q.q,q.r⟩ (fun j z q=>?_) (fun _ h=>h) (fun z q=>?_) fun r y st' hr=>wpS_pure (.r _ _ _ hr)
 .dsimp only;split
  .exact Gh H hf (x:=⟨_,_,_,z.m-1,_,_,z.g⟩) ⟨q.m,q.p,q.q,q.r⟩
  .exact Gh H hf q
 .refine wpS_bind (kz (wpS_pure ?_));exact Lp.y (t:=H4) (v:=fun x=>sg st x.g) ⟨_,_,_,z.m+1,0,0,z.m+1⟩ ⟨q.m,q.p,q.q,q.r⟩
theorem xQ(C:mz prog w A s κ P lt) (ha:∀x,x∈a->P x) (hb:∀x,x∈b->P x) (hk:kindOf st=κ) (sa:kc lt a.toList) (sb:kc lt b.toList)
  (na0:0<a.size) (nb0:0<b.size) (h0:∀x∈b.toList.take 1,∀y∈a.toList,lt y x=false) (hl:∀x,a[a.size-1]?=some x->∀y∈b.toList,lt x y=false)
  (h:∀r g,Hd lt a b r->Q r (sg st g)):wpS (model prog w) A E s (sI a b) Q st:=by
 have H:Lo prog w A s κ P lt a b st Q:=⟨C,ha,hb,hk,sa,sb,h⟩;rw[yW];refine wpS_bind (jA ?_);have ea0:a[a.size-1]?=some (a[a.size-1]'(by lia)):=Rm (by lia)
 refine wpS_bind (bj ea0 ?_);have m0:MH lt a b #[] (a.size-1+1) b.size:=⟨by lia,Rk _,by
  rw[show a.size-1+1=a.toList.length by simp;lia,RY,←RA,RY];simp,by simp[kc],by simp,by simp⟩
 have m1:MH lt a b #[a[a.size-1]'(by lia)] (a.size-1) b.size:=m0.pushA sa ea0 fun y hy=>hl _ ea0 y (Sv hy)
 by_cases c1:a.size-1=0
 .rw [if_pos (by simp[c1])]
  exact wpS_pure (h _ (gallopOf st) (m1.end sa sb (.inl c1)))
 rw[if_neg (by simpa using c1)]
 by_cases c2:b.size=1
 .rw [if_pos (by simp[c2])]
  have m1':=m1;rw[c2]at m1' ⊢;exact wpS_pure (OH H h0 (g:=gallopOf st) m1')
 rw[if_neg (by simpa using c2)]
 refine wpS_bind (wpS_get ?_);exact jz H4 (fun x=>sg st x.g) (fun i=>MG lt a b (i+1)) (fun _=>False) Q ⟨_,a.size-1,b.size,_,0,0,gallopOf st⟩ ⟨m1,Vc c1,show 1<b.size by lia,show a.size-1+b.size+1<=a.size+b.size by lia⟩ (fun i x q=>Ks H h0 q) (fun x h=>by have:=h.p;have:=h.q;have:=h.r;lia) (fun x h=>h.elim) fun r y st' hr=>wpS_pure hr
end
def mY(lt:Keyed->Keyed->Bool) (xs:Array Keyed) (i j:Nat):Prop:=∀p q x y,i<=p->p<=q->q<j->xs[p]?=some x->xs[q]?=some y->lt y x=false
def Hg(lt:Keyed->Keyed->Bool) (xs:Array Keyed) (i j:Nat):Prop:=∀p q x y,i<=p->p<=q->q<j->xs[p]?=some x->xs[q]?=some y->lt x y=false
def Oo(lt:Keyed->Keyed->Bool) (xs:Array Keyed) (i j:Nat):Prop:=∀p q x y,i<=p->p<j->i<=q->q<j->xs[p]?=some x->xs[q]?=some y->lt x y=false
section
variable {lt:Keyed->Keyed->Bool}{xs:Array Keyed}{i j lo n:Nat}
theorem zF(hj:j<=xs.size) (h:Hg lt xs i j):mY lt (mirror xs i j ((j-i) / 2)) i j:=by
 intro p q x y h1 h2 h3 ex ey;rw[getElem?_mirror_all hj,if_pos ⟨h1,by lia⟩]at ex
 rw[getElem?_mirror_all hj,if_pos ⟨by lia,h3⟩]at ey
 exact h _ _ _ _ (by lia) (by lia) (by lia) ey ex
theorem nH(hj:j<=xs.size) (hi:lo<=i) (hn:j<=n) (e:Oo lt xs i j) (h:Hg lt xs lo n):Hg lt (mirror xs i j ((j-i) / 2)) lo n:=by
 intro p q x y h1 h2 h3 ex ey;rw[getElem?_mirror_all hj]at ex ey
 by_cases cp:i<=p/\p<j
 .rw [if_pos cp]at ex
  by_cases cq:i<=q/\q<j
  .rw [if_pos cq]at ey;exact e _ _ _ _ (by lia) (by lia) (by lia) (by lia) ex ey
  .rw [if_neg cq]at ey;exact h _ _ _ _ (by lia) (by lia) h3 ex ey
 .rw [if_neg cp]at ex
  by_cases cq:i<=q/\q<j
  .rw [if_pos cq]at ey;exact h _ _ _ _ h1 (by lia) (by lia) ex ey
  .rw [if_neg cq]at ey;exact h _ _ _ _ h1 h2 h3 ex ey
end
section
variable (lo:Nat)
def Pe(n:Nat):StateT SortSt Sem (ForInStep (Option (Option Nat)×Nat)):=do
 match ←ltAt' (lo+n) (lo+n-1) with
 |some c=>if c then pure (.done (none,n)) else pure (.yield (none,n+1))
 |_=>pure (.done (some none,n))
def Qw(n q:Nat):StateT SortSt Sem (ForInStep (Option (Option Nat)×Nat×Nat)):=do
 match ←ltAt' (lo+n) (lo+n-1) with
 |some c =>
  if c then
   if q>0 then do
    let _ ←reverseSlice' (lo+n-(q+1)) (lo+n)
    pure (.yield (none,n+1,0))
   else pure (.yield (none,n+1,0))
  else do
   match ←ltAt' (lo+n-1) (lo+n) with
   |some c=>if c then pure (.done (none,n,q)) else pure (.yield (none,n+1,q+1))
   |_=>pure (.done (some none,n,q))
 |_=>pure (.done (some none,n,q))
def PX(nrem n:Nat):StateT SortSt Sem (Option Nat):=do
 reverseSlice' lo (lo+n)
 let r ←forIn [n:nrem] (none,n) fun _ s=>Pe lo s.2
 Break.runK.match_1 (fun _=>StateT SortSt Sem (Option Nat)) r.1 (fun v=>pure v) fun _=>pure (some r.2)
def Ph(nrem n:Nat):StateT SortSt Sem (Option Nat):=do
 rule "list.sort.descending-run"
 let r ←forIn [n+1:nrem] (none,n+1,0) fun _ s=>Qw lo s.2.1 s.2.2
 Break.runK.match_1 (fun _=>StateT SortSt Sem (Option Nat)) r.1 (fun v=>pure v) fun _ =>
  if r.2.2>0 then do
   let _ ←reverseSlice' (lo+r.2.1-(r.2.2+1)) (lo+r.2.1)
   PX lo nrem r.2.1
  else PX lo nrem r.2.1
theorem M0(nrem:Nat):countRun' lo nrem=(do
 let r ←forIn [1:nrem] (none,1) fun _ s=>Pe lo s.2
 Break.runK.match_1 (fun _=>StateT SortSt Sem (Option Nat)) r.1 (fun v=>pure v) fun _ =>
  if r.2 == nrem then pure (some r.2)
  else if r.2>1 then do
   match ←ltAt' lo (lo+r.2-1) with
   |some c =>
    if c then pure (some r.2)
    else do
     let _ ←reverseSlice' lo (lo+r.2)
     Ph lo nrem r.2
   |_=>pure none
  else Ph lo nrem r.2):=countRun'_eq lo nrem
end
section
variable {prog:Program}{w:World}{A:Around}{E:Value->Shared->Prop}{s:Shared}{κ:SortKind}{P:Keyed->Prop}{lt:Keyed->Keyed->Bool}
theorem Jt(C:mz prog w A s κ P lt) {xs:Array Keyed}(hp:∀x,x∈xs->P x) (lo:Nat):mY lt xs lo (lo+1):=by
 intro p q x y h1 h2 h3 ex ey;have e:p=q:=by lia
 subst e;rw[ex]at ey;cases ey;exact C.refl (hp _ (aQq ex))
theorem Fi(C:mz prog w A s κ P lt) {xs:Array Keyed}(hp:∀x,x∈xs->P x) {lo n:Nat}(h:mY lt xs lo (lo+(n+1))) (hx:∀x y,xs[lo+(n+1)]?=some x->xs[lo+n]?=some y->lt x y=false) (hz:lo+(n+1)<xs.size):mY lt xs lo (lo+(n+2)):=by
 intro p q x y h1 h2 h3 ex ey
 by_cases c:q<lo+(n+1)
 .exact h p q x y h1 h2 c ex ey
 .have eq:q=lo+(n+1):=by lia
  subst eq
  by_cases c2:p=lo+(n+1)
  .subst c2;rw[ex]at ey;cases ey;exact C.refl (hp _ (aQq ex))
  .have em:xs[lo+n]?=some (xs[lo+n]'(by lia)):=Rm (by lia)
   exact C.trans _ _ _ (hp _ (aQq ex)) (hp _ (aQq em)) (hp _ (aQq ey)) (h p (lo+n) _ _ h1 (by lia) (by lia) ex em) (hx _ _ ey em)
theorem zc(C:mz prog w A s κ P lt) {xs:Array Keyed}(hp:∀x,x∈xs->P x) {lo n:Nat}(h:Hg lt xs lo (lo+(n+1))) (hx:∀x y,xs[lo+(n+1)]?=some x->xs[lo+n]?=some y->lt y x=false) (hz:lo+(n+1)<xs.size):Hg lt xs lo (lo+(n+2)):=by
 intro p q x y h1 h2 h3 ex ey
 by_cases c:q<lo+(n+1)
 .exact h p q x y h1 h2 c ex ey
 .have eq:q=lo+(n+1):=by lia
  subst eq
  by_cases c2:p=lo+(n+1)
  .subst c2;rw[ex]at ey;cases ey;exact C.refl (hp _ (aQq ex))
  .have em:xs[lo+n]?=some (xs[lo+n]'(by lia)):=Rm (by lia)
   exact C.trans _ _ _ (hp _ (aQq ey)) (hp _ (aQq em)) (hp _ (aQq ex)) (hx _ _ ey em) (h p (lo+n) _ _ h1 (by lia) (by lia) ex em)
theorem yN(C:mz prog w A s κ P lt) {lo nrem a:Nat}{st:SortSt}(hp:∀x,x∈arrOf st->P x) (hk:kindOf st=κ) (ha:1<=a) (han:a<=nrem) (hz:lo+nrem<=(arrOf st).size) (hs:mY lt (arrOf st) lo (lo+a)) :
  wpS (model prog w) A E s (forIn [a:nrem] ((none,a):Option (Option Nat)×Nat) fun _ s=>Pe lo s.2)
   (fun c st'=>∃n,c=(none,n)/\st'=st/\a<=n/\n<=nrem/\mY lt (arrOf st) lo (lo+n)/\(n=nrem∨∃x y,(arrOf st)[lo+n]?=some x/\(arrOf st)[lo+n-1]?=some y/\lt x y=true)) st:=by
 refine wpS_forRange (I:=fun i c st'=>c=(none,i)/\st'=st/\a<=i/\i<=nrem/\mY lt (arrOf st) lo (lo+i)) ?step ?fin ⟨rfl,rfl,Rk _,han,hs⟩
 case step =>
  rintro i c st' h1 h2 ⟨rfl,rfl,h3,h4,h5⟩;obtain⟨k,rfl⟩:∃k,i=k+1:=⟨i-1,by lia⟩
  have ex:(arrOf st')[lo+(k+1)]?=some ((arrOf st')[lo+(k+1)]'(by lia)):=Rm (by lia)
  have ey:(arrOf st')[lo+(k+1)-1]?=some ((arrOf st')[lo+k]'(by lia)):=Rm (by lia)
  refine wpS_bind (C.at ex ey (hp _ (aQq ex)) (hp _ (aQq ey)) hk ?_);cases e:lt ((arrOf st')[lo+(k+1)]'(by lia)) ((arrOf st')[lo+k]'(by lia)) with
  |true=>exact wpS_pure ⟨_,rfl,rfl,h3,h4,h5,.inr ⟨_,_,ex,ey,e⟩⟩
  |false =>
   refine wpS_pure ⟨rfl,rfl,by lia,h2,Fi C hp h5 (fun x y hx hy=>?_) (by lia)⟩
   have hy':(arrOf st')[lo+(k+1)-1]?=some y:=hy;rw[ex]at hx;rw[ey]at hy';cases hx;cases hy';exact e
 case fin =>
  rintro c st' ⟨rfl,rfl,h3,h4,h5⟩;have e:max a nrem=nrem:=Wg han;rw[e]at h3 h4 h5 ⊢;exact⟨nrem,rfl,rfl,h3,Rk _,h5,.inl rfl⟩
theorem rz{i j:Nat}{st:SortSt}{Q:Unit->SortSt->Prop}(h:Q () (setArr st (mirror (arrOf st) i j ((j-i) / 2)))):wpS (model prog w) A E s (reverseSlice' i j) Q st:=by
 rw[reverseSlice'_eq];exact wpS_modify h
structure kP (xs ys:Array Keyed) (lo hi:Nat):Prop where
 pm:ys.Perm xs
 out:∀k,(k<lo∨hi<=k)->ys[k]?=xs[k]?
theorem kP.refl(xs:Array Keyed) (lo hi:Nat):kP xs xs lo hi:=⟨Wq.refl _,fun _ _=>rfl⟩
theorem kP.trans{xs ys zs:Array Keyed}{lo hi:Nat}(a:kP xs ys lo hi) (b:kP ys zs lo hi):kP xs zs lo hi:=⟨b.pm.trans a.pm,fun k h=>(b.out k h).trans (a.out k h)⟩
theorem kP.mono{xs ys:Array Keyed}{lo hi hi':Nat}(a:kP xs ys lo hi) (h:hi<=hi'):kP xs ys lo hi':=⟨a.pm,fun k q=>a.out k (by lia)⟩
theorem kP.size{xs ys:Array Keyed}{lo hi:Nat}(a:kP xs ys lo hi):ys.size=xs.size:=a.pm.size_eq
theorem kP.mem{xs ys:Array Keyed}{lo hi:Nat}(a:kP xs ys lo hi) {P:Keyed->Prop}(h:∀x,x∈xs->P x):∀x,x∈ys->P x:=fun x hx=>h x (a.pm.mem_iff.mp hx)
theorem ke{xs:Array Keyed}{lo hi i j:Nat}(hj:j<=xs.size) (h1:lo<=i) (h2:j<=hi):kP xs (mirror xs i j ((j-i) / 2)) lo hi :=
 ⟨mirror_perm _ _ _ _,fun k hk=>by rw[getElem?_mirror_all hj,if_neg (by lia)]⟩
structure CR (lt:Keyed->Keyed->Bool) (as:Array Keyed) (lo i q:Nat) (ys:Array Keyed):Prop where
 b:kP as ys lo (lo+i)
 d:Hg lt ys lo (lo+i)
 e:Oo lt ys (lo+i-(q+1)) (lo+i)
 p:q+1<=i
theorem rq(C:mz prog w A s κ P lt) {ys:Array Keyed}(hp:∀x,x∈ys->P x) {i j:Nat}(h:j<=i+1):Oo lt ys i j:=by
 intro p q x y g1 g2 g3 g4 gx gy;have e:p=q:=by lia
 subst e;rw[gx]at gy;cases gy;exact C.refl (hp _ (aQq gx))
theorem K1(C:mz prog w A s κ P lt) {lo nrem k neq:Nat}{st:SortSt}{ys:Array Keyed}(hp:∀x,x∈arrOf st->P x) (hk:kindOf st=κ) (hz:lo+nrem<=(arrOf st).size) (hi:k+1<nrem) (g:CR lt (arrOf st) lo (k+1) neq ys) :
  wpS (model prog w) A E s (Qw lo (k+1) neq) (fun r xl=>∃m q zs,xl=setArr st zs/\m<=nrem/\CR lt (arrOf st) lo m q zs/\(r = .done (none,m,q)∨r = .yield (none,m,q)/\m=k+1+1)) (setArr st ys):=by
 have g1:=g.b;have g2:=g.d;have g3:=g.e;have g4:=g.p;have hpy:=g1.mem hp;have hsz:=g1.size;have ex:ys[lo+(k+1)]?=some (ys[lo+(k+1)]'(by lia)):=Rm (by lia)
 have ey:ys[lo+(k+1)-1]?=some (ys[lo+k]'(by lia)):=Rm (by lia)
 have px:=hpy _ (aQq ex);have py:=hpy _ (aQq ey);have des:lt (ys[lo+k]'(by lia)) (ys[lo+(k+1)]'(by lia))=false->Hg lt ys lo (lo+(k+1+1)):=fun e=>zc C hpy g2 (fun x y hx hy=>by
  have hy':ys[lo+(k+1)-1]?=some y:=hy;rw[ex]at hx;rw[ey]at hy';cases hx;cases hy';exact e) (by lia)
 refine wpS_bind (C.at (st:=setArr st ys) ex ey px py hk ?_);cases e:lt (ys[lo+(k+1)]'(by lia)) (ys[lo+k]'(by lia)) with
 |true =>
  have g2':=des (C.asym _ _ px py e);dsimp only;rw[if_pos rfl]
  by_cases cn:neq>0
  .rw [if_pos cn];refine wpS_bind (rz (wpS_pure ?_));have bt:kP (arrOf st) (mirror ys (lo+(k+1)-(neq+1)) (lo+(k+1)) ((lo+(k+1)-(lo+(k+1)-(neq+1))) / 2)) lo (lo+(k+1)):=g1.trans (ke (by lia) (by lia) (Rk _))
   exact⟨_,0,_,rfl,hi,⟨bt.mono (by lia),nH (by lia) (by lia) (by lia) g3 g2',rq C (bt.mem hp) (by lia),by lia⟩,.inr ⟨rfl,rfl⟩⟩
  .rw [if_neg cn];exact wpS_pure ⟨_,0,ys,rfl,hi,⟨g1.mono (by lia),g2',rq C hpy (by lia),by lia⟩,.inr ⟨rfl,rfl⟩⟩
 |false =>
  dsimp only;rw[if_neg (by decide)]
  refine wpS_bind (C.at (st:=setArr st ys) ey ex py px hk ?_);cases e':lt (ys[lo+k]'(by lia)) (ys[lo+(k+1)]'(by lia)) with
  |true=>exact wpS_pure ⟨_,neq,ys,rfl,Te hi,g,.inl rfl⟩
  |false =>
   refine wpS_pure ⟨_,neq+1,ys,rfl,hi,⟨g1.mono (by lia),des e',?_,by lia⟩,.inr ⟨rfl,rfl⟩⟩
   intro p q x y h1 h2 h3 h4 gx gy;have qx:=hpy _ (aQq gx);have qy:=hpy _ (aQq gy)
   by_cases cp:p=lo+(k+1)
   .subst cp;rw[ex]at gx;cases gx
    by_cases cq:q=lo+(k+1)
    .subst cq;rw[ex]at gy;cases gy;exact C.refl px
    .exact C.trans _ _ _ qy py px (g3 (lo+(k+1)-1) q _ _ (by lia) (by lia) (by lia) (by lia) ey gy) e
   .by_cases cq:q=lo+(k+1)
    .subst cq;rw[ex]at gy;cases gy;exact C.trans _ _ _ px py qx e' (g3 p (lo+(k+1)-1) _ _ (by lia) (by lia) (by lia) (by lia) gx ey)
    .exact g3 p q x y (by lia) (by lia) (by lia) (by lia) gx gy
abbrev M3(lt:Keyed->Keyed->Bool) (st:SortSt) (lo nrem:Nat) (Q:Option Nat->SortSt->Prop):=∀n xs,1<=n->n<=nrem->kP (arrOf st) xs lo (lo+n)->mY lt xs lo (lo+n)->Q (some n) (setArr st xs)
theorem GM(C:mz prog w A s κ P lt) {lo nrem m:Nat}{st:SortSt}{ys:Array Keyed}{Q:Option Nat->SortSt->Prop}(hp:∀x,x∈arrOf st->P x) (hk:kindOf st=κ) (hz:lo+nrem<=(arrOf st).size) (h:M3 lt st lo nrem Q)
  (h1:1<=m) (h2:m<=nrem) (b:kP (arrOf st) ys lo (lo+m)) (d:Hg lt ys lo (lo+m)):wpS (model prog w) A E s (PX lo nrem m) Q (setArr st ys):=by
 refine wpS_bind (rz ?_);have hsz:=b.size;have f1:=zF (by lia) d
 have f2:=b.trans (ke (i:=lo) (j:=lo+m) (by lia) (Rk _) (Rk _))
 refine wpS_bind (wpS_mono (yN (st:=setArr st _) C (f2.mem hp) hk h1 h2 (S9 hz (U3 f2.size.symm)) f1) ?_);rintro c xl ⟨n',rfl,rfl,n1',n2',s1',_⟩;exact wpS_pure (h n' _ (by lia) n2' (f2.mono (by lia)) s1')
theorem FD(C:mz prog w A s κ P lt) {lo nrem n:Nat}{st:SortSt}{xs:Array Keyed}{Q:Option Nat->SortSt->Prop}(hp:∀x,x∈arrOf st->P x) (hk:kindOf st=κ) (hz:lo+nrem<=(arrOf st).size) (h:M3 lt st lo nrem Q)
  (hn:n<nrem) (b:kP (arrOf st) xs lo (lo+n)) (d:Hg lt xs lo (lo+(n+1))):wpS (model prog w) A E s (Ph lo nrem n) Q (setArr st xs):=by
 refine wpS_bind (jA (wpS_bind (wpS_mono (wpS_forRange
  (I:=fun i c xl=>∃q ys,c=(none,i,q)/\xl=setArr st ys/\i<=nrem/\CR lt (arrOf st) lo i q ys)
  (Q:=fun c xl=>∃m q ys,c=(none,m,q)/\xl=setArr st ys/\m<=nrem/\CR lt (arrOf st) lo m q ys)
  ?_ ?_ ⟨0,xs,rfl,rfl,hn,b.mono (by lia),d,rq C (b.mem hp) (by lia),by lia⟩) ?_)))
 .rintro i c xl _ hi ⟨q,ys,rfl,rfl,_,g⟩;obtain⟨k,rfl⟩:∃k,i=k+1:=⟨i-1,by have:=g.p;lia⟩
  refine wpS_mono (K1 C hp hk hz hi g) fun r xl hr=>?_
  obtain⟨m,q,zs,rfl,hm,g',rfl|⟨rfl,rfl⟩⟩:=hr
  .exact ⟨m,q,zs,rfl,rfl,hm,g'⟩
  .exact ⟨q,zs,rfl,rfl,hm,g'⟩
 .rintro c xl ⟨q,ys,rfl,rfl,hm,g⟩;exact⟨_,q,ys,rfl,rfl,hm,g⟩
 .rintro c xl ⟨m,q,ys,rfl,rfl,hm,g⟩;have hsz:=g.b.size;have gp:=g.p;dsimp only
  by_cases cn:q>0
  .rw [if_pos cn];exact wpS_bind (rz (GM (st:=st) (ys:=mirror ys (lo+m-(q+1)) (lo+m) ((lo+m-(lo+m-(q+1))) / 2)) C hp hk hz h (by lia) hm (g.b.trans (ke (by lia) (by lia) (Rk _))) (nH (by lia) (by lia) (Rk _) g.e g.d)))
  .rw [if_neg cn];exact GM C hp hk hz h (by lia) hm g.b g.d
theorem vM(C:mz prog w A s κ P lt) {lo nrem:Nat}{st:SortSt}{Q:Option Nat->SortSt->Prop}(hp:∀x,x∈arrOf st->P x) (hk:kindOf st=κ) (h1:1<=nrem) (hz:lo+nrem<=(arrOf st).size)
  (h:∀n xs,1<=n->n<=nrem->kP (arrOf st) xs lo (lo+n)->mY lt xs lo (lo+n)->Q (some n) (setArr st xs)):wpS (model prog w) A E s (countRun' lo nrem) Q st:=by
 rw[M0];refine wpS_bind (wpS_mono (yN C hp hk (Rk 1) h1 hz (Jt C hp lo)) ?_);rintro c st' ⟨n,rfl,rfl,n1,n2,sg1,brk⟩;dsimp only;have triv:Q (some n) st':=h n (arrOf st') n1 n2 (kP.refl _ _ _) sg1
 by_cases c1:n=nrem
 .rw [if_pos (by simp[c1])]
  exact wpS_pure triv
 rw[if_neg (by simpa using c1)]
 obtain⟨xb,yb,exb,eyb,eb⟩:=brk.resolve_left c1;obtain⟨m,rfl⟩:∃m,n=m+1:=⟨n-1,by lia⟩
 have pxb:=hp _ (aQq exb);have pyb:=hp _ (aQq eyb);have go:Oo lt (arrOf st') lo (lo+(m+1))->Hg lt (arrOf st') lo (lo+(m+1+1)):=fun e1 =>
  zc C hp (fun p q x y g1 g2 g3 ex ey=>e1 p q x y g1 (by lia) (by lia) g3 ex ey) (fun x y hx hy=>by
   have hy':(arrOf st')[lo+(m+1)-1]?=some y:=hy;rw[exb]at hx;rw[eyb]at hy';cases hx;cases hy';exact C.asym _ _ pxb pyb eb) (by lia)
 by_cases c2:m+1>1
 .rw [if_pos c2];have ex:(arrOf st')[lo]?=some ((arrOf st')[lo]'(by lia)):=Rm (by lia)
  have pex:=hp _ (aQq ex);refine wpS_bind (C.at ex eyb pex pyb hk ?_);cases e:lt ((arrOf st')[lo]'(by lia)) yb with
  |true=>exact wpS_pure triv
  |false =>
   dsimp only;rw[if_neg (by decide)]
   have eqv:Oo lt (arrOf st') lo (lo+(m+1)):=by
    intro p q x y g1 g2 g3 g4 gx gy;have px:=hp _ (aQq gx);have py:=hp _ (aQq gy);have q1:=sg1 q (lo+(m+1)-1) _ _ g3 (by lia) (by lia) gy eyb
    have q2:=sg1 lo p _ _ (Rk _) g1 g2 ex gx;exact C.trans _ _ _ py pex px (C.trans _ _ _ py pyb pex q1 e) q2
   exact wpS_bind (rz (FD C hp hk hz h (by lia) (ke (by lia) (Rk _) (Rk _)) (nH (by lia) (Rk _) (by lia) eqv (go eqv))))
 .rw [if_neg c2];exact FD C hp hk hz h (by lia) (kP.refl _ _ _) (go (rq C hp (by lia)))
end
section
variable {prog:Program}{w:World}{A:Around}{E:Value->Shared->Prop}{s:Shared}{κ:SortKind}{P:Keyed->Prop}{lt:Keyed->Keyed->Bool}
theorem Ho(C:mz prog w A s κ P lt) {xs:Array Keyed}(hp:∀x,x∈xs->P x) {lo k l:Nat}(hz:lo+k<xs.size) (hl:l<=k) (hs:mY lt xs lo (lo+k)) {x:Keyed}(hx:xs[lo+k]?=some x)
  (h1:∀j y,j<l->xs[lo+j]?=some y->lt x y=false) (h2:∀j y,l<=j->j<k->xs[lo+j]?=some y->lt x y=true):mY lt (bubble xs (lo+k) (k-l)) lo (lo+(k+1)):=by
 have px:=hp _ (aQq hx);have g:∀p,(bubble xs (lo+k) (k-l))[p]?=if p=lo+l then some x else if lo+l<p/\p<=lo+k then xs[p-1]? else xs[p]?:=fun p=>by
  rw[getElem?_bubble hz (k-l) (by lia) p,show lo+k-(k-l)=lo+l by lia,hx]
 intro p q u v a1 a2 a3 eu ev;rw[g]at eu ev
 by_cases cp:p=lo+l
 .rw [if_pos cp]at eu;cases eu
  by_cases cq:q=lo+l
  .rw [if_pos cq]at ev;cases ev;exact C.refl px
  .rw [if_neg cq,if_pos ⟨by lia,by lia⟩]at ev
   have pv:=hp _ (aQq ev);exact C.asym _ _ px pv (h2 (q-1-lo) v (by lia) (by lia) (by rw[show lo+(q-1-lo)=q-1 by lia];exact ev))
 .rw [if_neg cp]at eu
  by_cases cp2:lo+l<p/\p<=lo+k
  .rw [if_pos cp2]at eu;rw[if_neg (by lia),if_pos ⟨by lia,by lia⟩]at ev
   exact hs (p-1) (q-1) _ _ (by lia) (by lia) (by lia) eu ev
  .rw [if_neg cp2]at eu
   by_cases cq:q=lo+l
   .rw [if_pos cq]at ev;cases ev;exact h1 (p-lo) u (by lia) (by rw[show lo+(p-lo)=p by lia];exact eu)
   .rw [if_neg cq]at ev
    by_cases cq2:lo+l<q/\q<=lo+k
    .rw [if_pos cq2]at ev;exact hs p (q-1) _ _ a1 (by lia) (by lia) eu ev
    .rw [if_neg cq2]at ev;exact hs p q _ _ a1 a2 (by lia) eu ev
theorem zw{xs:Array Keyed}{lo k l n:Nat}(hz:lo+k<xs.size) (hl:l<=k) (hn:k<n):kP xs (bubble xs (lo+k) (k-l)) lo (lo+n) :=
 ⟨bubble_perm _ _ _,fun p hp=>by rw[getElem?_bubble hz (k-l) (by lia) p,if_neg (by lia),if_neg (by lia)]⟩
theorem GG{src dst:Nat}{st:SortSt}{Q:Unit->SortSt->Prop}(h:Q () (setArr st (bubble (arrOf st) src (src-dst)))):wpS (model prog w) A E s (moveDown' src dst) Q st:=by
 rw[moveDown'_eq];exact wpS_modify h
theorem zf(C:mz prog w A s κ P lt) {lo n ok:Nat}{st:SortSt}{Q:Bool->SortSt->Prop}(hp:∀x,x∈arrOf st->P x) (hk:kindOf st=κ) (h1:1<=ok) (h2:ok<=n) (hz:lo+n<=(arrOf st).size) (hs:mY lt (arrOf st) lo (lo+ok))
  (h:∀xs,kP (arrOf st) xs lo (lo+n)->mY lt xs lo (lo+n)->Q true (setArr st xs)):wpS (model prog w) A E s (binarySort' lo n ok) Q st:=by
 rw[binarySort'_eq];dsimp only;rw[Nat.max_eq_left h1];refine wpS_bind (wpS_mono (wpS_forRange (I:=fun k c st'=>∃ys,c=(none,())/\st'=setArr st ys/\kP (arrOf st) ys lo (lo+n)/\mY lt ys lo (lo+k)/\k<=n)
  (Q:=fun c st'=>∃ys,c=(none,())/\st'=setArr st ys/\kP (arrOf st) ys lo (lo+n)/\mY lt ys lo (lo+n)) ?step ?fin ⟨arrOf st,rfl,rfl,kP.refl _ _ _,hs,h2⟩) ?post)
 case fin =>
  rintro c st' ⟨ys,rfl,rfl,b1,s1,q⟩;have e:max ok n=n:=by lia
  rw[e]at s1;exact⟨ys,rfl,rfl,b1,s1⟩
 case post =>
  rintro c st' ⟨ys,rfl,rfl,b1,s1⟩;exact wpS_pure (h ys b1 s1)
 case step =>
  rintro k c st' hk1 hk2 ⟨ys,rfl,rfl,b1,s1,q⟩;have hpy:=b1.mem hp;have hsz:=b1.size;have ex:ys[lo+k]?=some (ys[lo+k]'(by lia)):=Rm (by lia)
  have px:=hpy _ (aQq ex);refine wpS_bind (wpS_mono (wpS_forRange (I:=fun i c st'=>∃l r,c=(none,l,r)/\st'=setArr st ys/\l<=r/\r<=k/\(∀j y,j<l->ys[lo+j]?=some y->lt (ys[lo+k]'(by lia)) y=false)/\(∀j y,r<=j->j<k->ys[lo+j]?=some y->lt (ys[lo+k]'(by lia)) y=true)/\(r-l)+i<=k)
   (Q:=fun c st'=>∃l r,c=(none,l,r)/\st'=setArr st ys/\l=r/\r<=k/\(∀j y,j<l->ys[lo+j]?=some y->lt (ys[lo+k]'(by lia)) y=false)/\(∀j y,r<=j->j<k->ys[lo+j]?=some y->lt (ys[lo+k]'(by lia)) y=true))
   ?step1 ?fin1 ⟨0,k,rfl,rfl,Sl _,Rk _,fun j y hj=>absurd hj (Tb _),fun j y g1 g2=>absurd g2 (by lia),by lia⟩) ?post1)
  case fin1 =>
   rintro c st' ⟨l,r,rfl,rfl,a1,a2,a3,a4,a5⟩;exact⟨l,r,rfl,rfl,by lia,a2,a3,a4⟩
  case step1 =>
   rintro i c st' _ hi ⟨l,r,rfl,rfl,a1,a2,a3,a4,a5⟩;dsimp only
   by_cases c1:l ≥ r
   .rw [if_pos c1];exact wpS_pure ⟨l,r,rfl,rfl,by lia,a2,a3,a4⟩
   rw[if_neg c1];have em:ys[lo+(l+r) / 2]?=some (ys[lo+(l+r) / 2]'(by lia)):=Rm (by lia)
   have pm:=hpy _ (aQq em);refine wpS_bind (C.at (st:=setArr st ys) ex em px pm hk ?_);cases e:lt (ys[lo+k]'(by lia)) (ys[lo+(l+r) / 2]'(by lia)) with
   |true =>
    dsimp only;rw[if_pos rfl];refine wpS_pure ⟨l,_,rfl,rfl,by lia,by lia,a3,fun j y g1 g2 ey=>?_,by lia⟩
    have py:=hpy _ (aQq ey);cases e':lt (ys[lo+k]'(by lia)) y with
    |true=>rfl
    |false =>
     have q1:=s1 (lo+(l+r) / 2) (lo+j) _ _ (by lia) (by lia) (by lia) em ey
     have q2:=C.trans _ _ _ pm py px q1 e';rw[e]at q2;cases q2
   |false =>
    dsimp only;rw[if_neg (by decide)]
    refine wpS_pure ⟨_,r,rfl,rfl,by lia,a2,fun j y g1 ey=>?_,a4,by lia⟩
    have py:=hpy _ (aQq ey);exact C.trans _ _ _ py pm px (s1 (lo+j) (lo+(l+r) / 2) _ _ (by lia) (by lia) (by lia) ey em) e
  case post1 =>
   rintro c st' ⟨l,r,rfl,rfl,rfl,a2,a3,a4⟩;dsimp only;refine wpS_bind (GG (wpS_pure ?_));have e:lo+k-(lo+l)=k-l:=by lia
   show ∃ys',_/\setArr st (bubble ys (lo+k) (lo+k-(lo+l)))=setArr st ys'/\_;rw[e];exact⟨_,rfl,rfl,b1.trans (zw (by lia) a2 hk2),Ho C hpy (by lia) a2 s1 ex a3 a4,hk2⟩
end
def dS(lt:Keyed->Keyed->Bool) (xs:Array Keyed):Nat->List (Nat×Nat×Nat)->Nat->Prop
 |s,[],e=>s=e
 |s,p::r,e=>p.1=s/\0<p.2.1/\mY lt xs s (s+p.2.1)/\dS lt xs (s+p.2.1) r e
theorem fu{lt:Keyed->Keyed->Bool}{xs:Array Keyed}:∀{q r:List (Nat×Nat×Nat)}{s e:Nat},dS lt xs s (q++r) e↔∃m,dS lt xs s q m/\dS lt xs m r e
 | [],r,s,e=>by
  constructor
  .intro h;exact⟨s,rfl,h⟩
  .rintro ⟨m,rfl,h⟩;exact h
 |p::q,r,s,e=>by
  constructor
  .rintro ⟨h1,h2,h3,h4⟩;obtain⟨m,a,b⟩:=fu.mp h4;exact⟨m,⟨h1,h2,h3,a⟩,b⟩
  .rintro ⟨m,⟨h1,h2,h3,a⟩,b⟩;exact⟨h1,h2,h3,fu.mpr ⟨m,a,b⟩⟩
theorem lK{lt:Keyed->Keyed->Bool}{xs:Array Keyed}:∀{q:List (Nat×Nat×Nat)}{s e:Nat},dS lt xs s q e->s+q.length<=e
 | [],s,e,h=>by have:s=e:=h;simp[this]
 |p::q,s,e,hz=>by
  obtain⟨_,h2,_,h4⟩:=hz;have:=lK h4;rw[lCq];lia
theorem iU{lt:Keyed->Keyed->Bool}{xs ys:Array Keyed}:∀{q:List (Nat×Nat×Nat)}{s e:Nat},(∀k,s<=k->k<e->ys[k]?=xs[k]?)->dS lt xs s q e->dS lt ys s q e
 | [],s,e,_,h=>h
 |p::q,s,e,g,hz=>by
  obtain⟨h1,h2,h3,h4⟩:=hz;have l:=lK h4;refine⟨h1,h2,fun a b x y a1 a2 a3 ex ey=>h3 a b x y a1 a2 a3 ?_ ?_,iU (fun k k1 k2=>g k (by lia) k2) h4⟩
  .rw [←g a a1 (by lia)];exact ex
  .rw [←g b (by lia) (by lia)];exact ey
theorem oC{lt:Keyed->Keyed->Bool}{xs:Array Keyed}:∀{q q':List (Nat×Nat×Nat)}{s e:Nat},q'.map (fun p=>(p.1,p.2.1))=q.map (fun p=>(p.1,p.2.1))->dS lt xs s q e->dS lt xs s q' e
 | [],q',s,e,g,h=>by
  have:q'=[]:=by simpa using g
  subst this;exact h
 |p::q,[],s,e,g,h=>by simp at g
 |p::q,p'::q',s,e,g,hz=>by
  obtain⟨h1,h2,h3,h4⟩:=hz;simp only[Ru,VG.injEq,Prod.mk.injEq]at g;obtain⟨⟨g1,g2⟩,g3⟩:=g;rw[←g2]at h2 h3 h4;exact⟨g1.trans h1,h2,h3,oC g3 h4⟩
theorem vH(o:Nat):∀(M:List Keyed) (n:Nat) (xs:Array Keyed),o+n+M.length<=xs.size ->
  ((M.zipIdx n).foldl (fun a x=>a.setIfInBounds (o+x.2) x.1) xs).toList=xs.toList.take (o+n)++M++xs.toList.drop (o+n+M.length)
 | [],n,xs,h=>by simp
 |y::r,n,xs,h=>by
  rw[List.zipIdx_cons,Ss];rw[lCq]at h;rw[vH o r (n+1) _ (by rw[Array.size_setIfInBounds];lia),Vg]
  have hl:o+n<xs.toList.length:=by rw[RA];lia
  have e1:(xs.toList.set (o+n) y).take (o+(n+1))=xs.toList.take (o+n)++[y]:=by
   rw[←UP,TZ,Rz hl,List.take_set_of_le (Rk _)];rfl
  have e2:(xs.toList.set (o+n) y).drop (o+(n+1)+r.length)=xs.toList.drop (o+n+(r.length+1)):=by
   rw[List.drop_set_of_lt (by lia)]
   congr 1;lia
  rw[e1,e2,lCq,Rn,Rn,Rn];rfl
section
variable {prog:Program}{w:World}{A:Around}{E:Value->Shared->Prop}{s:Shared}{κ:SortKind}{P:Keyed->Prop}{lt:Keyed->Keyed->Bool}
theorem BU(C:mz prog w A s κ P lt) {left:Bool}{key:Keyed}{arr:Array Keyed}{base n:Nat}(hb:base+n<=arr.size) (ha:∀x,x∈arr->P x) (hkey:P key) (so:mY lt arr base (base+n)) :
  ∀i j,i<=j->j<n->jW lt left key arr base j=true->jW lt left key arr base i=true:=by
 intro i j hij hj h;have ei:arr[base+i]?=some (arr[base+i]'(by lia)):=Rm (by lia)
 have ej:arr[base+j]?=some (arr[base+j]'(by lia)):=Rm (by lia)
 have pi:=ha _ (aQq ei);have pj:=ha _ (aQq ej);have le:=so (base+i) (base+j) _ _ (by lia) (by lia) (by lia) ei ej
 rw[fA ej]at h;rw[fA ei];cases left with
 |true =>
  rw[if_pos rfl]at h ⊢;cases q:lt (arr[base+i]'(by lia)) key with
  |true=>rfl
  |false =>
   have:=C.trans _ _ _ hkey pi pj q le;rw[h]at this;cases this
 |false =>
  rw[if_neg (by decide)]at h ⊢
  have h':lt key (arr[base+j]'(by lia))=false:=by simpa using h
  have:=C.trans _ _ _ pi pj hkey le h';simp[this]
theorem fe{a:Array Keyed}{i j:Nat}{x:Keyed}(h:x∈(a.extract i j).toList):∃k,i<=k/\k<j/\a[k]?=some x:=by
 rw[cQ]at h;obtain⟨k,k1,k2,e⟩:=iB h;rw[SB]at e;exact⟨k,k1,k2,e⟩
theorem qz{a:Array Keyed}{i j:Nat}(h:mY lt a i j):kc lt (a.extract i j).toList:=by
 rw[cQ];refine Tg.mpr fun p q hp hq hpq=>?_
 rw[RL,lTq,RA]at hp hq;have e:∀k (hk:k<((a.toList.take j).drop i).length),a[i+k]?=some ((a.toList.take j).drop i)[k]:=fun k hk=>by
  rw[RL,lTq,RA]at hk;rw[UF,Vi,Sh];exact⟨by lia,by simp⟩
 exact h (i+p) (i+q) _ _ (by lia) (by lia) (by lia) (e p _) (e q _)
theorem xP(i:Nat):mergeAt' i=(do
 let s ←get
 let (some (sa,na,power),some (sb,nb,_)):=((pendingOf s)[i]?,(pendingOf s)[i+1]?)|unsupported "internal:list.sort.pending"
 set (setPending s (((pendingOf s).setIfInBounds i (sa,na+nb,power)).eraseIdxIfInBounds (i+1)))
 let some k ←jc false (←elem' (arrOf s) sb) (arrOf s) sa na 0|return false
 let (sa,na):=(sa+k,na-k)
 if na == 0 then return true
 let some nb ←jc true (←elem' (arrOf s) (sa+na-1)) (arrOf s) sb nb (nb-1)|return false
 if nb == 0 then return true
 let x:=(arrOf s).extract sa sb
 let y:=(arrOf s).extract sb (sb+nb)
 let merged ←if na<=nb then tX x y else sI x y
 modify fun s=>setArr s (merged.toList.zipIdx.foldl (fun a (p,j)=>a.setIfInBounds (sa+j) p) (arrOf s))
 return (failedOf (←get)).isNone):=rfl
theorem Cf{st st':SortSt}{Q:PUnit->SortSt->Prop}(h:Q ⟨⟩ st'):wpS (model prog w) A E s (set st':StateT SortSt Sem PUnit) Q st:=by
 unfold wpS;rw[StateT.run_set];exact wpAny_pure ⟨rfl,h⟩
theorem EI(C:mz prog w A s κ P lt) {xs zs M:Array Keyed}{sa na nb k l:Nat}(hp:∀x,x∈xs->P x) (hz:sa+na+nb<=xs.size) (hk:k<=na) (hl:l<=nb) (h1:mY lt xs sa (sa+na)) (h2:mY lt xs (sa+na) (sa+na+nb)) {key last:Keyed}
  (ek:xs[sa+na]?=some key) (el:xs[sa+na-1]?=some last)
  (k2:∀j y,j<k->xs[sa+j]?=some y->lt key y=false) (l3:∀j y,l<=j->j<nb->xs[sa+na+j]?=some y->lt y last=false) (hna:0<na) (hnb:0<nb)
  (m:Hd lt (xs.extract (sa+k) (sa+na)) (xs.extract (sa+na) (sa+na+l)) M)
  (hzs:zs.toList=xs.toList.take (sa+k)++M.toList++xs.toList.drop (sa+k+M.toList.length)):kP xs zs sa (sa+na+nb)/\mY lt zs sa (sa+na+nb):=by
 have lM:M.toList.length=(na-k)+l:=by
  have:=m.pm.length_eq;simp only[lAq,RA,Uy]at this ⊢;lia
 have hlx:xs.toList.length=xs.size:=RA;have gz:∀p,zs[p]?=if p<sa+k then xs[p]? else if p<sa+na+l then M[p-(sa+k)]? else xs[p]?:=fun p=>by
  rw[←RJ,hzs]
  by_cases c1:p<sa+k
  .rw [if_pos c1,Rn,gZq (by rw[lTq];lia),T7 c1,RJ]
  .rw [if_neg c1,Rn,gYq (by rw[lTq];lia),lTq,show min (sa+k) xs.toList.length=sa+k by lia]
   by_cases c2:p<sa+na+l
   .rw [if_pos c2,gZq (by lia),RJ]
   .rw [if_neg c2,gYq (by lia),Ud,RJ]
    congr 1;lia
 have pk:=hp _ (aQq ek);have pl:=hp _ (aQq el);have from_:∀q v,M[q]?=some v->(∃j,k<=j/\j<na/\xs[sa+j]?=some v)∨∃j,j<l/\xs[sa+na+j]?=some v:=fun q v e=>by
  have hv:v∈M.toList:=by simpa using aQq e
  rcases mAq.mp (m.pm.mem_iff.mp hv) with hv|hv
  .obtain ⟨j,j1,j2,ej⟩:=fe hv;exact .inl ⟨j-sa,by lia,by lia,by rw[show sa+(j-sa)=j by lia];exact ej⟩
  .obtain ⟨j,j1,j2,ej⟩:=fe hv;exact .inr ⟨j-(sa+na),by lia,by rw[show sa+na+(j-(sa+na))=j by lia];exact ej⟩
 refine⟨⟨?_,fun p hp'=>?_⟩,?_⟩
 .rw [Array.perm_iff_toList_perm,hzs];have c:xs.toList=xs.toList.take (sa+k)++((xs.extract (sa+k) (sa+na)).toList++(xs.extract (sa+na) (sa+na+l)).toList)++xs.toList.drop (sa+k+M.toList.length):=by
   rw[cQ,cQ,lM];have a1:=oK xs.toList (sa+k) (sa+na) (by lia)
   have a2:=oK xs.toList (sa+na) (sa+na+l) (by lia)
   have a3:sa+k+(na-k+l)=sa+na+l:=by lia
   rw[a3,←Rn,←a1,←a2,R5]
  conv=>rhs;rw[c]
  exact SU.append_right _ (SU.append_left _ m.pm)
 .rw [gz]
  by_cases c1:p<sa+k
  .rw [if_pos c1]
  .rw [if_neg c1,if_neg (by lia)]
 .intro p q x y a1 a2 a3 ex ey;rw[gz]at ex ey
  by_cases p1:p<sa+k
  .rw [if_pos p1]at ex;have px:=hp _ (aQq ex);have lx:lt key x=false:=k2 (p-sa) x (by lia) (by rw[show sa+(p-sa)=p by lia];exact ex)
   by_cases q1:q<sa+k
   .rw [if_pos q1]at ey;exact h1 p q _ _ a1 a2 (by lia) ex ey
   .rw [if_neg q1]at ey
    by_cases q2:q<sa+na+l
    .rw [if_pos q2]at ey;rcases from_ _ _ ey with ⟨j,j1,j2,ej⟩|⟨j,j1,ej⟩
     .exact h1 p (sa+j) _ _ a1 (by lia) (by lia) ex ej
     .exact C.trans _ _ _ px pk (hp _ (aQq ej)) lx (h2 (sa+na) (sa+na+j) _ _ (Rk _) (by lia) (by lia) ek ej)
    .rw [if_neg q2]at ey;exact C.trans _ _ _ px pk (hp _ (aQq ey)) lx (h2 (sa+na) q _ _ (Rk _) (by lia) (by lia) ek ey)
  .rw [if_neg p1]at ex;rw[if_neg (by lia)]at ey
   by_cases p2:p<sa+na+l
   .rw [if_pos p2]at ex
    by_cases q2:q<sa+na+l
    .rw [if_pos q2]at ey;rcases Ux a2 with c|c
     .have ex':M.toList[p-(sa+k)]?=some x:=by rw[RJ];exact ex
      have ey':M.toList[q-(sa+k)]?=some y:=by rw[RJ];exact ey
      obtain⟨hx,e1⟩:=gSq.mp ex';obtain⟨hy,e2⟩:=gSq.mp ey';have:=Tg.mp m.so (p-(sa+k)) (q-(sa+k)) hx hy (by lia)
      rw[e1,e2]at this;exact this
     .subst c;rw[ex]at ey;cases ey;rcases from_ _ _ ex with ⟨j,j1,j2,ej⟩|⟨j,j1,ej⟩
      .exact C.refl (hp _ (aQq ej))
      .exact C.refl (hp _ (aQq ej))
    .rw [if_neg q2]at ey;have py:=hp _ (aQq ey);rcases from_ _ _ ex with ⟨j,j1,j2,ej⟩|⟨j,j1,ej⟩
     .exact C.trans _ _ _ (hp _ (aQq ej)) pl py (h1 (sa+j) (sa+na-1) _ _ (by lia) (by lia) (by lia) ej el) (l3 (q-(sa+na)) y (by lia) (by lia) (by rw[show sa+na+(q-(sa+na))=q by lia];exact ey))
     .exact h2 (sa+na+j) q _ _ (by lia) (by lia) (by lia) ej ey
   .rw [if_neg p2]at ex;rw[if_neg (by lia)]at ey
    exact h2 p q _ _ (by lia) a2 (by lia) ex ey
end
section
variable {prog:Program}{w:World}{A:Around}{E:Value->Shared->Prop}{s:Shared}{κ:SortKind}{P:Keyed->Prop}{lt:Keyed->Keyed->Bool}
theorem Gy{α:Type}{l:List α}{i:Nat}{a b:α}(h1:l[i]?=some a) (h2:l[i+1]?=some b):l=l.take i++a::b::l.drop (i+2):=by
 obtain⟨h3,e3⟩:=gSq.mp h1;obtain⟨h4,e4⟩:=gSq.mp h2
 conv=>lhs;rw[←R5 i l]
 rw[RS h3,RS h4,e3,e4]
theorem Dl{α:Type}{q r:List α}{a b c:α}:((q++a::b::r).set q.length c).eraseIdx (q.length+1)=q++c::r:=by
 rw[VH _ _ (Rk _),TB,Tp,UG (by lia),UA]
 rfl
theorem qF(C:mz prog w A s κ P lt) {i lo:Nat}{st:SortSt}{Q:Bool->SortSt->Prop}(hp:∀x,x∈arrOf st->P x) (hk:kindOf st=κ) (hf:failedOf st=none) (hlo:lo<=(arrOf st).size) (hch:dS lt (arrOf st) 0 (pendingOf st).toList lo)
  (hi:i+1<(pendingOf st).size) (h:∀xs p g,kP (arrOf st) xs 0 lo->p.size+1=(pendingOf st).size->dS lt xs 0 p.toList lo->Q true (SortSt.mk' κ xs p g none)):wpS (model prog w) A E s (mergeAt' i) Q st:=by
 obtain⟨κ',arr,pend,g0,fl⟩:=st;have hk:κ'=κ:=hk;have hf:fl=none:=hf;subst hk hf;have hp:∀x,x∈arr->P x:=hp;have hlo:lo<=arr.size:=hlo;have hch:dS lt arr 0 pend.toList lo:=hch;have hi:i+1<pend.size:=hi;have e1:pend[i]?=some (pend[i]'(by lia)):=Rm (by lia)
 have e2:pend[i+1]?=some (pend[i+1]'(by lia)):=Rm (by lia)
 generalize pend[i]'(by lia)=a at e1
 generalize pend[i+1]'(by lia)=b at e2
 obtain⟨sa,na,pa⟩:=a;obtain⟨sb,nb,pb⟩:=b;have e1':pend.toList[i]?=some (sa,na,pa):=by rw[RJ];exact e1
 have e2':pend.toList[i+1]?=some (sb,nb,pb):=by rw[RJ];exact e2
 have ep:=Gy e1' e2';have lq:(pend.toList.take i).length=i:=by rw[lTq,RA];lia
 generalize pend.toList.take i=q at ep lq;generalize pend.toList.drop (i+2)=r at ep;rw[ep]at hch;obtain⟨m0,c1,c2⟩:=fu.mp hch;obtain⟨x1,x2,x3,x4,x5,x6,x7⟩:=c2;have d1:sa=m0:=x1;have d2:0<na:=x2;have d3:mY lt arr m0 (m0+na):=x3;have f1:sb=m0+na:=x4;have f2:0<nb:=x5;have f3:mY lt arr (m0+na) (m0+na+nb):=x6;have f4:dS lt arr (m0+na+nb) r lo:=x7
 clear x1 x2 x3 x4 x5 x6 x7
 subst d1 f1;have hrl:sa+na+nb+r.length<=lo:=lK f4;have hql:0+q.length<=sa:=lK c1;have hz:sa+na+nb<=arr.size:=by lia
 have np:((pend.setIfInBounds i (sa,na+nb,pa)).eraseIdxIfInBounds (i+1)).toList=q++(sa,na+nb,pa)::r:=by
  rw[Array.toList_eraseIdxIfInBounds,Vg,ep,←lq];exact Dl
 have ns:((pend.setIfInBounds i (sa,na+nb,pa)).eraseIdxIfInBounds (i+1)).size+1=pend.size:=by
  rw[←RA,np,←RA,ep];simp only[lAq,lCq];lia
 have fin:∀zs g,kP arr zs sa (sa+na+nb)->mY lt zs sa (sa+na+nb)->Q true (SortSt.mk' κ' zs ((pend.setIfInBounds i (sa,na+nb,pa)).eraseIdxIfInBounds (i+1)) g none):=fun zs g b1 s1=>by
  refine h zs _ g ⟨b1.pm,fun k hk=>b1.out k (by lia)⟩ ns ?_
  rw[np];refine fu.mpr ⟨sa,iU (fun k _ k2=>b1.out k (.inl k2)) c1,rfl,by show 0<na+nb;lia,?_,?_⟩
  .show mY lt zs sa (sa+(na+nb));rw[←UP];exact s1
  .show dS lt zs (sa+(na+nb)) r lo;rw[←UP];exact iU (fun k k1 _=>b1.out k (.inr k1)) f4
 rw[xP];refine wpS_bind (wpS_get ?_);dsimp only;rw[e1,e2];dsimp only;refine wpS_bind (Cf ?_);have ek:arr[sa+na]?=some (arr[sa+na]'(by lia)):=Rm (by lia)
 have el:arr[sa+na-1]?=some (arr[sa+na-1]'(by lia)):=Rm (by lia)
 have pk:=hp _ (aQq ek);have pl:=hp _ (aQq el);refine wpS_bind (bj ek ?_);refine wpS_bind (fT C d2 (by lia) hp pk rfl (BU C (by lia) hp pk d3) fun k k1 k2 k3=>?_)
 dsimp only;have kl:∀j y,j<k->arr[sa+j]?=some y->lt (arr[sa+na]'(by lia)) y=false:=fun j y hj ey=>by
  have:=k2 j hj;rw[fA ey,if_neg (by decide)]at this
  simpa using this
 have kh:∀j y,k<=j->j<na->arr[sa+j]?=some y->lt (arr[sa+na]'(by lia)) y=true:=fun j y h1 h2 ey=>by
  have:=k3 j h1 h2;rw[fA ey,if_neg (by decide)]at this
  simpa using this
 by_cases c1':na-k=0
 .rw [if_pos (by simp[c1'])]
  refine wpS_pure (fin arr g0 (kP.refl _ _ _) fun p q x y a1 a2 a3 ex ey=>?_)
  have px:=hp _ (aQq ex);have py:=hp _ (aQq ey)
  by_cases q1:q<sa+na
  .exact d3 p q _ _ a1 a2 q1 ex ey
  .by_cases p1:p<sa+na
   .exact C.trans _ _ _ px pk py (kl (p-sa) x (by lia) (by rw[show sa+(p-sa)=p by lia];exact ex)) (f3 (sa+na) q _ _ (Rk _) (by lia) a3 ek ey)
   .exact f3 p q _ _ (by lia) a2 a3 ex ey
 rw[if_neg (by simpa using c1')]
 have ea:sa+k+(na-k)-1=sa+na-1:=by lia
 rw[ea];refine wpS_bind (bj el ?_);refine wpS_bind (fT C (by lia) (by lia) hp pl rfl (BU C (by lia) hp pl f3) fun l l1 l2 l3=>?_)
 dsimp only;have ll:∀j y,j<l->arr[sa+na+j]?=some y->lt y (arr[sa+na-1]'(by lia))=true:=fun j y hj ey=>by
  have:=l2 j hj;rw[fA ey,if_pos rfl]at this;exact this
 have lh:∀j y,l<=j->j<nb->arr[sa+na+j]?=some y->lt y (arr[sa+na-1]'(by lia))=false:=fun j y h1 h2 ey=>by
  have:=l3 j h1 h2;rw[fA ey,if_pos rfl]at this;exact this
 by_cases c2':l=0
 .rw [if_pos (by simp[c2'])]
  refine wpS_pure (fin arr g0 (kP.refl _ _ _) fun p q x y a1 a2 a3 ex ey=>?_)
  have px:=hp _ (aQq ex);have py:=hp _ (aQq ey)
  by_cases q1:q<sa+na
  .exact d3 p q _ _ a1 a2 q1 ex ey
  .by_cases p1:p<sa+na
   .exact C.trans _ _ _ px pl py (d3 p (sa+na-1) _ _ a1 (by lia) (by lia) ex el) (lh (q-(sa+na)) y (by lia) (by lia) (by rw[show sa+na+(q-(sa+na))=q by lia];exact ey))
   .exact f3 p q _ _ (by lia) a2 a3 ex ey
 rw[if_neg (by simpa using c2')]
 have sx:kc lt (arr.extract (sa+k) (sa+na)).toList:=qz fun p q x y a1 a2 a3 ex ey=>d3 p q x y (by lia) a2 a3 ex ey
 have sy:kc lt (arr.extract (sa+na) (sa+na+l)).toList:=qz fun p q x y a1 a2 a3 ex ey=>f3 p q x y a1 a2 (by lia) ex ey
 have hx:∀x,x∈arr.extract (sa+k) (sa+na)->P x:=fun x hx=>by
  obtain⟨j,_,_,e⟩:=fe (VP.mpr hx);exact hp _ (aQq e)
 have hy:∀x,x∈arr.extract (sa+na) (sa+na+l)->P x:=fun x hx=>by
  obtain⟨j,_,_,e⟩:=fe (VP.mpr hx);exact hp _ (aQq e)
 have zx:(arr.extract (sa+k) (sa+na)).size=na-k:=by rw[Uy];lia
 have zy:(arr.extract (sa+na) (sa+na+l)).size=l:=by rw[Uy];lia
 have g0':(arr.extract (sa+na) (sa+na+l))[0]?=some (arr[sa+na]'(by lia)):=by
  rw[VB,if_pos (by lia),Vv]
  exact ek
 have gl':(arr.extract (sa+k) (sa+na))[na-k-1]?=some (arr[sa+na-1]'(by lia)):=by
  rw[VB,if_pos (by lia),show sa+k+(na-k-1)=sa+na-1 by lia]
  exact el
 have low:∀y∈(arr.extract (sa+k) (sa+na)).toList,lt y (arr[sa+na]'(by lia))=false:=fun y hy=>by
  obtain⟨j,j1,j2,ej⟩:=fe hy;exact C.asym _ _ pk (hp _ (aQq ej)) (kh (j-sa) y (by lia) (by lia) (by rw[show sa+(j-sa)=j by lia];exact ej))
 have high:∀x∈(arr.extract (sa+na) (sa+na+l)).toList,lt (arr[sa+na-1]'(by lia)) x=false:=fun x hx=>by
  obtain⟨j,j1,j2,ej⟩:=fe hx;exact C.asym _ _ (hp _ (aQq ej)) pl (ll (j-(sa+na)) x (by lia) (by rw[show sa+na+(j-(sa+na))=j by lia];exact ej))
 have done:∀M g,Hd lt (arr.extract (sa+k) (sa+na)) (arr.extract (sa+na) (sa+na+l)) M ->
   Q true (SortSt.mk' κ' (M.toList.zipIdx.foldl (fun a x=>a.setIfInBounds (sa+k+x.snd) x.fst) arr) ((pend.setIfInBounds i (sa,na+nb,pa)).eraseIdxIfInBounds (i+1)) g none):=fun M g mg=>by
  have lM:M.toList.length=(na-k)+l:=by
   have:=mg.pm.length_eq;simp only[lAq,RA,Uy]at this ⊢;lia
  have wb:=vH (sa+k) M.toList 0 arr (by lia)
  obtain⟨b1,s1⟩:=EI C hp hz k1 l1 d3 f3 ek el kl lh d2 f2 mg wb;exact fin _ g b1 s1
 by_cases c3:na-k<=l
 .rw [if_pos c3];refine wpS_bind (xE (κ:=κ') (a:=arr.extract (sa+k) (sa+na)) (b:=arr.extract (sa+na) (sa+na+l)) C hx hy rfl sx sy (by rw[zx];lia) (by rw[zy];lia) (fun x ex y hy=>?_) (fun j hj x hx y hy=>?_) fun M g mg=>?_)
  .rw [g0']at ex;cases ex;exact low y hy
  .have hj':j=na-k-1:=by lia
   subst hj';have:y=arr[sa+na-1]'(by lia):=by
    obtain⟨t,t1,t2⟩:=lI hy;rw[zx]at t1;have t0:t=0:=by lia
    subst t0;rw[Vv,gl']at t2;exact(RD.inj t2).symm
   rw[this];exact high x hx
  .refine wpS_bind (wpS_modify ?_);refine wpS_bind (wpS_get ?_);exact wpS_pure (done M g mg)
 .rw [if_neg c3];refine wpS_bind (xQ (κ:=κ') (a:=arr.extract (sa+k) (sa+na)) (b:=arr.extract (sa+na) (sa+na+l)) C hx hy rfl sx sy (by rw[zx];lia) (by rw[zy];lia) (fun x hx y hy=>?_) (fun x ex y hy=>?_) fun M g mg=>?_)
  .have:x=arr[sa+na]'(by lia):=by
    obtain⟨t,t1,t2⟩:=mi hx;have t0:t=0:=by lia
    subst t0;rw[SB,g0']at t2;exact(RD.inj t2).symm
   rw[this];exact low y hy
  .rw [zx,gl']at ex;cases ex;exact high y hy
  .refine wpS_bind (wpS_modify ?_);refine wpS_bind (wpS_get ?_);exact wpS_pure (done M g mg)
end
section
variable {prog:Program}{w:World}{A:Around}{E:Value->Shared->Prop}{s:Shared}{κ:SortKind}{P:Keyed->Prop}{lt:Keyed->Keyed->Bool}
abbrev jU(κ:SortKind) (xs:Array Keyed) (p:Array (Nat×Nat×Nat)) (g:Nat):SortSt:=SortSt.mk' κ xs p g none
theorem tD{xs:Array Keyed}{p:Array (Nat×Nat×Nat)}{lo n:Nat}(h:dS lt xs 0 p.toList lo) (hn:0<n) (hs:mY lt xs lo (lo+n)):dS lt xs 0 (p.push (lo,n,0)).toList (lo+n):=by
 rw[Um];exact fu.mpr ⟨lo,h,rfl,hn,hs,rfl⟩
theorem uN(p:Array (Nat×Nat×Nat)) (i pw:Nat):(p.modify i fun x=>(x.fst,x.2.fst,pw)).toList.map (fun p=>(p.1,p.2.1))=p.toList.map (fun p=>(p.1,p.2.1)):=by
 apply T1;intro k;rw[gMq,gMq,RJ,RJ,Array.getElem?_modify];split
 .cases p[k]? <;> rfl
 .rfl
theorem vQ(C:mz prog w A s κ P lt) {arr:Array Keyed}{g:Nat}{Q:Unit->SortSt->Prop}(hp:∀x,x∈arr->P x) (h2:2<=arr.size)
    (h:∀xs p g',xs.Perm arr->mY lt xs 0 arr.size->Q () (jU κ xs p g')):wpS (model prog w) A E s sortRuns' Q (jU κ arr #[] g):=by
  rw[sortRuns'_eq];refine wpS_bind (wpS_get ?_);dsimp only;have e0:arrOf (jU κ arr #[] g)=arr:=rfl;rw[e0];generalize minRun' arr.size arr.size 0=mr;refine wpS_bind (wpS_mono (wpS_forRange
    (I:=fun i c st'=>∃lo xs p g',c=(none,lo)/\st'=jU κ xs p g'/\xs.Perm arr/\lo<=arr.size/\dS lt xs 0 p.toList lo/\i<=lo)
    (Q:=fun c st'=>∃xs p g',c=(none,arr.size)/\st'=jU κ xs p g'/\xs.Perm arr/\dS lt xs 0 p.toList arr.size)
    ?step ?fin ⟨0,arr,#[],g,rfl,rfl,Wq.refl _,Sl _,rfl,Rk _⟩) ?post)
  case fin =>
    rintro c st' ⟨lo,xs,p,g',rfl,rfl,q1,q2,q3,q4⟩;have e:lo=arr.size:=by lia
    subst e;exact⟨xs,p,g',rfl,rfl,q1,q3⟩
  case step =>
    rintro i c st' _ hi ⟨lo,xs,p,g',rfl,rfl,q1,q2,q3,q4⟩;dsimp only;have hpx:∀x,x∈xs->P x:=fun x hx=>hp x (q1.mem_iff.mp hx)
    have hzx:xs.size=arr.size:=q1.size_eq
    by_cases c1:lo ≥ arr.size
    . rw[if_pos c1]
      have e:lo=arr.size:=by lia
      subst e;exact wpS_pure ⟨xs,p,g',rfl,rfl,q1,q3⟩
    rw[if_neg c1];refine wpS_bind (vM (st:=jU κ xs p g') C hpx rfl (by lia) (by show lo+(arr.size-lo)<=xs.size;lia) fun n ys n1 n2 b1 s1=>?_)
    dsimp only;have hb:kP xs ys lo (lo+n):=b1;show wpS _ _ _ _ _ _ (jU κ ys p g')
    by_cases c2:n<mr
    all_goals
      first
        | (rw[if_pos c2]
           refine wpS_bind (jA ?_);refine wpS_bind (zf (st:=jU κ ys p g') (n:=min (arr.size-lo) mr) C (hb.mem hpx) rfl n1 (by lia) (by show lo+min (arr.size-lo) mr<=ys.size;have:=hb.size;lia) s1 fun zs b2 s2=>?_)
           rw[if_neg (by decide)]
           have hb2:kP xs zs lo (lo+min (arr.size-lo) mr):=(hb.mono (by lia)).trans b2
           have nn:1<=min (arr.size-lo) mr:=by lia
           have nl:lo+min (arr.size-lo) mr<=arr.size:=by lia
           show wpS _ _ _ _ _ _ (jU κ zs p g')
           clear b1 s1 hb b2
           generalize min (arr.size-lo) mr=nN at hb2 nn nl s2 ⊢)
        | (rw[if_neg c2]
           have hb2:=hb;have s2:=s1;have nn:=n1;have nl:lo+n<=arr.size:=by lia
           clear b1 s1 hb
           generalize hnN:n=nN at hb2 nn nl s2 ⊢;generalize hzs:ys=zs at hb2 s2 ⊢)
      have hpz:=hb2.mem hpx;have hzz:=hb2.size;have hcz:dS lt zs 0 p.toList lo:=iU (fun k _ k2=>hb2.out k (.inl k2)) q3
      have pz:zs.Perm arr:=hb2.pm.trans q1;refine wpS_bind (wpS_get ?_);have ep:pendingOf (jU κ zs p g')=p:=rfl;rw[ep];cases eb:p.back? with
      |none =>
        dsimp only;refine wpS_bind (wpS_modify (wpS_pure ?_));exact⟨lo+nN,zs,p.push (lo,nN,0),g',rfl,rfl,pz,nl,tD hcz nn s2,by lia⟩
      |some t =>
        obtain⟨s1',n1',pw0⟩:=t;dsimp only;refine wpS_bind (wpS_mono (wpS_forRange
          (I:=fun i c st'=>∃ys q g2,c=(none,())/\st'=jU κ ys q g2/\kP zs ys 0 lo/\dS lt ys 0 q.toList lo)
          (Q:=fun c st'=>∃ys q g2,c=(none,())/\st'=jU κ ys q g2/\kP zs ys 0 lo/\dS lt ys 0 q.toList lo)
          ?step1 (fun c st' hh=>hh) ⟨zs,p,g',rfl,rfl,kP.refl _ _ _,hcz⟩) ?post1)
        case step1 =>
          rintro j c st' _ hj ⟨ys2,q,g2,rfl,rfl,b3,ch3⟩;refine wpS_bind (wpS_get ?_);have eq:pendingOf (jU κ ys2 q g2)=q:=rfl;rw[eq]
          by_cases d1:q.size>1
          . rw[if_pos d1]
            have eo:q[q.size-2]?=some (q[q.size-2]'(by lia)):=Rm (by lia)
            rw[eo];generalize q[q.size-2]'(by lia)=o
            obtain⟨o1,o2,older⟩:=o;dsimp only;split
            . exact wpS_pure ⟨ys2,q,g2,rfl,rfl,b3,ch3⟩
            . refine wpS_bind (qF (st:=jU κ ys2 q g2) C (b3.mem hpz) rfl rfl (by show lo<=ys2.size;have:=b3.size;lia) ch3 (by show q.size-2+1<q.size;lia) fun xs3 p3 g3 b4 _ ch4=>?_)
              rw[if_neg (by decide)]
              exact wpS_pure ⟨xs3,p3,g3,rfl,rfl,b3.trans b4,ch4⟩
          . rw[if_neg d1]
            exact wpS_pure ⟨ys2,q,g2,rfl,rfl,b3,ch3⟩
        case post1 =>
          rintro c st' ⟨ys2,q,g2,rfl,rfl,b3,ch3⟩;dsimp only;refine wpS_bind (wpS_modify (wpS_bind (wpS_modify (wpS_pure ?_))));have s3:mY lt ys2 lo (lo+nN):=fun a b x y a1 a2 a3 ex ey=>s2 a b x y a1 a2 a3 (by rw[←b3.out a (.inr a1)];exact ex) (by rw[←b3.out b (.inr (by lia))];exact ey)
          exact⟨lo+nN,ys2,_,g2,rfl,rfl,b3.pm.trans pz,nl,tD (oC (uN q _ _) ch3) nn s3,by lia⟩
  case post =>
    rintro c st' ⟨xs,p,g',rfl,rfl,q1,q3⟩;dsimp only;refine wpS_bind (wpS_mono (wpS_forRange
      (I:=fun i c st'=>∃ys q g2,c=(none,())/\st'=jU κ ys q g2/\ys.Perm arr/\dS lt ys 0 q.toList arr.size/\q.size+i<=arr.size)
      (Q:=fun c st'=>∃ys q g2,c=(none,())/\st'=jU κ ys q g2/\ys.Perm arr/\dS lt ys 0 q.toList arr.size/\q.size<=1)
      ?step2 ?fin2 ⟨xs,p,g',rfl,rfl,q1,q3,by have:=lK q3;rw[RA]at this;lia⟩) ?post2)
    case fin2 =>
      rintro c st' ⟨ys,q,g2,rfl,rfl,r1,r2,r3⟩;exact⟨ys,q,g2,rfl,rfl,r1,r2,by lia⟩
    case step2 =>
      rintro j c st' _ hj ⟨ys,q,g2,rfl,rfl,r1,r2,r3⟩;refine wpS_bind (wpS_get ?_);have eq:pendingOf (jU κ ys q g2)=q:=rfl;rw[eq]
      by_cases d1:q.size<=1
      . rw[if_pos d1]
        exact wpS_pure ⟨ys,q,g2,rfl,rfl,r1,r2,d1⟩
      rw[if_neg d1];have hi':∀(b:Prop) [Decidable b],(if b then q.size-2-1 else q.size-2)+1<q.size:=fun b _=>by split <;> lia
      refine wpS_bind (qF (st:=jU κ ys q g2) C (fun x hx=>hp x (r1.mem_iff.mp hx)) rfl rfl (by show arr.size<=ys.size;have:=r1.size_eq;lia) r2 (hi' _) fun xs3 p3 g3 b4 ns ch4=>?_)
      rw[if_neg (by decide)]
      have ns':p3.size+1=q.size:=ns;exact wpS_pure ⟨xs3,p3,g3,rfl,rfl,b4.pm.trans r1,ch4,by lia⟩
    case post2 =>
      rintro c st' ⟨ys,q,g2,rfl,rfl,r1,r2,r3⟩;refine wpS_pure (h ys q g2 r1 ?_);rw[←RA]at r3;cases eq:q.toList with
      |nil =>
        rw[eq]at r2;have r2':0=arr.size:=r2;lia
      |cons a r =>
        rw[eq]at r2 r3;have er:r=[]:=by
          rw[lCq]at r3;exact R9.mp (by lia)
        subst er;obtain⟨_,_,s3,e3⟩:=r2;have e3':0+a.2.1=arr.size:=e3;rw[e3']at s3;exact s3
end
end MrS
namespace Xe
open PySem
abbrev OG:List Value:=[.type "ValueError", .type "Exception", .type "BaseException", .type "object"]
end Xe
namespace Xe
open PySem
open Builtin Builtin.ObjectAttr
section
variable {prog:Program}{w:World}{A:Around}{E:Value->Shared->Prop}{s:Shared}{env:Env}{e:Addr}{c0:Value}{t:Expr}{n:Str}{b₀:Stmt}{suite:List Stmt}{pos:Pos}{rest:List ExceptHandler}{Q:Flow->Shared->Prop}
end
end Xe
namespace Mr
abbrev St:=L2.St
open PySem PySem.Spec PyProof.Rows L2
section
variable {X:Cx}{aa:List (Addr×Obj)}{σ:List (Option V)}{H H':Hp}{s:Shared}{h':Heap}
theorem D5{t':Nat}{fp:List Addr}{T:Addr}{o:HO}(I:Inv X aa σ H s) (k:∀b u,b∉fp->s.heap.get? b=some u->h'.get? b=some u)
  (hf:∀b∈fp,sJ X aa H b) (hT:s.heap.objs.size<=T) (new:cW X.prog X.w (cI H T o) h' T o):Inv X aa σ (cI H T o) { s with heap:=h',toks:=t' }:=by
 have hn:H T=none:=I.hok.fresh hT;have nf:∀b u,H b=some u->b∉fp:=fun b u e z=>by rw[(hf b z).1]at e;cases e
 refine I.step (g':=s.gens) (d':=s.drawn) (ch:=fp) (fun b hb=>?_) (fun b u _ _ hc e _=>k b u hc e) (fun b u _ _ hc e _=>⟨u.slots,k b u hc e⟩)
  (fun b u _ e n=>by rw[aL (RI (RV (Ro e) hT))];exact n) (fun b u hc e=>⟨u,k b u hc e⟩)
  (fun b xs e=>by rw[aL (cF e hn)];exact e) (fun b u xs e=>by rw[aL (cF e hn)];exact e) (fun b ps e=>⟨#[],by rw[aL (cF e hn),e];simp⟩) (fun m hm=>?_) (fun b u e=>?_) I.bare
 .obtain ⟨_,f1,_,f3,f4,f5⟩:=hf b hb;exact⟨f3,f1,f4,f5⟩
 .obtain ⟨u,es,ep,ho,r⟩:=hm;exact⟨u,es,ep,k _ u (fun z=>(hf _ z).2.1 rfl) ho,r⟩
 .by_cases hb:b=T
  .subst hb;rw[aU]at e;cases e;exact new
  .rw [aL hb]at e;refine(I.hok b u e).stay (fun c v hc q=>k c v ?_ q) (fun c q=>by rw[aL (cF q hn)];exact q) fun c xs q=>by rw[aL (cF q hn)];exact q
   rcases hc with rfl|hc
   .exact nf _ u e
   .exact nf c _ hc
theorem Js{t':Nat}{fp:List Addr}(I:Inv X aa σ H s) (k:∀b u,b∉fp->s.heap.get? b=some u->h'.get? b=some u)
  (hf:∀b∈fp,sJ X aa H b):Inv X aa σ H { s with heap:=h',toks:=t' }:=by
 have nf:∀b u,H b=some u->b∉fp:=fun b u e z=>by rw[(hf b z).1]at e;cases e
 refine I.step (g':=s.gens) (d':=s.drawn) (ch:=fp) (fun b hb=>?_) (fun b u _ _ hc e _=>k b u hc e) (fun b u _ _ hc e _=>⟨u.slots,k b u hc e⟩)
  (fun _ _ _ _ n=>n) (fun b u hc e=>⟨u,k b u hc e⟩) (fun _ _ e=>e) (fun _ _ _ e=>e) (fun b ps e=>⟨#[],by rw[e];simp⟩) (fun m hm=>?_) (fun b u e=>?_) I.bare
 .obtain ⟨_,f1,_,f3,f4,f5⟩:=hf b hb;exact⟨f3,f1,f4,f5⟩
 .obtain ⟨u,es,ep,ho,r⟩:=hm;exact⟨u,es,ep,k _ u (fun z=>(hf _ z).2.1 rfl) ho,r⟩
 .refine (I.hok b u e).stay (fun c v hc q=>k c v ?_ q) (fun _ q=>q) fun _ _ q=>q
  rcases hc with rfl|hc
  .exact nf _ u e
  .exact nf c _ hc
end
def Oy(K:W.Frag) (a:Addr):It :=
  ⟨fun i H=>∃xs x,dZ K H a xs/\xs[i]?=some x,
   fun i H v H'=>∃T x,H T=none/\v = .ref T/\H'=cI H T (.tup [.int i,x])/\∀xs,dZ K H a xs->xs[i]?=some x,
   fun i H=>∃xs,dZ K H a xs/\xs.length<=i⟩
theorem C7{P:Program}{w:World}{K:W.Frag}{elts:List Expr}{k:Nat}{pos:Pos}(a e it:Addr) (hne:e≠it) :
  DE P w K (.Tuple elts k pos) (Oy K a) [e,it] e (fun i h=>(∃old,IsEnum h e it i old)/\h.IsListIter it a i) where
 mem:=by simp
 obj:=fun i h st b hb=>by
  obtain⟨⟨old,he⟩,o,ho,_,d⟩:=st;rcases Rl.mp hb with rfl|hb
  .exact ⟨_,he,fun v z=>by
    have z':Data.fields _=Data.cell v:=z;cases z'⟩
  .have e:b=it:=by simpa using hb
   subst e;exact⟨o,ho,fun v z=>by rw[d]at z;cases z⟩
 keep:=fun i h h' st kp=>by
  obtain⟨⟨old,he⟩,hit⟩:=st;exact⟨⟨old,kp e (by simp) _ he⟩,hit.at fun o q=>kp it (by simp) o q⟩
 item:=by
  intro X hP hw hK hc i aa s σ H E I hf st hg;subst hP hw hK;obtain⟨xs,x,hq,hx⟩:=hg;obtain⟨its,rv,p,hz⟩:=I.list hq;obtain⟨u,hu,ru⟩:=rv.get hx;obtain⟨⟨old,he⟩,hit⟩:=st;have hil:it<s.heap.objs.size:=by obtain⟨_,q,_⟩:=hit;exact Ro q
  have hel:e<s.heap.objs.size:=Ro he;refine wpAny_pyNext_enum_item he hit p.isList (x:=u) (by simpa using hu) hne fun h1 he1 hit1 ht1 hz1 hk1=>⟨_,rfl,?_⟩
  refine wpAny_letOwnedTupleGo_enum he1 fun h2 he2 hs2=>?_
  replace hs2:U1 e h1 h2:=hs2;have hn:H s.heap.objs.size=none:=I.hok.fresh (Rk _);refine⟨.ref s.heap.objs.size,cI H s.heap.objs.size (.tup [.int i,x]),?_,rfl,⟨_,x,hn,rfl,rfl,fun ys hy=>by rw[I.list_inj hy hq];exact hx⟩,⟨⟨_,by simpa using he2⟩,hit1.extBut hs2.extBut (Ne.symm hne)⟩,fun b hb=>?_⟩
  .show L2.Inv X aa σ _ { s with heap:=h2,toks:=s.toks+1 }
   refine D5 (s:=s) (fp:=[e,it]) I (fun b o hb q=>?_) hf (Rk _) ⟨by simp only[lCq,TU];rw[sizeLine_eq];decide,[.int i s.toks,u],.cons ⟨_,rfl⟩ (.cons ru .nil),_,hs2.extBut _ _ (Tf hel) ht1,rfl,_,rfl⟩
   have b1:b≠e:=fun z=>hb (by simp[z])
   exact hs2.extBut b o b1 (hk1 b o b1 (fun z=>hb (by simp[z])) q)
  .have hb2:b<s.heap.objs.size:=by
    rcases Rl.mp hb with rfl|hb
    .exact hel
    .have e:b=it:=by simpa using hb
     subst e;exact hil
   rw[aL (RI hb2)];exact(hf b hb).1
 done:=by
  intro X hP hw hK hc i aa s σ H E I hf st hg;subst hP hw hK;obtain⟨xs,hq,hx⟩:=hg;obtain⟨its,rv,p,hz⟩:=I.list hq;obtain⟨⟨old,he⟩,hit⟩:=st;have hl:=rv.length;exact wpAny_pyNext_enum_end (I.ok.hd hc) he hit p.isList (by simp;lia) fun h1 eb=>⟨rfl,Js (t':=s.toks) (fp:=[e,it]) I (fun b o hb q=>eb b o (fun z=>hb (by simp[z])) q) hf⟩
 self:=fun _ _ _ _ _ st h=>by
  obtain⟨⟨old,he⟩,_⟩:=st;exact wpAny_pyIter_enum he h
structure Z5 (z TI TO i1 i2:Addr):Prop where
 a:TI≠z
 b:TO≠z
 c:i1≠z
 d:i2≠z
 e:TI≠TO
 f:TI≠i1
 g:TI≠i2
 h:TO≠i1
 i:TO≠i2
 j:i1≠i2
theorem MY(n:Nat):Z5 (n+4) (n+2) (n+3) n (n+1) where
 a:=fun(q:n+2=n+4)=>by lia
 b:=fun(q:n+3=n+4)=>by lia
 c:=fun(q:n=n+4)=>by lia
 d:=fun(q:n+1=n+4)=>by lia
 e:=fun(q:n+2=n+3)=>by lia
 f:=fun(q:n+2=n)=>by lia
 g:=fun(q:n+2=n+1)=>by lia
 h:=fun(q:n+3=n)=>by lia
 i:=fun(q:n+3=n+1)=>by lia
 j:=fun(q:n=n+1)=>by lia
section
variable {X:Cx}{elts:List Expr}{kk:Nat}{tpos:Pos}
def JW(K:W.Frag) (ta:TA):TI:=fun σ H R=>ta σ H fun vs H1=>∃a,vs=[.ref a]/\(∃xs,dZ K H1 a xs)/\R (Oy K a) H1
theorem HL{e:Expr}{ta:TA}{p pos:Pos}(hg:Gl X "enumerate") (hm:X.mg "enumerate" = none) (ha:PA X [e] ta) (hs:starEach [e] X.env=[(false,eval e X.env)]:=by rfl) :
  PI X (.Tuple elts kk tpos) (.Call (.Name "enumerate" p) [e] [] pos) (JW X.K ta):=by
 intro aa s σ H R I h;refine Call_ (nq I hg hm boot_enumerate (Ta (dY (ha pos aa s σ H _ I h) fun us s1 hz1=>?_) hs rfl))
 obtain⟨vs,H1,I1,r1,q1⟩:=hz1;obtain⟨a,e1,⟨xs,hq⟩,q⟩:=q1;subst e1;obtain⟨u,rfl,ru⟩:=oh r1;cases ru;obtain⟨its,rv,p1,hz⟩:=I1.list hq;refine call_enumerate_list p1.isList fun g he hit hsz hk=>wpAny_pyIter_enum he ?_
 refine⟨s1.heap.objs.size+1,[s1.heap.objs.size+1,s1.heap.objs.size],_,_,H1,rfl,I1.kept (t':=s1.toks) hk,C7 a _ _ (Nat.succ_ne_self _),⟨⟨_,he⟩,hit⟩,fun b hb=>?_,q⟩
 have hb2:s1.heap.objs.size<=b:=by
  simp only[Rl,Vs,or_false]at hb;rcases hb with rfl|rfl
  .exact Tz _
  .exact Rk _
 exact I1.fpOk hb2 (I1.hok.fresh hb2)
end
theorem Fo{K:W.Frag}{a:Addr}{xs:List V}{i1 i2:Nat}{tb:TS}{D:mV}{σ:St}{H:Hp}(Pv:Nat->St->Hp->Prop) (h0:Pv 0 σ H) (hl:∀i σ H,i<=xs.length->Pv i σ H->dZ K H a xs)
  (hs:∀i x σ H T,xs[i]?=some x->Pv i σ H->H T=none->tb { D with nx:=Pv (i+1),ct:=Pv (i+1),bk:=D.nx } ((σ.set i1 (some (.int i))).set i2 (some x)) (cI H T (.tup [.int i,x]))) (hd:∀σ H,Pv xs.length σ H->D.nx σ H) :
  ∃W:Nat->Nat->St->Hp->Prop,(∃m,W 0 m σ H)/\∀i m σ H,W i m σ H ->
   ((Oy K a).stop i H/\D.nx σ H)∨((Oy K a).go i H/\∃N:St->Hp->Prop,(∀σ' H',N σ' H'->∃m',m'<m/\W (i+1) m' σ' H')/\∀x H',(Oy K a).yld i H x H'->HP K 2 (ur (eZ i1) (ur (eZ i2) IF)) x σ H' fun σ2 H2=>tb { D with nx:=N,ct:=N,bk:=D.nx } σ2 H2):=by
 refine⟨fun i m σ H=>m=xs.length-i/\i<=xs.length/\Pv i σ H,⟨xs.length,by simp,Sl _,h0⟩,?_⟩
 rintro i m σ H ⟨rfl,hi,p⟩;have q:=hl i σ H hi p
 by_cases hlt:i<xs.length
 .refine .inr ⟨⟨xs,xs[i],q,by simp[hlt]⟩,Pv (i+1),fun σ' H' p'=>⟨xs.length-(i+1),by lia,rfl,hlt,p'⟩,fun v H' y=>?_⟩
  obtain⟨T,x,hT,rfl,rfl,hx⟩:=y;exact⟨T,_,rfl,zz.of aU,rfl,_,_,rfl,_,_,rfl,rfl,hs i x σ H T (hx xs q) p hT⟩
 .have e:i=xs.length:=by lia
  subst e;exact .inl ⟨⟨xs,q,Rk _⟩,hd σ H p⟩
section
variable {X:Cx}
theorem yH{aa:List (Addr×Obj)}{σ:St}{H:Hp}{s:Shared}{a:Addr}{ns:List Int}(I:Inv X aa σ H s) (h:dZ X.K H a (ns.map V.int)) :
  ∃vs:List Value,s.heap.IsList a vs.toArray/\IntsAre vs ns/\ns.length<=sizeLine:=by
 obtain⟨its,r,p,z⟩:=I.list h;rw[lMq]at z;exact⟨its,p.isList,mZ r,z⟩
theorem CN(hc:X.calm=true):mL X (.builtin "min") (fun xs H Q=>∃(a:Addr) (ns:List Int),xs=[.ref a]/\dZ X.K H a (ns.map V.int)/\0<ns.length/\∀M,M∈ns->(∀x,x∈ns->M<=x)->Q (.int M) H):=by
 intro aa s σ H xs us Q I r h;obtain⟨a,ns,rfl,hS,hne,q⟩:=h;obtain⟨u,rfl,ru⟩:=oh r;cases ru;obtain⟨vs,hl,hi,_⟩:=yH I hS;obtain⟨xs,e⟩:=hi.allInts.items;have hns:ns=xs.toList.map (·.1):=by
  rw[←hi.numsOf,←nums_intItems,←e]
 have hsz:0<xs.size:=by
  have h3:=hne;rw[hns,lMq,RA]at h3;exact h3
 rw[e]at hl;refine min_intList (I.ok.hd hc) hl hsz fun v h' tk hv hk=>?_
 obtain⟨t,rfl⟩:=intItems_at hv;obtain⟨h1,h2⟩:=argBest_lt (numAt xs) (xs.size-1);refine⟨.int _,H,I.kept hk,⟨t,rfl⟩,q _ ?_ fun x hx=>?_⟩
 .rw [hns,numAt_eq];exact PySem.getD_mem (by rw[lMq,RA];lia)
 .rw [hns]at hx;obtain⟨j,hj,rfl⟩:=PySem.mem_getD hx;rw[lMq,RA]at hj;rw[←numAt_eq];exact h2 j (by lia)
def Eb(K:W.Frag):V->List V->Hp->VK->Prop:=fun x vs H Q=>∃(a:Addr) (ns:List Int) (k:Int),x = .ref a/\vs=[.int k]/\dZ K H a (ns.map V.int)/\k∈ns/\Q (.int (ns.idxOf k:Nat)) H
theorem FK:O1 X "list.index" (Eb X.K):=by
 intro aa s σ H x xs v us Q I rx r h;obtain⟨a,ns,k,rfl,rfl,hS,hk,q⟩:=h;cases rx;obtain⟨u,rfl,t,rfl⟩:=oh r;obtain⟨its,rv,⟨o,n,ho,hc,hd0,hd⟩,hz⟩:=I.list hS;have hi:=mZ rv;obtain⟨cls,dd,data,sl⟩:=o;simp only at hc hd0 hd;subst hc hd0 hd;have hlen:=hi.length;have hj:ns.idxOf k<ns.length:=Vn.mpr hk;have hs:sizeLine=16777216:=sizeLine_eq;rw[lMq]at hz;refine call_meets Vw ⟨_,ho,rfl⟩ PySem.F.entry_list_index (PySem.F.args_list_index_2 _ _)
  (SeqAt.list_indexAt a its.toArray n none sl (.int k t) (isInt k) (ns.idxOf k) (by simpa [hlen] using hj) (by lia) ?_ ?_) ⟨ho,fun y hy=>(eq_isInt k t hi y (by simpa using hy)).at _ _,?_⟩
 .show isInt k its[ns.idxOf k]=true;rw[isInt_at k hi _ (by lia) hj]
  simpa using VZ hj
 .intro j hjs hlt;show isInt k its[j]=false;rw[isInt_at k hi j (by simpa using hjs) (by lia)]
  exact ne_of_lt_idxOf hlt _
 .exact ⟨.int _,H,I.tok _,⟨_,rfl⟩,q⟩
def Nj(K:W.Frag) (x:V) (H:Hp) (T:String) (b:Bool):Prop :=
 match x with
 | .int _=>(T = "int" /\ b=true)∨(T = "bool" /\ b=false)
 | .bl _=>(T = "bool" /\ b=true)∨(T = "int" /\ b=true)
 | .str _=>T = "str" /\ b=true
 | .ref p=>(T = "list" /\ b=true/\∃xs,dZ K H p xs)∨(T = "dict" /\ b=true/\∃kvs,H p=some (.dK kvs))∨(T = "tuple" /\ b=true/\∃xs,zz K H p xs)
 |_=>False
theorem tM:mL X (.builtin "isinstance") (fun xs H Q=>∃x T b,xs=[x,.ty T]/\Nj X.K x H T b/\Q (.bl b) H):=by
 intro aa s σ H xs us Q I r h;obtain⟨x,T,b,rfl,e,q⟩:=h;obtain⟨u,v,rfl,rx,rT⟩:=JP r;cases rT;cases x with
 |int i =>
  obtain⟨t,rfl⟩:=rx;rcases e with ⟨rfl,rfl⟩|⟨rfl,rfl⟩
  .exact call_isinstance (isinstance_true (Tx := "int") F.isi_meta_int F.sub_int_int) ⟨(show s.TypeIs (.int i t) "int" from rfl),⟨.bl true,H,I,rfl,q⟩⟩
  .exact call_isinstance (isinstance_false_int (by decide +kernel) F.isi_meta_bool F.sub_int_bool) (show EP X aa σ Q (.bool false) { s with toks:=s.toks+1 } from ⟨.bl false,H,I.tok _,rfl,q⟩)
 |bl i =>
  cases rx;rcases e with ⟨rfl,rfl⟩|⟨rfl,rfl⟩
  .exact call_isinstance (isinstance_true (Tx := "bool") F.isi_meta_bool F.sub_bool_bool) ⟨(show s.TypeIs (.bool i) "bool" from rfl),⟨.bl true,H,I,rfl,q⟩⟩
  .exact call_isinstance (isinstance_true (Tx := "bool") F.isi_meta_int F.sub_bool_int) ⟨(show s.TypeIs (.bool i) "bool" from rfl),⟨.bl true,H,I,rfl,q⟩⟩
 |str i =>
  obtain⟨t,rfl⟩:=rx;obtain⟨rfl,rfl⟩:=e;exact call_isinstance (isinstance_true (Tx := "str") F.isi_meta_str F.sub_str_str) ⟨(show s.TypeIs (.str i t) "str" from rfl),⟨.bl true,H,I,rfl,q⟩⟩
 |ref p =>
  cases rx;rcases e with ⟨rfl,rfl,xs,hS⟩|⟨rfl,rfl,kvs,hp⟩|⟨rfl,rfl,xs,hS⟩
  .obtain ⟨its,rv,pl,hz⟩:=I.list hS;exact call_isinstance (isinstance_true (Tx := "list") F.isi_meta_list (by rw[isSubtype_type];kernel_rfl)) ⟨pl.isList.typeIs,⟨.bl true,H,I,rfl,q⟩⟩
  .have ty:s.TypeIs (.ref p) "dict" := (K6 I (.inl ⟨kvs,.inl hp⟩)).1;exact call_isinstance (isinstance_true (Tx := "dict") F.isi_meta_dict (by rw[isSubtype_type];kernel_rfl)) ⟨ty,⟨.bl true,H,I,rfl,q⟩⟩
  .obtain ⟨its,rv,⟨o,ho,hc,_⟩,hz⟩:=I.tuple hS;exact call_isinstance (isinstance_true (Tx := "tuple") F.isi_meta_tuple (by rw[isSubtype_type];kernel_rfl)) ⟨⟨o,ho,hc⟩,⟨.bl true,H,I,rfl,q⟩⟩
 |_=>exact(show False from e).elim
end
end Mr
namespace Mr
open PySem L2
structure pK (K:W.Frag) (mg:Str->Option Value) (x:Str) (st:Stmt) (ps:List Str) (f:Addr) (fd:FuncData):Prop where
 F:Kh K x x st f fd
 m:mg x=some (.ref f)
 b:mP K fd ps []
theorem lV{H:Hp}{p:Addr}{o:HO}(h:H p=none):bD H (cI H p o):=fun b u e=>by
 rw[aL (cF e h)];exact e
end Mr
namespace Mr
open PySem PySem.Spec PyProof.Rows L2
theorem xV{prog:Program}{w:World}{A:Around}{R:Result->Shared->Prop}{s:Shared}{elt target iO:Expr}{ifs:List Expr}{scope:Scope}{pos:Pos}{it acc:Value}{env:Env}(I:Nat->Shared->Prop)
  (turn:∀n s,I n s->wpAny (model prog w) A (pyNext it) (fun r s₁=>match r with
   |none=>R (.ok .next) s₁
   |some v=>wpAny (model prog w) A (letOwnedTupleGo target it v) (fun _ s₂=>wpAny (model prog w) A (assign target env v) (fun _ s₃ =>
     wpAny (model prog w) A (forIn ifs true fun c r=>if r=true then do let ok ←isTrue c env (eval c env);pure (ForInStep.yield ok) else pure (ForInStep.yield r)) (fun ok s₄ =>
      if ok=true then wpAny (model prog w) A (eval elt env) (fun x s₅ =>
       wpAny (model prog w) A (call (.builtin "list.append") [acc,x]) (fun _ s₆=>∃m,m<n/\I m s₆) (fun _ _=>False) s₅) (fun _ _=>False) s₄
      else ∃m,m<n/\I m s₄) (fun _ _=>False) s₃) (fun _ _=>False) s₂) (fun _ _=>False) s₁) (fun _ _=>False) s)
  (n:Nat) (h:I n s):codeAny (model prog w) A (.compLoop (.ListComp elt [⟨target,iO,ifs,0⟩] scope pos) 0 it acc env) R s:=by
 refine codeAny_loop rfl I (fun n s hI=>?_) n h
 show wpAny _ A ((compTurn (.ListComp elt [⟨target,iO,ifs,0⟩] scope pos) 0 it acc env).onRaise (fun x=>do noteFrame x env;theTreesLotGoes x)) _ _ s
 refine wpAny_noted ?_;rw[compTurn_list];refine wpAny_bind (wpAny_standAt (wpAny_bind (wpAny_mono (turn n s hI) (fun r s₁ h₁=>?_) fun _ _ z=>z.elim)))
 cases r with
 |none=>exact wpAny_pure h₁
 |some v =>
  refine wpAny_bind (wpAny_mono h₁ (fun _ s₂ h₂=>?_) fun _ _ z=>z.elim)
  refine wpAny_bind (wpAny_mono h₂ (fun _ s₃ h₃=>?_) fun _ _ z=>z.elim)
  refine wpAny_bind (wpAny_mono h₃ (fun ok s₄ h₄=>?_) fun _ _ z=>z.elim)
  cases ok with
  |false=>exact wpAny_pure ⟨rfl,h₄⟩
  |true=>exact wpAny_bind (wpAny_bind (wpAny_mono h₄ (fun x s₅ h₅=>wpAny_bind (wpAny_mono h₅ (fun _ s₆ h₆=>wpAny_pure (wpAny_pure ⟨rfl,h₆⟩)) fun _ _ z=>z.elim)) fun _ _ z=>z.elim))
abbrev eE(X:Cx) (scope:Scope) (cl:List (Str×Addr)) (N:List Str) (C:Addr) (s:Shared) (H:Hp) (fp:List Addr):Cx where
 prog:=X.prog
 w:=X.w
 K:=X.K
 mg:=X.mg
 base:=X.base
 A:=X.A
 N:=N
 s₀:=s
 H₀:=H
 env:=compEnvC scope cl C X.env
 outer:=X.stack
 stack:=X.stack
 ex:=fp
 fn:=fun _=>false
 calm:=X.calm
 pn:=[]
 xe:=fun _ _=>False
def PF(X:Cx) (ifs:List Expr) (t:TT):Prop :=
 ∀(aa:List (Addr×Obj)) (s:Shared) (σ:St) (H:Hp) (Q:Bool->Hp->Prop),Inv X aa σ H s->t σ H Q ->
  wpAny (model X.prog X.w) X.A (forIn ifs true fun c r=>if r=true then do let ok ←isTrue c X.env (eval c X.env);pure (ForInStep.yield ok) else pure (ForInStep.yield r)) (TP X aa σ Q) X.xe s
def Om:TT:=fun _ H Q=>Q true H
theorem nD{X:Cx}:PF X [] Om:=fun _ _ _ H _ I h=>wpAny_tests_nil ⟨H,I,h⟩
theorem vV{X:Cx}{c:Expr}{t:TT}(h:PT X c t):PF X [c] t:=fun aa s σ H Q I q=>wpAny_tests_one (h aa s σ H Q I q)
structure fP (X:Cx) (scope:Scope) (cl:List (Str×Addr)) (x:Str) (N:List Str) (fr:List Nat):Prop where
 names:N.Nodup
 own:N[0]?=some x
 len:N.length=fr.length+1
 sub:∀y c,cl.lookup y=some c->X.env.cells.lookup y=some c
 has:∀y,((relabel scope X.env).names.lookup y=some .cell∨(relabel scope X.env).names.lookup y=some .free)->∃c,cl.lookup y=some c
 get:∀(k j:Nat) (y:Str),fr[k]?=some j->N[k+1]?=some y->X.N[j]?=some y/\X.env.scope.names.lookup y=some .cell/\(relabel scope X.env).names.lookup y=some .cell
theorem fP.none{X:Cx}{scope:Scope}{x:Str}(h:∀p∈scope.names,p.2 ≠ .cell/\p.2 ≠ .free):fP X scope [] x [x] [] where
 names:=by simp
 own:=rfl
 len:=rfl
 sub:=fun y c e=>by cases e
 has:=fun y e=>by
  exfalso;have key:∀p∈(relabel scope X.env).names,p.2 ≠ .cell/\p.2 ≠ .free:=by
   intro p hp;obtain⟨q,hq,rfl⟩:=mMq.mp hp;obtain⟨n,k⟩:=q;obtain⟨h1,h2⟩:=h _ hq;have hk:(k == NameKind.free)=false:=by simpa using h2
   simp only[hk,VN];exact⟨h1,h2⟩
  rcases e with e|e
  .exact (key _ (PySem.mem_of_lookup e)).1 rfl
  .exact (key _ (PySem.mem_of_lookup e)).2 rfl
 get:=fun k j y e _=>by cases e
def slots(σ:St) (fr:List Nat):St:=fr.map fun j=>(σ[j]?).join
def BR(wi:TI) (fr:List Nat) (tf:TT) (te:TE):TE:=fun σ H Q=>wi σ H fun J H1=>∀acc,H1 acc=none->∃W:Nat->Nat->Hp->Prop,(∃m,W 0 m (cI H1 acc (.lst [])))/\∀i m H,W i m H ->
 (J.stop i H/\Q (.ref acc) H) ∨
 (J.go i H/\∃N:Hp->Prop,(∀H',N H'->∃m',m'<m/\W (i+1) m' H')/\∀x H',J.yld i H x H'->tf (some x::slots σ fr) H' fun b H2 =>
  if b=true then te (some x::slots σ fr) H2 fun y H3=>∃ys,H3 acc=some (.lst ys)/\ys.length<sizeLine/\N (cI H3 acc (.lst (ys++[y]))) else N H2)
section
variable {X:Cx}{scope:Scope}{cl:List (Str×Addr)}{N:List Str}{fr:List Nat}{x:Str}{px pos:Pos}{elt iO:Expr}{ifs:List Expr}{tf:TT}{te:TE}
theorem sL{aa:List (Addr×Obj)}{σ:St}{H:Hp}{s:Shared}{E:Value->Shared->Prop}{J:It}{fp:List Addr}{it:Addr}{tn:Nat->Heap->Prop}{RR:Value->Addr->Result->Shared->Prop}{Q:VK}
  (hc:X.calm=true) (hcell:∀y∈scope.names,y.2 ≠ .cell) (hkind:scope.kind = .function) (hx:scope.names.lookup x=some .local) (hF:fP X scope cl x N fr)
  (hf:∀C s H fp,PF (eE X scope cl N C s H fp) ifs tf) (he:∀C s H fp,PE (eE X scope cl N C s H fp) elt te)
  (I:Inv X aa σ H s) (T:DE X.prog X.w X.K (.Name x px) J fp it tn) (st:tn 0 s.heap) (fpo:∀b∈fp,sJ X aa H b)
  (h:∀acc,H acc=none->∃W:Nat->Nat->Hp->Prop,(∃m,W 0 m (cI H acc (.lst [])))/\∀i m H,W i m H ->
   (J.stop i H/\Q (.ref acc) H) ∨
   (J.go i H/\∃N:Hp->Prop,(∀H',N H'->∃m',m'<m/\W (i+1) m' H')/\∀x H',J.yld i H x H'->tf (some x::slots σ fr) H' fun b H2 =>
    if b=true then te (some x::slots σ fr) H2 fun y H3=>∃ys,H3 acc=some (.lst ys)/\ys.length<sizeLine/\N (cI H3 acc (.lst (ys++[y]))) else N H2))
  (fin:∀acc C s' Hf m,Inv X aa σ Hf s'->s'.heap.Ns C m->sJ X aa Hf C->Q (.ref acc) Hf->RR (.ref acc) C (.ok .next) s') :
  wpAny (model X.prog X.w) X.A (newList []) (fun acc s₃=>wpAny (model X.prog X.w) X.A (newFunctionEnv scope X.env.globals cl [] X.env.qual none .none (some X.env)) (fun cenv s₄ =>
   codeAny (model X.prog X.w) X.A (.compStart (.ListComp elt [⟨.Name x px,iO,ifs,0⟩] scope pos) 0 (.ref it) acc { cenv with scope:=relabel scope X.env }) (RR acc cenv.locals) s₄) E s₃) E s:=by
 refine wpAny_newObj_type (wpAny_newFunctionEnv hcell (by intro y hy;simp at hy) (fun h₁ hns₁ hsb₁=>?_) hkind)
 dsimp only at hns₁ hsb₁ ⊢;generalize hG:s.heap.push { cls:=.type "list", dict:=none,data:=.seq ([]:List Value).toArray }=G at hns₁ hsb₁ ⊢;have hC:G.objs.size=s.heap.objs.size+1:=by rw[←hG,Ws]
 have hCle:s.heap.objs.size<=G.objs.size:=by rw[hC];exact Tz _
 have hDC:s.heap.objs.size≠G.objs.size:=by rw[hC];exact RI (UN _)
 have below:∀b,b<s.heap.objs.size->b≠G.objs.size:=fun b hb=>by rw[hC];exact RI (TY hb)
 have old:∀b o,s.heap.get? b=some o->h₁.get? b=some o:=fun b o e=>hsb₁.extBut b o (below b (Ro e)) (Rr _ (hG ▸ Rr _ e))
 have hacc:h₁.get? s.heap.objs.size=some { cls:=.type "list", data:=.seq ([]:List Value).toArray }:=hsb₁.extBut _ _ hDC (Rr _ (hG ▸ Sk _ rfl));have hn:H s.heap.objs.size=none:=I.hok.fresh (Rk _);have hnC:H G.objs.size=none:=I.hok.fresh hCle;have fpl:∀b∈fp,b<s.heap.objs.size:=fun b hb=>by
  obtain⟨o,q,_⟩:=T.obj 0 _ st b hb;exact Ro q
 obtain⟨W,⟨m0,w0⟩,turn⟩:=h _ hn;have ok':(eE X scope cl N G.objs.size s H fp).Ok:=by
  refine⟨I.ok.mod,by show (relabel scope X.env).kind = .function;exact hkind,I.ok.glob,I.ok.blt,hCle,fun y z c h1 h2=>I.ok.inj y z c (hF.sub y c h1) (hF.sub z c h2),hF.has,fun _ _ z _=>(by cases z),I.ok.hd,I.ok.frames,.inl rfl,
   fun b hb=>⟨below b (fpl b hb),fun y c e=>(fpo b hb).2.2.2.2.1 y c (hF.sub y c e)⟩,fun b o e=>⟨(I.bs b o e).1,(I.bs b o e).2⟩,S9 I.ok.bsz I.sz,fun b o e hb=>?_,fun b hb z=>?_,I.stack,I.stkFree⟩
  .rcases (fpo b hb).2.2.2.1 with q|q
   .exact I.ok.noex b o e q
   .exact absurd (RV (Ro (I.ok.bs b o e).1) q) (TV _)
  .rcases Rl.mp (I.stkSub b z) with q|q
   .exact (fpo b hb).2.1 q
   .exact (fpo b hb).2.2.1 q
 have I0:Inv (eE X scope cl N G.objs.size s H fp) [] (none::slots σ fr) (cI H s.heap.objs.size (.lst [])) { s with heap:=h₁,toks:=s.toks+([]:List (Str×Value)).length }:=by
  have hok1:nU X.prog X.w (cI H s.heap.objs.size (.lst [])) h₁:=I.hok.laid old (Rk _) ⟨Sl _,[],0,.nil,hacc⟩;refine⟨ok',rfl,I.bare,Un.laid old (Rk _) hn,⟨_,hns₁,fun k y v e1 e2 e3=>?_⟩,fun y c e=>?_,?_,fun y c e=>?_,fun p hp=>absurd (show p∈([]:List (Addr×Obj)) from hp) (by simp),hok1,?_⟩
  .cases k with
   |zero=>cases e2
   |succ k =>
    have e2':(slots σ fr)[k]?=some (some v):=e2;unfold slots at e2';rw[gMq]at e2';cases ej:fr[k]? with
    |none=>rw[ej]at e2';cases e2'
    |some j =>
     rw[ej]at e2';have e2j:(σ[j]?).join=some v:=RD.inj e2';have e2s:σ[j]?=some (some v):=by
      cases q:σ[j]? with
      |none=>rw[q]at e2j;cases e2j
      |some z=>rw[q]at e2j;exact congrArg some e2j
     obtain⟨g1,g2,g3⟩:=hF.get k j y ej e1;obtain⟨m,_,hl⟩:=I.loc;obtain⟨u,r,l⟩:=hl j y v g1 e2s (.inr (.inl g2));refine⟨u,r,.inr ⟨.inl g3,?_⟩⟩;obtain⟨c,e⟩:=hF.has y (.inl g3);have e':=hF.sub y c e;rcases l with ⟨l1,_⟩|⟨_,c',ec,hcell'⟩
     .have l1':X.env.scope.names.lookup y=some .local:=l1;rw[g2]at l1';cases l1'
     .rw [e']at ec;cases ec;obtain⟨o,ho,hd⟩:=hcell';exact⟨c,e,o,old c o ho,hd⟩
  .obtain ⟨v,o,ho,hd⟩:=I.cell y c (hF.sub y c e);exact⟨v,o,old c o ho,hd⟩
  .show cI H s.heap.objs.size (.lst []) G.objs.size=none;rw[aL (Ne.symm hDC)];exact hnC
  .obtain ⟨v,o,ho,hd⟩:=I.cell y c (hF.sub y c e);rw[aL (RI (Ro ho))];exact I.freeC y c (hF.sub y c e)
  .show (none::slots σ fr).length=N.length;rw[hF.len,lCq];unfold slots;rw[lMq]
 have OI:tn 0 h₁:=T.keep 0 _ _ st fun b _ o e=>old b o e
 have nd:N.Nodup:=hF.names;have nf0:∀b∈fp,cI H s.heap.objs.size (.lst []) b=none:=fun b hb=>by
  rw[aL (RI (fpl b hb))];exact(fpo b hb).1
 have stat:∀{H':Hp},(∀b∈fp,H' b=none)->∀b∈fp,sJ (eE X scope cl N G.objs.size s H fp) [] H' b:=fun hn' b hb =>
  ⟨hn' b hb,below b (fpl b hb),ok'.exfs b hb,.inl hb,fun y c e=>(ok'.exf b hb).2 y c e,fun p hp=>absurd (show p∈([]:List (Addr×Obj)) from hp) (by simp)⟩
 have loop:∀s₃:Shared,s₃={ s with heap:=h₁,toks:=s.toks+([]:List (Str×Value)).length } ->
   codeAny (model X.prog X.w) X.A (.compLoop (.ListComp elt [⟨.Name x px,iO,ifs,0⟩] scope pos) 0 (.ref it) (.ref s.heap.objs.size) (compEnvC scope cl G.objs.size X.env)) (RR (.ref s.heap.objs.size) G.objs.size) s₃:=by
  rintro s₃ rfl;refine xV (fun n s'=>∃i v0 H',Inv (eE X scope cl N G.objs.size s H fp) [] (v0::slots σ fr) H' s'/\tn i s'.heap/\(∀b∈fp,H' b=none)/\W i n H') ?_ m0 ⟨0,none,_,I0,OI,nf0,w0⟩
  rintro n s4 ⟨i,v0,H4,I4,OT,nf4,w4⟩;rcases turn i n H4 w4 with ⟨stop,q⟩|⟨go,Nx,hNx,step⟩
  .refine dY (T.done (eE X scope cl N G.objs.size s H fp) rfl rfl rfl hc i [] s4 (v0::slots σ fr) H4 (fun _ _=>False) I4 (stat nf4) OT stop) fun r s5 hz1=>?_
   obtain⟨hr,I5⟩:=hz1;subst hr;obtain⟨m,hm,_⟩:=I5.loc;have I6:Inv X aa σ H4 s5:=I.call' (ch:=fp) I5.os I5.base I5.hok I5.bare fun b hb=>⟨(fpo b hb).2.2.2.1,(fpo b hb).2.1,(fpo b hb).2.2.2.2.1,(fpo b hb).2.2.2.2.2⟩
   exact fin _ _ s5 H4 m I6 hm (I.fpOk hCle I5.free) q
  .refine dY (T.item (eE X scope cl N G.objs.size s H fp) rfl rfl rfl hc i [] s4 (v0::slots σ fr) H4 (fun _ _=>False) I4 (stat nf4) OT go) fun r s5 hz1=>?_
   obtain⟨u,hr,h5⟩:=hz1;subst hr;refine dY h5 fun _ s6 hz1=>?_
   obtain⟨y,H6,I6,r6,y6,st6,nf6⟩:=hz1;have I6':=I6.pinned (stat nf6) (T.obj _ _ st6);have pg:PG (eE X scope cl N G.objs.size s H fp) (.Name x px) (eZ 0):=cO nd hF.own (.inl (lookup_relabel_local hx)) (.inr (lookup_relabel_local hx));refine dY (pg _ s6 (v0::slots σ fr) H6 y u (fun σ2 H2=>σ2=some y::slots σ fr/\H2=H6) I6' r6 ⟨rfl,rfl⟩) fun _ s7 hz1=>?_
   obtain⟨σ7,H7,I7,e7,e8⟩:=hz1;subst e7 e8;refine dY (hf _ _ _ _ _ s7 _ _ _ I7 (step y _ y6)) fun b s8 hz1=>?_
   obtain⟨H8,I8,q8⟩:=hz1;have again:∀{s9:Shared}{H9:Hp},Inv (eE X scope cl N G.objs.size s H fp) ([]++tJ fp s6.heap) (some y::slots σ fr) H9 s9->Nx H9->∃m,m<n/\∃i v0 H',Inv (eE X scope cl N G.objs.size s H fp) [] (v0::slots σ fr) H' s9/\tn i s9.heap/\(∀b∈fp,H' b=none)/\W i m H':=fun {s9 H9} I9 n9=>by
    obtain⟨m',hm,w9⟩:=hNx H9 n9;refine⟨m',hm,i+1,some y,H9,I9.unpinned,T.keep _ _ _ st6 fun b hb o e=>(I9.pin (b,o) (RB _ (RB _ (ky hb e)))).1,fun b hb=>?_,w9⟩
    obtain⟨o,e,d⟩:=T.obj _ _ st6 b hb;exact(I9.pin (b,o) (RB _ (RB _ (ky hb e)))).2.1
   cases b with
   |false=>exact again I8 q8
   |true =>
    refine dY (he _ _ _ _ _ s8 _ _ _ I8 q8) fun z s9 hz1=>?_
    obtain⟨zv,H9,I9,r9,ys,a9,l9,n9⟩:=hz1;refine dY (cC (X:=eE X scope cl N G.objs.size s H fp) _ s9 _ H9 (.ref s.heap.objs.size) [zv] (.ref s.heap.objs.size) [z] (fun _ H'=>H'=cI H9 s.heap.objs.size (.lst (ys++[zv]))) I9 rfl (.cons r9 .nil) ⟨_,ys,zv,rfl,rfl,a9,l9,rfl⟩) fun _ s10 hz1=>?_
    obtain⟨_,H10,I10,_,e10⟩:=hz1;subst e10;exact again I10 n9
 exact codeAny_compStart_list (loop _ rfl) (T.self X.A 0 _ _ _ OI (loop _ rfl))
theorem gk{wi:TI}(hc:X.calm=true) (hclos:closureFor scope X.env=pure cl) (hcell:∀y∈scope.names,y.2 ≠ .cell) (hkind:scope.kind = .function) (hnames:∀y∈scope.names,y.2 = .local->scope.names.lookup y.1=some .local)
  (hx:scope.names.lookup x=some .local) (hF:fP X scope cl x N fr) (hi:PI X (.Name x px) iO wi) (hf:∀C s H fp,PF (eE X scope cl N C s H fp) ifs tf) (he:∀C s H fp,PE (eE X scope cl N C s H fp) elt te)
  (hs:∀x,foldedSetIterable iO X.env x=pure x:=by intro _;rfl):PE X (.ListComp elt [⟨.Name x px,iO,ifs,0⟩] scope pos) (BR wi fr tf te):=by
 intro aa s σ H Q I h;rw[eval_ListComp];refine wpAny_comprehension_free (use:=none) rfl hs hclos hkind hnames (dY (hi aa s σ H _ I h) fun v s1 h1=>dY h1 fun itv s2 h2=>?_)
 obtain⟨it,fp,tn,J,H2,e,I2,T,xl,f2,q2⟩:=h2;subst e;refine sL (RR:=fun acc C=>compPost (model X.prog X.w) X.A X.xe none (EP X aa σ Q) acc C) hc hcell hkind hx hF hf he I2 T xl f2 q2 ?_
 intro acc C s' Hf m I' hm fC q;refine⟨m,hm,fun h' sb=>⟨.ref acc,Hf,?_,rfl,q⟩⟩
 exact I'.turned (t':=s'.toks) (fun b o hb e=>(sb.2 b hb).trans e) fC.1 fC.2.1 fC.2.2.2.1 fC.2.2.2.2.1 fC.2.2.2.2.2
theorem Jn{wi:TI}{y:Str}{i:Nat}{py spos:Pos}(hc:X.calm=true) (hN:X.N.Nodup) (OU:X.N[i]?=some y) (hy:MR X.env.scope y) (hclos:closureFor scope X.env=pure cl) (hcell:∀y∈scope.names,y.2 ≠ .cell) (hkind:scope.kind = .function)
  (hnames:∀y∈scope.names,y.2 = .local->scope.names.lookup y.1=some .local)
  (hx:scope.names.lookup x=some .local) (hF:fP X scope cl x N fr) (hi:PI X (.Name x px) iO wi) (hf:∀C s H fp,PF (eE X scope cl N C s H fp) ifs tf) (he:∀C s H fp,PE (eE X scope cl N C s H fp) elt te)
  (hsw:swapsWith (.ListComp elt [⟨.Name x px,iO,ifs,0⟩] scope pos) (some (.Name y py)) spos.line X.env=pure true:=by rfl) (hs:∀x,foldedSetIterable iO X.env x=pure x:=by intro _;rfl)
  (hfn:X.fn y=true∨X.env.scope.names.lookup y=some .local:=by first|exact .inl rfl|exact .inr rfl|assumption) :
  PS X (.Assign [.Name y py] (.ListComp elt [⟨.Name x px,iO,ifs,0⟩] scope pos) spos) (AN (BR wi fr tf te) (eZ i)):=by
 intro aa s σ H D I h;rw[exec_Assign_Name_used _ _ _ _ hsw];refine wpAny_bind (wpAny_standAt (wpAny_bind ?_));show wpAny _ X.A (do let _ ←comprehension (.ListComp elt [⟨.Name x px,iO,ifs,0⟩] scope pos) scope X.env _ (newList []) false (eval iO X.env) (some (assign (.Name y py) X.env))) _ _ s
 refine wpAny_bind (wpAny_mono (wpAny_comprehension_free (use:=some (assign (.Name y py) X.env)) (Q:=fun _ s'=>SP X aa D .next s') rfl hs hclos hkind hnames
  (dY (hi aa s σ H _ I h) fun v s1 h1=>dY h1 fun itv s2 h2=>?_)) (fun _ s' hq=>wpAny_pure (wpAny_pure hq)) fun _ _ e=>e)
 obtain⟨it,fp,tn,J,H2,e,I2,T,xl,f2,q2⟩:=h2;subst e;refine sL (RR:=fun acc C=>compPost (model X.prog X.w) X.A X.xe (some (assign (.Name y py) X.env)) (fun _ s'=>SP X aa D .next s') acc C) (Q:=fun v H'=>D.nx (σ.set i (some v)) H') hc hcell hkind hx hF hf he I2 T xl f2 q2 ?_
 intro acc C s' Hf m I' hm fC q;obtain⟨o,es,ep,ho,hd,r⟩:=id hm;have I1:Inv X (aa++[(C,o)]) σ Hf s':=I'.pins_of fun p hp=>(mAq.mp hp).elim (fun z=>I'.pin p (RB _ z)) fun z=>by
  have e:p=(C,o):=by simpa using z
  subst e;exact⟨ho,fC.1,fC.2.1,fC.2.2.1,fun v z=>by rw[hd]at z;cases z⟩
 refine dY (cO (X:=X) (i:=i) (pos:=py) hN OU hy hfn _ s' σ Hf (.ref acc) (.ref acc) _ I1 rfl q) fun _ s2 hz1=>?_
 obtain⟨σ2,H2,I2,q2⟩:=hz1;have pC:=I2.pin (C,o) (RB _ (RB _ (by simp)))
 refine⟨m,⟨o,es,ep,pC.1,hd,r⟩,fun h' sb=>⟨σ2,H2,?_,q2⟩⟩
 exact I2.unpinned.turned (t':=s2.toks) (fun b u hb e=>(sb.2 b hb).trans e) pC.2.1 fC.2.1 fC.2.2.2.1 fC.2.2.2.2.1 fC.2.2.2.2.2
end
end Mr
namespace MrS
open PySem PyProof.Rows
section
variable {prog:Program}{w:World}{A:Around}{E:Value->Shared->Prop}{s:Shared}{Pk:Keyed->Prop}{lt:Keyed->Keyed->Bool}
abbrev gj(h:Heap) (a:Addr) (vs:List Value):Heap:=((h.update a (Obj.mapSeq fun _=>#[])).push (seqObj "tuple" vs.toArray 0)).push (seqObj "list" #[] 0)
theorem mK{a:Addr}{vs:List Value}{n:Nat}{P:PySem.Fin->Shared->Prop}(ho:s.heap.get? a=some (seqObj "list" vs.toArray n)) (hs:vs.length<=sizeLine)
  (hkk:2<=vs.length->∀Q:SortKind->Shared->Prop,Q oneType' { s with heap:=gj s.heap a vs }->wpAny (model prog w) A (keyKind' vs.toArray) Q E { s with heap:=gj s.heap a vs })
  (C:mz prog w A { s with heap:=gj s.heap a vs } oneType' Pk lt) (hp:∀x,x∈pairsOf vs->Pk x)
  (h:∀xs:Array Keyed,xs.Perm (pairsOf vs)->mY lt xs 0 (pairsOf vs).size->P (.done (.ret .none)) { s with heap:=sortedHeap s.heap a vs (xs.map (·.2)) }) :
  wpAny (model prog w) A (Builtin.«list.sort» ⟨[.ref a],[]⟩) P E s:=by
 rw[list_sort_plain];have ha:a<s.heap.objs.size:=Ro ho;refine wpAny_bind (listItems_at ho rfl ?_);refine wpAny_bind (listUpdate_at ho rfl ?_ (hsz:=by simpa using hs))
 obtain⟨e1,ho1⟩:∃e1,(s.heap.update a (Obj.mapSeq fun _=>#[])).get? a=some (seqObj "list" #[] e1):=⟨_,get?_update_seq ho (fun _=>#[])⟩
 refine wpAny_bind (seqEpoch_at ho1 rfl ?_);refine wpAny_bind (wpAny_newTuple ?_);refine wpAny_bind (wpAny_newList ?_);refine wpAny_holding ?_;have ho6:(gj s.heap a vs).get? a=some (seqObj "list" #[] e1):=by
  rw[UH _ _ _ (by rw[size_push',Us];exact RI (TY ha)),UH _ _ _ (by rw[Us];exact RI ha)]
  exact ho1
 show wpAny (model prog w) A _ P E { s with heap:=gj s.heap a vs }
 dsimp only;have hsz:vs.toArray.size=vs.length:=by simp
 have hs':sizeLine=16777216:=sizeLine_eq
 by_cases h2:vs.toArray.size<2
 .rw [if_pos h2,if_pos h2];refine wpAny_bind (wpAny_pure ?_);rw[StateT.run_pure];refine wpAny_bind (wpAny_pure ?_);dsimp only;refine wpAny_bind (seqEpoch_at ho6 rfl ?_);refine wpAny_bind (listUpdate_at ho6 rfl ?_ (hsz2:=by rw[Wt];show (pairsOf vs).size<=_;rw[pairsOf_size,sizeLine_eq];lia))
  simp only[bne_self_eq_false,Uz,if_false];refine wpAny_pure (h _ (Wq.refl _) ?_);intro i j x y _ hij hj ex ey;have:i=j:=by rw[pairsOf_size]at hj;lia
  subst this;rw[ex]at ey;cases ey;exact C.refl (hp x (aQq ex))
 .rw [if_neg h2,if_neg h2];refine wpAny_bind (hkk (by lia) _ ?_)
  refine wpAny_bind (wpAny_mono (vQ C (arr:=pairsOf vs) (g:=7) (E:=E)
   (Q:=fun _ st'=>∃xs p g',st'=jU oneType' xs p g'/\xs.Perm (pairsOf vs)/\mY lt xs 0 (pairsOf vs).size) hp (by rw[pairsOf_size];lia) fun xs p g' a1 a2=>⟨xs,p,g',rfl,a1,a2⟩) ?_ fun _ _ e=>e)
  rintro⟨⟨⟩,st'⟩ s' ⟨rfl,xs,p,g',rfl,hpm,hsg⟩;dsimp only;refine wpAny_bind (seqEpoch_at ho6 rfl ?_);refine wpAny_bind (listUpdate_at ho6 rfl ?_ (hsz2:=by refine S9 (U3 ((Wt ..).trans (hpm.size_eq.trans (pairsOf_size _)))) ?_;lia))
  simp only[bne_self_eq_false,Uz,if_false];exact wpAny_pure (h xs hpm hsg)
theorem Bd{h:Heap}{a:Addr}{xs:Array Value}{n:Nat}(vs:List Value) (ho:h.get? a=some (seqObj "list" xs n)):∃e1,(gj h a vs).get? a=some (seqObj "list" #[] e1):=by
 have ha:a<h.objs.size:=Ro ho;obtain⟨e1,ho1⟩:∃e1,(h.update a (Obj.mapSeq fun _=>#[])).get? a=some (seqObj "list" #[] e1):=⟨_,get?_update_seq ho (fun _=>#[])⟩
 refine⟨e1,?_⟩;rw[UH _ _ _ (by rw[size_push',Us];exact RI (TY ha)),UH _ _ _ (by rw[Us];exact RI ha)]
 exact ho1
theorem Bm{h:Heap}{a:Addr}{xs:Array Value}{n:Nat}(ys:Array Value) (ho:h.get? a=some (seqObj "list" xs n)):∃n1,(h.update a (Obj.mapSeq fun _=>ys)).get? a=some (seqObj "list" ys n1):=⟨_,get?_update_seq ho (fun _=>ys)⟩
theorem iV{vs:List Value}{x:Keyed}(h:x∈pairsOf vs):x.1∈vs/\x.2=x.1:=by
 obtain⟨i,hi,e⟩:=Array.mem_iff_getElem.mp h;have hi':i<vs.length:=by rw[pairsOf_size]at hi;exact hi
 have:x=(vs[i],vs[i]):=by
  rw[←e];simp[pairsOf]
 rw[this];exact⟨gRq hi',rfl⟩
theorem qK{vs:List Value}{xs:Array Keyed}(hp:xs.Perm (pairsOf vs)) (hs:mY lt xs 0 (pairsOf vs).size) :
  (xs.map (·.2)).toList.Perm vs/\(xs.map (·.2)).toList.Pairwise (fun x y=>lt (y,y) (x,x)=false):=by
 constructor
 .have:=hp.toList.map (·.2);have e:(pairsOf vs).toList.map (·.2)=vs:=by
   have:(pairsOf vs).toList=vs.zip vs:=by simp[pairsOf]
   rw[this];apply List.ext_getElem
   .simp
   .intro i h1 h2;simp
  rw[e]at this;rw[Array.toList_map];exact this
 .rw [Tg];intro i j hi hj hij;have hi':i<xs.size:=by simpa using hi
  have hj':j<xs.size:=by simpa using hj
  have z:=hs i j xs[i] xs[j] (Sl _) (Te hij) (by rw[←hp.size_eq];exact hj') (by simp[hi']) (by simp[hj'])
  have m1:=iV (hp.mem_iff.mp (Sd hi'));have m2:=iV (hp.mem_iff.mp (Sd hj'));have e1:xs[i]=(xs[i].2,xs[i].2):=Wn m1.2.symm rfl;have e2:xs[j]=(xs[j].2,xs[j].2):=Wn m2.2.symm rfl;rw[e1,e2]at z;simpa using z
theorem tQ{l:Addr}{vs:List Value}{Q:Value->Shared->Prop}(hl:s.heap.IsList l vs.toArray) (hs:vs.length<=sizeLine)
  (hC:∀s':Shared,(∀b o,s.heap.get? b=some o->s'.heap.get? b=some o)->(2<=vs.length->∀Q:SortKind->Shared->Prop,Q oneType' s'->wpAny (model prog w) A.in1.in1 (keyKind' vs.toArray) Q E s')/\mz prog w A.in1.in1 s' oneType' Pk lt)
  (hp:∀v∈vs,Pk (v,v))
  (h:∀(out:List Value) (h':Heap) (n':Nat),out.Perm vs->out.Pairwise (fun x y=>lt (y,y) (x,x)=false)->(∀b o,s.heap.get? b=some o->h'.get? b=some o) ->
   h'.get? (s.heap.objs.size+1)=some (seqObj "list" out.toArray n')->Q (.ref (s.heap.objs.size+1)) { s with heap:=h' }) :
  wpAny (model prog w) A (call (.builtin "sorted") [.ref l]) Q E s:=by
 refine Calls.call_function_entry kind_sorted plain_sorted entry_sorted (args_sorted1 _) ?_;unfold Builtin.«sorted»;refine wpAny_bind (m:=checkCount "sorted" 1 1 _) (wpAny_pure ?_);refine wpAny_bind (collect_list hl ?_ hs);refine wpAny_bind (wpAny_newList ?_);have hsz:((s.heap.push (seqObj "list" #[] 0)).update s.heap.objs.size (Obj.mapSeq (· ++ vs.toArray))).objs.size=s.heap.objs.size+1:=by
  rw[Us,size_push']
 have hoL:(((s.heap.push (seqObj "list" #[] 0)).update s.heap.objs.size (Obj.mapSeq (· ++ vs.toArray))).push (seqObj "list" vs.toArray 0)).get? (s.heap.objs.size+1)=some (seqObj "list" vs.toArray 0):=by
  rw[←hsz];exact Sk _ rfl
 show wpAny _ _ _ _ _ { s with heap:=((s.heap.push (seqObj "list" #[] 0)).update s.heap.objs.size (Obj.mapSeq (· ++ vs.toArray))).push (seqObj "list" vs.toArray 0) }
 rw[hsz];generalize hG:((s.heap.push (seqObj "list" #[] 0)).update s.heap.objs.size (Obj.mapSeq (· ++ vs.toArray))).push (seqObj "list" vs.toArray 0)=G at hoL ⊢;have k1:∀b o,s.heap.get? b=some o->G.get? b=some o:=fun b o e=>by
  rw[←hG];refine Rr _ ?_;rw[Ua _ _ _ _ (RI (Ro e))];exact Rr _ e
 have k2:∀b o,s.heap.get? b=some o->(gj G (s.heap.objs.size+1) vs).get? b=some o:=fun b o e=>by
  refine Rr _ (Rr _ ?_);rw[Ua _ _ _ _ (RI (TY (Ro e)))];exact k1 b o e
 obtain⟨q1,q2⟩:=hC { s with heap:=gj G (s.heap.objs.size+1) vs } k2
 refine wpAny_bind (wpAny_holding (wpAny_call_entry slot_list_sort ⟨_,hoL,rfl⟩ entry_list_sort (mK (Pk:=Pk) (lt:=lt) hoL hs q1 q2 (fun x hx=>?_) fun xs a1 a2=>⟨_,rfl,?_⟩) (args_list_sort _)))
 .obtain ⟨m1,m2⟩:=iV hx;have:x=(x.1,x.1):=Wn rfl m2;rw[this];exact hp _ m1
 .obtain ⟨v1,v2⟩:=qK a1 a2;obtain⟨e1,ho1⟩:=Bd vs hoL;obtain⟨n1,g1⟩:=Bm (xs.map (·.2)) ho1;refine wpAny_pure ⟨_,rfl,h _ (sortedHeap G (s.heap.objs.size+1) vs (xs.map (·.2))) n1 v1 v2 (fun b o e=>?_) ?_⟩
  .unfold sortedHeap;rw[Ua _ _ _ _ (RI (TY (Ro e)))];exact k2 b o e
  .rw [show (xs.map (·.2)).toList.toArray=xs.map (·.2) from VQ]
   exact g1
end
end MrS
namespace HT
open PySem PyProof.Rows
section
open PySem.SeqAt
open PySem.AutoSeq1 (wpAny_loadPart')
open PySem.MeetsSeq PySem.MeetsSeq2 PySem.MeetsSeq3 PySem.SeqRoads2
theorem xn{vs:List Value}{ns:List Int}(h:IntsAre vs ns):∀{i:Nat}(hi:i<vs.length),∃(z:Int) (t:Tok),vs[i] = .int z t/\ns.drop i=z::ns.drop (i+1):=by
 induction h with
 |nil=>intro i hi;exact absurd hi (Tb _)
 |cons a t _ ih =>
  intro i hi;cases i with
  |zero=>exact⟨a,t,rfl,rfl⟩
  |succ i=>exact ih (i:=i) (by simpa using hi)
theorem wG(l b:Addr) (items items2:Array Value) (n n2:Nat) (dd dd2:Option Addr) (sl sl2:Array (Option Value)) (ns ms:List Int) (hi:IntsAre items.toList ns) (hj:IntsAre items2.toList ms) (k:Nat) :
  ∀i:Nat,min items.size items2.size-i=k->i<=items.size->i<=items2.size->Meets (Builtin.«list.__eq__.loop» ⟨[.ref l,.ref b,rawInt i,rawInt 0],[]⟩)
   (fun _ R s=>s.heap.get? l=some { cls:=.type "list", dict:=dd,data:=.seq items n,slots:=sl }/\s.heap.get? b=some { cls:=.type "list", dict:=dd2,data:=.seq items2 n2,slots:=sl2 } /\
    R (.ok (.ret (.bool (dQ (ns.drop i) (ms.drop i))))) s):=by
 have z1:ns.length=items.size:=by rw[←hi.length];simp
 have z2:ms.length=items2.size:=by rw[←hj.length];simp
 induction k with
 |zero =>
  intro i hk h1 h2 prog w A R s h;obtain⟨hp,g,d,tk,os⟩:=s;obtain⟨hl,hb,h⟩:=h
  wp_walk using wpAny_loadPart' hl,wpAny_loadPart' hb
  have fin:dQ (ns.drop i) (ms.drop i)=decide (items.size<items2.size):=by
   by_cases c:i=items.size
   .have e1:ns.drop i=[]:=Tc (by lia)
    rw[e1]
    by_cases c2:i<items2.size
    .rw [RS (by lia:i<ms.length),tY]
     exact(decide_eq_true (by lia)).symm
    .rw [Tc (by lia:ms.length<=i),uI]
     exact(decide_eq_false (by lia)).symm
   .have c2:i=items2.size:=by lia
    rw[RS (by lia:i<ns.length),Tc (by lia:ms.length<=i),uo]
    exact(decide_eq_false (by lia)).symm
  rw[fin]at h
  by_cases c:i=items.size
  .have Hc:items[((i:Nat):Int).toNat]?=none:=by simp;lia
   rw[Hc]
   wp_walk using wpAny_loadPart' hl,wpAny_loadPart' hb
   exact h
  .have c2:i=items2.size:=by lia
   have Hc:items[((i:Nat):Int).toNat]?=some (items[i]'(by lia)):=by simp
   have hi2:items2[((i:Nat):Int).toNat]?=none:=by simp;lia
   rw[Hc,hi2]
   wp_walk using wpAny_loadPart' hl,wpAny_loadPart' hb
   exact h
 |succ k ih =>
  intro i hk h1 h2 prog w A R s h;obtain⟨hp,g,d,tk,os⟩:=s;obtain⟨hl,hb,h⟩:=h
  wp_walk using wpAny_loadPart' hl,wpAny_loadPart' hb
  have hlt:i<items.size:=by lia
  have hlt2:i<items2.size:=by lia
  obtain⟨x,t,ex,dx⟩:=xn hi (i:=i) (by simpa using hlt)
  obtain⟨y,u,ey,dy⟩:=xn hj (i:=i) (by simpa using hlt2)
  have Hc:items[((i:Nat):Int).toNat]?=some (.int x t):=by
   rw[←ex];simp[hlt]
  have hi2:items2[((i:Nat):Int).toNat]?=some (.int y u):=by
   rw[←ey];simp[hlt2]
  have hc:((i:Int)+1)=((i+1:Nat):Int):=by push_cast;rfl
  rw[dx,dy,kq]at h;rw[Hc,hi2];obtain⟨e,he,hiff⟩:=Hb A.in1 ⟨hp,g,d,tk,os⟩ x t y u;refine wpAny_bind (he prog w _ _ ?_);cases e with
  |true =>
   rw[if_pos (hiff.mp rfl)]at h
   wp_walk
   rw[hc];exact⟨plainId_quiet plain_eq_loop _,codeAny_builtin entry_eq_loop (by
    rw[Around.under_plainId plain_eq_loop _];exact ih (i+1) (by lia) (by lia) (by lia) prog w A R _ ⟨hl,hb,h⟩)⟩
  |false =>
   rw[if_neg (fun q=>absurd (hiff.mpr q) RG)]at h
   have hri:=GI A.in1 ⟨hp,g,d,tk,os⟩ x t y u prog w
   wp_walk using wpAny_loadPart' hl,wpAny_loadPart' hb
   rw[Hc,hi2]
   wp_walk using hri
   exact h
theorem vP(l b:Addr) (items items2:Array Value) (n n2:Nat) (dd dd2:Option Addr) (sl sl2:Array (Option Value)) (ns ms:List Int) (hi:IntsAre items.toList ns) (hj:IntsAre items2.toList ms) :
  Meets (Builtin.«list.__lt__» ⟨[.ref l,.ref b],[]⟩)
   (fun _ R s=>s.heap.get? l=some { cls:=.type "list", dict:=dd,data:=.seq items n,slots:=sl }/\s.heap.get? b=some { cls:=.type "list", dict:=dd2,data:=.seq items2 n2,slots:=sl2 } /\
    R (.ok (.ret (.bool (dQ ns ms)))) s):=by
 intro prog w A R s h;obtain⟨hp,g,d,tk,os⟩:=s;obtain⟨hl,hb,h⟩:=h;have f3:=AutoSeq1.sub_list_list
 wp_walk using wpAny_loadPart' hl,wpAny_loadPart' hb
 exact⟨plainId_quiet plain_eq_loop _,codeAny_builtin entry_eq_loop (by
  rw[Around.under_plainId plain_eq_loop _];exact wG l b items items2 n n2 dd dd2 sl sl2 ns ms hi hj _ 0 rfl (Sl _) (Sl _) prog w A R _ ⟨hl,hb,h⟩)⟩
end
end HT
namespace Mr
open PySem PySem.Spec PyProof.Rows L2
section
open HT
theorem tR:∀xs ys:List Int,dQ xs ys=true->dQ ys xs=false
 | [],[],_=>rfl
 | [],_::_,_=>rfl
 |_::_,[],h=>by cases h
 |x::xs,y::ys,h=>by
  rw[kq]at h ⊢
  by_cases e:x=y
  .rw [if_pos e]at h;rw[if_pos e.symm];exact tR xs ys h
  .rw [if_neg e]at h;rw[if_neg (Ne.symm e)];have h':x<y:=of_decide_eq_true h;exact decide_eq_false (by lia)
theorem pV:∀xs ys zs:List Int,dQ ys xs=false->dQ zs ys=false->dQ zs xs=false
 | [],[],[],_,_=>rfl
 | [],[],_::_,_,h=>by exact h
 | [],_::_,[],_,h=>by cases h
 | [],_::_,_::_,_,_=>rfl
 |_::_,[],_,h,_=>by cases h
 |_::_,_::_,[],_,h=>by cases h
 |x::xs,y::ys,z::zs,h1,h2=>by
  rw[kq]at h1 h2 ⊢
  by_cases e1:y=x
  .rw [if_pos e1]at h1;subst e1
   by_cases e2:z=y
   .rw [if_pos e2]at h2 ⊢;exact pV xs ys zs h1 h2
   .rw [if_neg e2]at h2 ⊢;exact h2
  .rw [if_neg e1]at h1;have h1':¬ y<x:=of_decide_eq_false h1
   by_cases e2:z=y
   .rw [if_neg (by lia)]
    exact decide_eq_false (by lia)
   .rw [if_neg e2]at h2;have h2':¬ z<y:=of_decide_eq_false h2;rw[if_neg (by lia)]
    exact decide_eq_false (by lia)
theorem yL:∀xs ys:List Int,dQ xs ys=false->dQ ys xs=false->xs=ys
 | [],[],_,_=>rfl
 | [],_::_,h,_=>by cases h
 |_::_,[],_,h=>by cases h
 |x::xs,y::ys,h1,h2=>by
  rw[kq]at h1 h2
  by_cases e:x=y
  .rw [if_pos e]at h1;rw[if_pos e.symm]at h2;rw[e,yL xs ys h1 h2]
  .rw [if_neg e]at h1;rw[if_neg (Ne.symm e)]at h2;have h1':¬ x<y:=of_decide_eq_false h1;have h2':¬ y<x:=of_decide_eq_false h2;lia
def Hr(x y:List Int):Bool:=!HT.dQ y x
theorem DL(x y z:List Int) (h1:Hr x y=true) (h2:Hr y z=true):Hr x z=true:=by
 unfold Hr at *;simp only[V7]at *;exact pV x y z h1 h2
theorem Cu(x y:List Int):(Hr x y || Hr y x)=true:=by
 unfold Hr;cases h:HT.dQ y x with
 |false=>rfl
 |true=>rw[tR y x h];rfl
def dw(rs:List (List Int)):List (List Int):=rs.mergeSort Hr
theorem aV(rs:List (List Int)):(dw rs).Perm rs:=VU _ _
theorem nI(rs:List (List Int)):(dw rs).Pairwise (fun x y=>HT.dQ y x=false):=by
 refine(Vx DL Cu rs).imp fun {a b} h=>?_
 unfold Hr at h;simpa using h
theorem uP:∀{xs ys:List (List Int)},xs.Perm ys->xs.Pairwise (fun x y=>HT.dQ y x=false)->ys.Pairwise (fun x y=>HT.dQ y x=false)->xs=ys
 |xs,ys,hp,h1,h2=>SU.eq_of_pairwise (fun a b _ _ e1 e2=>(yL b a e1 e2).symm) h1 h2 hp
theorem AU{xs rs:List (List Int)}(hp:xs.Perm rs) (h:xs.Pairwise (fun x y=>HT.dQ y x=false)):xs=dw rs :=
 uP (hp.trans (aV rs).symm) h (nI rs)
theorem uY{rs ts:List (List Int)}(hp:rs.Perm ts):dw rs=dw ts:=AU ((aV rs).trans hp) (nI rs)
theorem dm(rs:List (List Int)):(dw rs).length=rs.length:=(aV rs).length_eq
def bV(ns:List Int):List Int:=ns.mergeSort (fun x y=>decide (x<=y))
theorem cJ(ns:List Int):(bV ns).Perm ns:=VU _ _
theorem iQ(ns:List Int):(bV ns).Pairwise (·<=·):=by
 refine(Vx (le:=fun x y=>decide (x<=y)) (fun a b c h1 h2=>?_) (fun a b=>?_) ns).imp fun {a b} h=>by simpa using h
 .simp only [decide_eq_true_eq]at *;lia
 .simp only [Wo,decide_eq_true_eq];lia
theorem rR{xs ns:List Int}(hp:xs.Perm ns) (h:xs.Pairwise (·<=·)):xs=bV ns :=
 SU.eq_of_pairwise (fun a b _ _ e1 e2=>Int.le_antisymm e1 e2) h (iQ ns) (hp.trans (cJ ns).symm)
end
def dh(H:Hp) (ps:List Addr) (rs:List (List Int)):Prop:=ps.map H=rs.map (fun r=>some (HO.lst (r.map V.int)))
theorem dh.nil{H:Hp}:dh H [] []:=rfl
theorem dh.length{H:Hp}{ps:List Addr}{rs:List (List Int)}(h:dh H ps rs):ps.length=rs.length:=by
 have:=congrArg S6 h;simpa using this
theorem dh.cons_iff{H:Hp}{ps:List Addr}{rs:List (List Int)}{p:Addr}{r:List Int}:dh H (p::ps) (r::rs)↔H p=some (.lst (r.map V.int))/\dh H ps rs:=by
 unfold dh;rw[Ru,Ru,VG.injEq]
theorem dh.get{H:Hp}{ps:List Addr}{rs:List (List Int)}(h:dh H ps rs) {i:Nat}{p:Addr}(e:ps[i]?=some p):∃r,rs[i]?=some r/\H p=some (.lst (r.map V.int)):=by
 have:=congrArg (fun l=>l[i]?) h
 simp only[gMq,e,Td]at this;cases er:rs[i]? with
 |none=>rw[er]at this;cases this
 |some r=>rw[er]at this;exact⟨r,rfl,RD.inj this⟩
theorem dh.mem{H:Hp}{ps:List Addr}{rs:List (List Int)}(h:dh H ps rs) {p:Addr}(hp:p∈ps):∃r,r∈rs/\H p=some (.lst (r.map V.int)):=by
 obtain⟨i,hi⟩:=List.getElem?_of_mem hp;obtain⟨r,er,e⟩:=h.get hi;exact⟨r,mGq er,e⟩
theorem dh.keep{H H':Hp}{ps:List Addr}{rs:List (List Int)}(h:dh H ps rs) (k:∀p∈ps,H' p=H p):dh H' ps rs:=by
 unfold dh at *;rw[←h];exact mCq k
theorem dh.same{H H':Hp}{ps:List Addr}{rs:List (List Int)}(h:dh H ps rs) (s:bD H H'):dh H' ps rs :=
 h.keep fun p hp=>by
  obtain⟨r,_,e⟩:=h.mem hp;rw[s _ _ e,e]
def Q0:V->Int
 | .int i=>i
 |_=>0
def mI(H:Hp) (p:Addr):List Int:=match H p with
 |some (.lst xs)=>xs.map Q0
 |_=>[]
theorem yd{H:Hp}{p:Addr}{r:List Int}(h:H p=some (.lst (r.map V.int))):mI H p=r:=by
 unfold mI;rw[h];simp only[mPq];exact List.map_id'' (fun _=>rfl) r
theorem dh.fn{H:Hp}{ps:List Addr}{rs:List (List Int)}(h:dh H ps rs):rs=ps.map (mI H):=by
 induction rs generalizing ps with
 |nil =>
  have:=h.length;have:ps=[]:=R9.mp this;rw[this];rfl
 |cons r rs ih =>
  cases ps with
  |nil=>have:=h.length;simp at this
  |cons p ps =>
   obtain⟨h1,h2⟩:=dh.cons_iff.mp h;rw[Ru,←ih h2,yd h1]
theorem dh.fn_row{H:Hp}{ps:List Addr}{rs:List (List Int)}(h:dh H ps rs) {p:Addr}(hp:p∈ps):H p=some (.lst ((mI H p).map V.int)):=by
 obtain⟨r,_,e⟩:=h.mem hp;rw[yd e];exact e
theorem dh.of_fn{H:Hp}{ps:List Addr}(h:∀p∈ps,H p=some (.lst ((mI H p).map V.int))):dh H ps (ps.map (mI H)):=by
 unfold dh;rw[mPq];exact mCq h
theorem dh.perm{H:Hp}{ps qs:List Addr}{rs:List (List Int)}(h:dh H ps rs) (hp:qs.Perm ps):∃ts,dh H qs ts/\ts.Perm rs/\ts=qs.map (mI H) :=
 ⟨_,dh.of_fn fun p m=>h.fn_row (hp.mem_iff.mp m),by rw[h.fn];exact hp.map _,rfl⟩
theorem dh.free{H H':Hp}{ps:List Addr}{rs:List (List Int)}(h:dh H' ps rs) {q:Addr}(n:H' q=none):q∉ps:=fun m=>by
 obtain⟨r,_,e⟩:=h.mem m;rw[n]at e;cases e
theorem vz:∀{ps:List Addr}{vs:List Value},bo (ps.map V.ref) vs->vs=ps.map S8
 | [],vs,r=>by cases r;rfl
 |p::ps,vs,r=>by
  rw[Ru]at r;cases r with
  |cons h1 h2 =>
   have e:_=S8 p:=h1;rw[e,vz h2];rfl
theorem vm:∀(ps:List Addr),bo (ps.map V.ref) (ps.map S8)
 | []=>.nil
 |p::ps=>.cons rfl (vm ps)
def qe:Value->Addr
 | .ref p=>p
 |_=>0
def intOf:Value->Int
 | .int i _=>i
 |_=>0
theorem wa{vs:List Value}{ns:List Int}(h:IntsAre vs ns):ns=vs.map intOf/\∀v∈vs,∃a t,v = .int a t:=by
 induction h with
 |nil=>exact⟨rfl,fun v hv=>by cases hv⟩
 |cons a t _ ih =>
  refine⟨by rw[Ru,←ih.1];rfl,fun v hv=>?_⟩
  rcases Rl.mp hv with rfl|hv
  .exact ⟨a,t,rfl⟩
  .exact ih.2 v hv
theorem vals_ints:∀{vs:List Value},(∀v∈vs,∃a t,v = .int a t)->bo ((vs.map intOf).map V.int) vs
 | [],_=>.nil
 |v::vs,h=>by
  obtain⟨a,t,rfl⟩:=h _ (Rq ..);exact .cons ⟨t,rfl⟩ (vals_ints fun v hv=>h v (mCo _ hv))
theorem JB{M:Model}{A:Around}{E:Value->Shared->Prop}{s:Shared}{vs:List Value}{T:String}{Q:SortKind->Shared->Prop}(h2:2<=vs.length) (hT:∀v∈vs,W.Looks M s.heap (typeOf v) (.type T)) (hT1:(Vr T != Vr "tuple")=true) (hT2:(Vr T == Vr T)=true) (h:Q oneType' s) :
  wpAny M A (keyKind' vs.toArray) Q E s:=W.kas_kind h2 hT hT1 hT2 h
def O8(x y:Keyed):Bool:=match x.1,y.1 with
 | .int a _,.int b _=>decide (a<b)
 |_,_=>false
theorem M1(prog:Program) (w:World) (A:Around) (s:Shared):MrS.mz prog w A s oneType' (fun x=>∃a t,x.1 = .int a t) O8 where
 ask:=by
  rintro⟨_,x⟩ ⟨_,y⟩ ⟨a,t,e1⟩ ⟨b,u,e2⟩ E Q q;dsimp only at e1 e2;subst e1 e2;rw[keyLt'_oneType];exact oneLt_int q
 asym:=by
  rintro⟨_,x⟩ ⟨_,y⟩ ⟨a,t,e1⟩ ⟨b,u,e2⟩ h;dsimp only at e1 e2;subst e1 e2;have h':a<b:=of_decide_eq_true h;exact decide_eq_false (by lia)
 trans:=by
  rintro⟨_,x⟩ ⟨_,y⟩ ⟨_,z⟩ ⟨a,t,e1⟩ ⟨b,u,e2⟩ ⟨c,v,e3⟩ h1 h2;dsimp only at e1 e2 e3;subst e1 e2 e3;have h1':¬ b<a:=of_decide_eq_false h1;have h2':¬ c<b:=of_decide_eq_false h2;exact decide_eq_false (by lia)
def Qp(r:Addr->List Int) (x y:Keyed):Bool:=match x.1,y.1 with
 | .ref p,.ref q=>HT.dQ (r p) (r q)
 |_,_=>false
theorem Pi{prog:Program}{w:World}{A:Around}{s:Shared}{ps:List Addr}{r:Addr->List Int}(hu:A.units<cLine)
  (h:∀p∈ps,∃vs:List Value,PlainL s.heap p vs.toArray/\IntsAre vs (r p)):MrS.mz prog w A s oneType' (fun x=>∃p,x.1 = .ref p/\p∈ps) (Qp r) where
 ask:=by
  rintro⟨_,x⟩ ⟨_,y⟩ ⟨p,e1,hp⟩ ⟨q,e2,hq⟩ E Q k;dsimp only at e1 e2;subst e1 e2;obtain⟨vs,⟨o,n,ho,hc,hd0,hd⟩,hi⟩:=h p hp;obtain⟨ws,⟨o2,n2,ho2,hc2,hd02,hd2⟩,hj⟩:=h q hq;obtain⟨cls,dd,data,sl⟩:=o;obtain⟨cls2,dd2,data2,sl2⟩:=o2;simp only at hc hd0 hd hc2 hd02 hd2;subst hc hd0 hd hc2 hd02 hd2;rw[keyLt'_oneType,oneLt'_eq];simp only[if_true];refine wpAny_bind (wpAny_cRoomFor hu ?_);refine wpAny_bind (wpAny_callSpecialIfBound?_slot ⟨_,ho,rfl⟩ F.slot_list_lt (call_meets F.slot_list_lt ⟨_,ho,rfl⟩ F.entry_list_lt (F.args_list_lt_2 _ _)
   (HT.vP p q vs.toArray ws.toArray n n2 none none sl sl2 (r p) (r q) (by simpa using hi) (by simpa using hj)) ⟨ho,ho2,?_⟩))
  exact wpAny_truthy_bool k
 asym:=by
  rintro⟨_,x⟩ ⟨_,y⟩ ⟨a,e1,_⟩ ⟨b,e2,_⟩ h;dsimp only at e1 e2;subst e1 e2;exact tR _ _ h
 trans:=by
  rintro⟨_,x⟩ ⟨_,y⟩ ⟨_,z⟩ ⟨a,e1,_⟩ ⟨b,e2,_⟩ ⟨c,e3,_⟩ h1 h2;dsimp only at e1 e2 e3;subst e1 e2 e3;exact pV _ _ _ h1 h2
section
variable {X:Cx}
theorem oX:mL X (.builtin "sorted") (fun xs H Q=>∃(a:Addr) (ns:List Int),xs=[.ref a]/\dZ X.K H a (ns.map V.int)/\∀p,H p=none->Q (.ref p) (cI H p (.lst ((bV ns).map V.int)))):=by
 intro aa s σ H xs us Q I r h;obtain⟨a,ns,rfl,hS,q⟩:=h;obtain⟨u,rfl,ru⟩:=oh r;cases ru;obtain⟨vs,hl,hi,hz⟩:=yH I hS;obtain⟨en,hv⟩:=wa hi;have hlen:=hi.length;refine MrS.tQ (Pk:=fun x=>∃a t,x.1 = .int a t) (lt:=O8) hl (by lia) (fun s' _=>⟨fun h2 Q q=>?_,M1 _ _ _ _⟩) (fun v m=>hv v m) fun out h' n' o1 o2 o3 o4=>?_
 .match vs,hi,h2 with
  | [],_,h2=>simp at h2
  | [_],_,h2=>simp at h2
  |v₁::v₂::rest,hi,_ =>
   rw[keyKind_ints hi];exact wpAny_pure q
 .have ho:∀v∈out,∃a t,v = .int a t:=fun v m=>hv v (o1.mem_iff.mp m)
  have e:out.map intOf=bV ns:=by
   refine rR (by rw[en];exact o1.map _) ?_
   rw[RW];refine o2.imp_of_mem fun {x y} mx my h=>?_
   obtain⟨a,t,rfl⟩:=ho x mx;obtain⟨b,u,rfl⟩:=ho y my;have h':¬ b<a:=of_decide_eq_false h;show a<=b;lia
  have hp:H (s.heap.objs.size+1)=none:=I.hok.fresh (Tz _);refine⟨.ref (s.heap.objs.size+1),_,I.laid (t':=s.toks) o3 (Tz _) (show cW X.prog X.w _ h' _ (.lst ((bV ns).map V.int)) from ⟨?_,out,n',?_,o4⟩),rfl,q _ hp⟩
  .rw [lMq,(cJ ns).length_eq];exact hz
  .rw [←e];exact vals_ints ho
theorem vU(hu:X.A.units+64<cLine):mL X (.builtin "sorted") (fun xs H Q=>∃(a:Addr) (ps:List Addr) (rs:List (List Int)),xs=[.ref a]/\dZ X.K H a (ps.map V.ref)/\dh H ps rs /\
  ∀p qs,H p=none->qs.Perm ps->dh (cI H p (.lst (qs.map V.ref))) qs (dw rs)->Q (.ref p) (cI H p (.lst (qs.map V.ref)))):=by
 intro aa s σ H xs us Q I r h;obtain⟨a,ps,rs,rfl,hS,hE,q⟩:=h;obtain⟨u,rfl,ru⟩:=oh r;cases ru;obtain⟨its,rv,hl,hz⟩:=I.list hS;have ei:=vz rv;subst ei;have hrow:∀p∈ps,∃vs:List Value,PlainL s.heap p vs.toArray/\IntsAre vs (mI H p):=fun p hp=>by
  obtain⟨its,rv,pl,_⟩:=I.list (dZ.of (hE.fn_row hp));exact⟨its,pl,mZ rv⟩
 have keepL:∀(s':Shared),(∀b o,s.heap.get? b=some o->s'.heap.get? b=some o)->∀p∈ps,∃vs:List Value,PlainL s'.heap p vs.toArray/\IntsAre vs (mI H p):=fun s' k p hp=>by
  obtain⟨vs,⟨o,n,ho,rest⟩,hi⟩:=hrow p hp;exact⟨vs,⟨o,n,k _ _ ho,rest⟩,hi⟩
 refine MrS.tQ (Pk:=fun x=>∃p,x.1 = .ref p/\p∈ps) (lt:=Qp (mI H)) hl.isList (by simpa using hz) (fun s' k=>⟨fun h2 Q q=>?_,Pi (by show X.A.units+1+1<cLine;lia) (keepL s' k)⟩) (fun v m=>?_) fun out h' n' o1 o2 o3 o4=>?_
 .refine JB (T := "list") h2 (fun v hv=>?_) (by rfl) (by rfl) q
  obtain⟨p,hp,rfl⟩:=mMq.mp hv;obtain⟨vs,pl,_⟩:=keepL s' k p hp;intro A Q E s2 k2 q2;obtain⟨o,ho,hc,_⟩:=pl.isList;exact wpAny_typeOf (T := "list") ⟨o,k2 _ _ ho,hc⟩ q2
 .obtain ⟨p,hp,rfl⟩:=mMq.mp m;exact⟨p,rfl,hp⟩
 .have ho:∀v∈out,∃p∈ps,v = .ref p:=fun v m=>by
   obtain⟨p,hp,rfl⟩:=mMq.mp (o1.mem_iff.mp m);exact⟨p,hp,rfl⟩
  have eo:out=(out.map qe).map S8:=by
   rw[mPq];have e:=mCq (l:=out) (f:=id) (g:=S8∘qe) fun v hv=>by
    obtain⟨p,_,rfl⟩:=ho v hv;rfl
   rw[←e,TR]
  have hq:(out.map qe).Perm ps:=by
   have:=o1.map qe;rw[mPq,show qe∘S8=id from rfl,TR]at this
   exact this
  have hp:H (s.heap.objs.size+1)=none:=I.hok.fresh (Tz _);generalize out.map qe=qs at eo hq;obtain⟨ts,e1,e2,e3⟩:=hE.perm hq;have es:ts=dw rs:=by
   refine AU e2 ?_;rw[e3,RW];rw[eo,RW]at o2;exact o2
  refine⟨.ref (s.heap.objs.size+1),_,I.laid (t':=s.toks) o3 (Tz _) (show cW X.prog X.w _ h' _ (.lst (qs.map V.ref)) from ⟨?_,out,n',?_,o4⟩),rfl,q _ qs hp hq (by rw[←es];exact e1.same (lV hp))⟩
  .rw [lMq,hq.length_eq];simpa using hz
  .rw [eo];exact vm qs
def jo(r:List Int):PyData:=.list (r.map PyData.int)
def nX(rs:List (List Int)):PyData:=.list (rs.map jo)
theorem qP:∀rs:List (List Int),PyData.canLayAll0 (rs.map jo)=true
 | []=>by simp[PyData.canLayAll0]
 |r::rs=>by simp[PyData.canLayAll0,jo,PyData.canLay0,W.canLayAll0_ints r,qP rs]
theorem uq:∀rs:List (List Int),PyData.depthAll (rs.map jo)<=3
 | []=>by simp[PyData.depthAll]
 |r::rs=>by
  have h1:=uq rs;have h2:=W.depthAll_ints r;simp only[Ru,PyData.depthAll,jo,PyData.depth];lia
theorem qv(rs:List (List Int)):SeqAt.shaped (nX rs)=true:=by
 have h1:=uq rs;have h2:PyData.depth (nX rs)<=64:=by simp only[nX,PyData.depth];lia
 show (PyData.canLay0 (nX rs) && decide (PyData.depth (nX rs)<=64))=true;rw[TJ];exact⟨by simp only[nX,PyData.canLay0];exact qP rs,decide_eq_true h2⟩
theorem tO:∀rs ts:List (List Int),SeqAt.noMixAll (rs.map jo) (ts.map jo)=true
 | [],[]=>by simp[SeqAt.noMixAll]
 | [],_::_=>by simp[SeqAt.noMixAll]
 |_::_,[]=>by simp[SeqAt.noMixAll]
 |r::rs,t::ts=>by simp[SeqAt.noMixAll,jo,SeqAt.noMix,W.noMix_ints r t,tO rs ts]
theorem vn:∀rs ts:List (List Int),PySem.Spec.sameAll (rs.map jo) (ts.map jo)=decide (rs=ts)
 | [],[]=>by simp[PySem.Spec.sameAll]
 | [],_::_=>by simp[PySem.Spec.sameAll]
 |_::_,[]=>by simp[PySem.Spec.sameAll]
 |r::rs,t::ts=>by
  simp only[Ru,PySem.Spec.sameAll,jo,PySem.Spec.same,W.same_ints r t];rw[vn rs ts]
  by_cases h:r=t <;> simp[h]
end
end Mr
namespace Mr
open PySem L2
structure Bt (mg:Str->Option Value):Prop where
 len:mg "len" = none
 min:mg "min" = none
 max:mg "max" = none
 abs:mg "abs" = none
 all:mg "all" = none
 sorted:mg "sorted" = none
 isi:mg "isinstance" = none
 list:mg "list" = none
 int:mg "int" = none
 bool:mg "bool" = none
 str:mg "str" = none
 dict:mg "dict" = none
 zip:mg "zip" = none
 enum:mg "enumerate" = none
 range:mg "range" = none
 reversed:mg "reversed" = none
structure Fn (P:Program) (w:World) (K:W.Frag) (mg:Str->Option Value) (base:Heap) (k:Nat) (x:Str) (st:Stmt) (ps:List Str) (sp:Sp) (f:Addr) (fd:FuncData):Prop where
 D:pK K mg x st ps f fd
 ok:qT P w K mg base Mk k f fd ps sp
theorem jm.units65{k:Nat}{A:Around}(r:jm k A):A.units+65<cLine:=by have:=r.un;lia
section
variable {X:Cx}{k:Nat}{f:Addr}{fd:FuncData}{ps:List Str}{sp:Sp}{x:Str}{p pos:Pos}{e:Expr}{es:List Expr}{t:TA}{st:Stmt}
theorem cg(G:Fn X.prog X.w X.K X.mg X.base k x st ps sp f fd) (hr:jm k X.A) (ha:PA X (e::es) t) (hg:Gl X x:=by rfl) (hdb:(x == ("__debug__" : Str))=false:=by decide)
  (he:starEach (e::es) X.env=(false,eval e X.env)::starEach es X.env:=by rfl) (hpl:(backTo pos (starEach es X.env)).any (·.1)=false:=by rfl) :
  PE X (.Call (.Name x p) (e::es) [] pos) (BI sp [] E0 t):=JA G.ok hr hg G.D.m G.D.F.kp G.D.b .nil M8 ha hdb he hpl
end
section
variable (K:W.Frag)
def Mh(i:Int):Bool:=decide (i≠0) && decide ((if i<0 then -i else i)<10 ^ 60)
def Bz:Sp:=fun vs H Q _=>∃(a:Addr) (ns:List Int),vs=[.ref a]/\dZ K H a (ns.map V.int)/\ns.length<=63/\∀H',Q (.bl true) H'
end
theorem bz{α:Type}{l:List α}{i:Nat}{x:α}(h:l[i]?=some x):l.take (i+1)=l.take i++[x]:=by
 rw[TZ,h];rfl
end Mr
namespace Xe
open PySem PySem.Spec PySem.W PyProof.Rows L2 Mr
abbrev QI(K:Frag) (C:Addr):Bool:=findIn K (.ref C) "__setattr__" == some (some (.builtin "object.__setattr__")) && findIn K (.ref C) "__getattribute__" == some (some (.builtin "BaseException.__getattribute__")) &&
 findIn K (.ref C) "__getattr__" == some none && findIn K (.ref C) "__class__" == some (some (.builtin "object.__class__"))
def Lb(K:Frag) (c:Str) (C:Addr) (bm:List Value):Bool:=match K.lookup C with
 |some ⟨.type "type", _,.cls cd,sl⟩=>(match sl.toList with
  | [_,_,_,_,some (.builtin n),_]=>cd.name == c && cd.mro == .ref C::bm && n == "ValueError.__new__" && !cd.hasDel && cd.hasDict && tailIn K OG bm
  |_=>false)
 |_=>false
structure P4 (K:Frag) (c:Str) (C M:Addr):Prop where
 nm:nsIn K mainGlobals c=some (some (.ref C))
 nmM:nsIn K mainGlobals "MapError" = some (some (.ref M))
 xc:Lb K c C (.ref M::OG)=true
 xm:Lb K "MapError" M OG=true
 lk:QI K C=true
def QZ(K:Frag) (c:Str) (C:Addr):Prop:=nsIn K mainGlobals c=some (some (.ref C))/\((∃M,P4 K c C M)∨(c = "MapError" /\ Lb K "MapError" C OG=true))
def Qo(e C:Addr) (od:Option Addr):HO:=.ext fun h=>∃o vs,h.get? e=some o/\o.cls = .ref C/\o.dict=od/\o.data = .fields vs
section
variable {X:Cx}
theorem Kl{kvs:List (aN×V)}{vs:List (aN×Value)}(r:KV kvs vs):∀{i:Nat}{p:aN×V},kvs[i]?=some p->∃u,vs[i]?=some (p.1,u)/\bR p.2 u:=by
 induction r with
 |nil=>intro i p h;simp at h
 | @cons a b _ _ r t ih =>
  intro i p h;cases i with
  |zero=>simp at h;subst h;exact⟨b.2,by simp[r.1],r.2⟩
  |succ i=>obtain⟨u,g1,g2⟩:=ih (by simpa using h);exact⟨u,by simpa using g1,g2⟩
end
end Xe
namespace Xe
open PySem
end Xe
namespace Xe
open PySem PySem.Spec PySem.W PyProof.Rows L2 Mr
end Xe
namespace Xe
open PySem
end Xe
namespace Xe
open PySem PySem.Spec PySem.W PyProof.Rows L2 Mr
end Xe
namespace PySem.SCG
open PySem Builtin Builtin.Str
end PySem.SCG
namespace Mr
open PySem PySem.Spec PyProof.Rows L2
section
variable {X:Cx}
theorem yB:∀{bs:List Bool}{us:List Value},bo (bs.map V.bl) us->us=bs.map U6
 | [],us,r=>by cases r;rfl
 |b::bs,us,r=>by
  cases r with
  |cons r1 r2=>rw[yB r2];cases r1;rfl
theorem xC(hc:X.calm=true):mL X (.builtin "all") (fun xs H Q=>∃(a:Addr) (bs:List Bool),xs=[.ref a]/\dZ X.K H a (bs.map V.bl)/\Q (.bl (bs.all id)) H):=by
 intro aa s σ H xs us Q I r h;obtain⟨a,bs,rfl,hS,q⟩:=h;obtain⟨u,rfl,ru⟩:=oh r;cases ru;obtain⟨its,rv,p,hz⟩:=I.list hS;obtain rfl:=yB rv;have hl:=p.isList;have hlt:a<s.heap.objs.size:=by obtain⟨_,e,_⟩:=hl;exact Ro e
 refine call_all_walk (wpAny_pyIter_list hl ?_);refine⟨s.heap.objs.size,[s.heap.objs.size,a],[s.heap.objs.size],(bs.map U6).toArray.size,_,_,fun i=>(bs[i]?).getD true,rfl,Walks.list (A:=X.A.in1) (I.ok.hd hc) _ a (RI hlt) _,⟨⟨_,Sk _ rfl,rfl,rfl⟩,hl.push _⟩,fun i v s' Q' E' hP hQ=>?_,fun h' tk hk=>?_⟩
 .have e:(bs.map U6)[i]?=some v:=by simpa using hP
  rw[gMq]at e;cases hb:bs[i]? with
  |none=>rw[hb]at e;cases e
  |some b =>
   rw[hb]at e;cases e;simp only[hb,UQ]at hQ;exact wpAny_truthy_bool hQ
 .have e:((Sg (bs.map U6).toArray.size).all fun i=>(bs[i]?).getD true)=bs.all id:=by
   rw[RH,lMq,RZ,Vt,Vt];constructor
   .intro z b hb;obtain⟨i,hi,rfl⟩:=List.getElem_of_mem hb;have:=z i (Tq.mpr hi);simpa [gEg hi] using this
   .intro z i hi;have hi':=Tq.mp hi;have:=z bs[i] (gRq hi');simpa [gEg hi'] using this
  rw[e];refine⟨.bl _,H,I.kept (t':=tk) fun b ob z=>hk b ob (fun m=>?_) (Rr _ z),rfl,q⟩
  rw[mSq.mp m]at z;exact TV _ (Ro z)
end
end Mr
namespace Mr
open PySem PyProof.Rows L2
section
variable {X:Cx}
def FS(_ j:Int):Prop:=0<j/\j.natAbs.log2<9000
theorem Fw:uG X (binaryOp .FloorDiv) (rI FS fun i j=>.int (i / j)):=Od fun i j _ _ _ _ _ hc q=>by
 have h1:(0:Int)<j:=hc.1;exact floordiv_int (by lia) (by rw[Vf i (by lia)];exact q) (.inl (PyProof.noPylong_of_log2 hc.2))
end
end Mr
namespace Mr
open PySem L2
end Mr
namespace Mr
open PySem PySem.Calls PySem.Spec PyProof.Rows L2
end Mr
namespace MrS
open PySem PySem.W PyProof.Rows
section
variable {prog:Program}{w:World}{A:Around}{E:Value->Shared->Prop}{s:Shared}{Pk:Keyed->Prop}{lt:Keyed->Keyed->Bool}{T:String}{r d:Addr}{n:Nat}{P:Nat->Value->Prop}{OK:Heap->Prop}
theorem yl{Q:List Value->Shared->Prop}(K:KdlSrc prog w T r d n P OK) (hh:A.handled=none) (hok:OK s.heap) (hn:n<=sizeLine)
  (h:∀h' tk (acc:Array Value),(∀b o,s.heap.get? b=some o->h'.get? b=some o)->s.heap.objs.size<h'.objs.size->ItemsOf P acc n->Q acc.toList { s with heap:=h',toks:=tk }) :
  wpAny (model prog w) A (collect (.ref r)) Q E s:=by
 unfold collect;refine wpAny_bind (wpAny_runValue (codeAny_builtin entry_proto_collect' ?_));show wpAny _ _ (do again (.builtin "list.__iadd__" ⟨[←newList [],.ref r],[]⟩)) _ _ s
 refine wpAny_bind (wpAny_newList (wpAny_pure ⟨Code.quiet_builtin _ (by decide +kernel),codeAny_builtin entry_list_iadd' ?_⟩))
 show wpAny _ _ (Builtin.List.listExtendWith (.ref s.heap.objs.size) (.ref r) (.ref s.heap.objs.size)) _ _ { s with heap:=s.heap.push (seqObj "list" #[] 0) }
 have hlt:=K.there _ hok;have hS0:(s.heap.push (seqObj "list" #[] 0)).get? s.heap.objs.size=some (seqObj "list" #[] 0):=Sk _ rfl;refine kdl_extend (A:=A) (R:=fun r s'=>match r with
   | .ok (.ret v)=>wpAny (model prog w) A (match v with
    | .ref a=>do
     let o ←load a
     match o.data with
     | .seq xs _=>pure xs.toList
     |_=>unsupported "internal:collect"
    |_=>unsupported "internal:collect") Q E s'
   | .ok _=>False
   | .error e=>E e s') (s:={ s with heap:=s.heap.push (seqObj "list" #[] 0) }) K hh (K.keep _ _ hok fun b _ o e=>Rr _ e) s.heap.objs.size (Tf hlt.1) (Tf hlt.2) (.ref s.heap.objs.size) 0 hS0 (fun h' tk acc c hk hS hi=>?_) hn
 show wpAny (model prog w) A (do
   let o ←load s.heap.objs.size
   match o.data with
   | .seq xs _=>pure xs.toList
   |_=>unsupported "internal:collect") Q E { s with heap:=h',toks:=tk }
 refine wpAny_bind (wpAny_load hS ?_);exact wpAny_pure (h h' tk acc (fun b o e=>hk b o (RI (Ro e)) (Rr _ e)) (Ro hS) hi)
theorem zk{Q:Value->Shared->Prop}(K:KdlSrc prog w T r d n P OK) (hh:A.handled=none) (hok:OK s.heap) (hn:n<=sizeLine)
  (hC:∀(vs:List Value),vs.length=n->(∀j v,vs[j]?=some v->P j v)->∀s':Shared,(2<=vs.length->∀Q:SortKind->Shared->Prop,Q oneType' s'->wpAny (model prog w) A.in1.in1 (keyKind' vs.toArray) Q E s')/\mz prog w A.in1.in1 s' oneType' Pk lt/\∀v∈vs,Pk (v,v))
  (h:∀(vs out:List Value) (h':Heap) (p:Addr) (tk n':Nat),vs.length=n->(∀j v,vs[j]?=some v->P j v)->out.Perm vs->out.Pairwise (fun x y=>lt (y,y) (x,x)=false)->(∀b o,s.heap.get? b=some o->h'.get? b=some o)->s.heap.objs.size<=p ->
   h'.get? p=some (seqObj "list" out.toArray n')->Q (.ref p) { s with heap:=h',toks:=tk }) :
  wpAny (model prog w) A (call (.builtin "sorted") [.ref r]) Q E s:=by
 refine Calls.call_function_entry kind_sorted plain_sorted entry_sorted (args_sorted1 _) ?_;unfold Builtin.«sorted»;refine wpAny_bind (m:=checkCount "sorted" 1 1 _) (wpAny_pure ?_);refine wpAny_bind (yl K hh hok hn fun h0 tk acc hk0 hsz0 hi=>?_)
 have hl:acc.toList.length=n:=by rw[RA];exact hi.1
 have hP:∀j v,acc.toList[j]?=some v->P j v:=fun j v e=>hi.2 j v (by rw[←RJ];exact e)
 have hs:acc.toList.length<=sizeLine:=by rw[hl];exact hn
 generalize acc.toList=vs at hl hP hs;refine wpAny_bind (wpAny_newList ?_ hs);have hoL:(h0.push (seqObj "list" vs.toArray 0)).get? h0.objs.size=some (seqObj "list" vs.toArray 0):=Sk _ rfl;show wpAny _ _ _ _ _ { s with heap:=h0.push (seqObj "list" vs.toArray 0),toks:=tk }
 have hsz:s.heap.objs.size<=h0.objs.size:=Te hsz0;have k1:∀b o,s.heap.get? b=some o->(h0.push (seqObj "list" vs.toArray 0)).get? b=some o:=fun b o e=>Rr _ (hk0 b o e)
 have hlt:∀b o,s.heap.get? b=some o->b≠h0.objs.size:=fun b o e=>RI (Ro (hk0 b o e))
 generalize h0.push (seqObj "list" vs.toArray 0)=G at hoL k1 ⊢
 clear hsz0
 generalize h0.objs.size=p at hoL hsz hlt ⊢;have k2:∀b o,s.heap.get? b=some o->(gj G p vs).get? b=some o:=fun b o e=>by
  refine Rr _ (Rr _ ?_);rw[Ua _ _ _ _ (hlt b o e)];exact k1 b o e
 obtain⟨q1,q2,q3⟩:=hC vs hl hP { s with heap:=gj G p vs,toks:=tk }
 refine wpAny_bind (wpAny_holding (wpAny_call_entry slot_list_sort ⟨_,hoL,rfl⟩ entry_list_sort (mK (s:={ s with heap:=G,toks:=tk }) (Pk:=Pk) (lt:=lt) hoL hs q1 q2 (fun x hx=>?_) fun xs a1 a2=>⟨_,rfl,?_⟩) (args_list_sort _)))
 .obtain ⟨m1,m2⟩:=iV hx;have:x=(x.1,x.1):=Wn rfl m2;rw[this];exact q3 _ m1
 .obtain ⟨v1,v2⟩:=qK a1 a2;obtain⟨e1,ho1⟩:=Bd vs hoL;obtain⟨n1,g1⟩:=Bm (xs.map (·.2)) ho1;refine wpAny_pure ⟨_,rfl,h vs _ (sortedHeap G p vs (xs.map (·.2))) p tk n1 hl hP v1 v2 (fun b o e=>?_) hsz ?_⟩
  .unfold sortedHeap;rw[Ua _ _ _ _ (hlt b o e)];exact k2 b o e
  .rw [show (xs.map (·.2)).toList.toArray=xs.map (·.2) from VQ]
   exact g1
end
end MrS
namespace Mr
open PySem PySem.W PySem.Spec PyProof.Rows L2
section
variable {X:Cx}
theorem B5:∀{us:List Value}{ns:List Int},us.length=ns.length->(∀(j:Nat) (v:Value) (n:Int),us[j]?=some v->ns[j]?=some n->∃t,v=VE n t)->IntsAre us ns
 | [],[],_,_=>.nil
 | [],_::_,h,_=>by simp at h
 |_::_,[],h,_=>by simp at h
 |u::us,n::ns,h,g=>by
  obtain⟨t,rfl⟩:=g 0 u n rfl rfl;exact .cons n t (B5 (by simpa using h) fun j v m e1 e2=>g (j+1) v m (by simpa using e1) (by simpa using e2))
theorem JL:∀{kvs:List (aN×V)}{ws:List (aN×Value)},KV kvs ws->kvs.map (·.1)=ws.map (·.1):=fun {kvs ws} r=>by
 induction r with
 |nil=>rfl
 |cons a b ih=>rw[Ru,Ru,ih,a.1]
theorem og(hc:X.calm=true):mL X (.builtin "sorted") (fun xs H Q=>∃(a:Addr) (kvs:List (aN×V)) (ns:List Int),xs=[.ref a]/\H a=some (.dK kvs)/\kvs.map (·.1)=ns.map RF/\∀p,H p=none->Q (.ref p) (cI H p (.lst ((bV ns).map V.int)))):=by
 intro aa s σ H xs us Q I r h;obtain⟨a,kvs,ns,rfl,ha,hk,q⟩:=h;obtain⟨u,rfl,ru⟩:=oh r;cases ru;obtain⟨hz,sa,vs,kv,d⟩:=(show cW X.prog X.w H s.heap a (.dK kvs) from I.hok a _ ha)
 obtain⟨ep,da⟩:=d.dictAt;have hl:=Paired.length kv;have hlen:ns.length=vs.length:=by
  have:=congrArg S6 hk;rw[lMq,lMq]at this;rw[←this,hl]
 have hkv:vs.map (·.1)=ns.map RF:=by rw[←JL kv,hk]
 have hI:∀us:List Value,us.length=vs.length->(∀(j:Nat) (v:Value),us[j]?=some v->∃k x,vs[j]?=some (k,x)/\(bZ X.prog X.w).is k v=true)->IntsAre us ns:=fun us h1 h2=>B5 (by rw[h1,hlen]) fun j v m e1 e2=>by
  obtain⟨k,x,g1,g2⟩:=h2 j v e1;have e3:(vs.map (·.1))[j]?=some k:=by rw[gMq,g1];rfl
  rw[hkv,gMq,e2]at e3;have e4:(RF m:aN)=k:=by simpa using e3
  subst e4;rcases bX (k:=RF m) (v:=v) g2 with ⟨i,t,e5,e6⟩|⟨z,t,e5,_⟩
  .cases e5;exact⟨t,e6⟩
  .cases e5
 refine MrS.zk (kdl_dict (knd:=bZ X.prog X.w) (d:=a) (kvs:=vs) (ep:=ep) sa) (I.ok.hd hc) da (by rw[←hl];exact hz) (Pk:=fun x:Keyed=>∃a t,x.1=VE a t) (lt:=O8) (fun us h1 h2 s'=>⟨fun h3 Q q=>?_,M1 _ _ _ _,fun v m=>(wa (hI us h1 h2)).2 v m⟩) fun us out h' p tk n' h1 h2 o1 o2 o3 op o4=>?_
 .have hi:=hI us h1 h2
  match us,hi,h3 with
  | [],_,h3=>simp at h3
  | [_],_,h3=>simp at h3
  |v₁::v₂::rest,hi,_ =>
   rw[keyKind_ints hi];exact wpAny_pure q
 .obtain ⟨en,hv⟩:=wa (hI us h1 h2);have ho:∀v∈out,∃a t,v = .int a t:=fun v m=>hv v (o1.mem_iff.mp m)
  have e:out.map intOf=bV ns:=by
   refine rR (by rw[en];exact o1.map _) ?_
   rw[RW];refine o2.imp_of_mem fun {x y} mx my h=>?_
   obtain⟨a,t,rfl⟩:=ho x mx;obtain⟨b,u,rfl⟩:=ho y my;have h':¬ b<a:=of_decide_eq_false h;show a<=b;lia
  have hp:H p=none:=I.hok.fresh op;refine⟨.ref p,_,I.laid (t':=tk) o3 op (show cW X.prog X.w _ h' _ (.lst ((bV ns).map V.int)) from ⟨?_,out,n',?_,o4⟩),rfl,q _ hp⟩
  .rw [lMq,(cJ ns).length_eq,hlen,←hl];exact hz
  .rw [←e];exact vals_ints ho
end
end Mr
namespace Z
open PySem L2 Mr
abbrev St:=L2.St
inductive D where
 |non|bl (b:Bool)|int (i:Int)|str (x:Str)|ty (n:String)|list (xs:List D)|tup (xs:List D)|dict (kvs:List (aN×D))|scr (ns:List Int)|exc (c:Str) (fs:List (Str×Int))|cls (c:Str)|fd (kvs:List (aN×D))|ins (c:Str) (fs:List (Str×D))
inductive dk (K:W.Frag) (H:Hp):D->V->Prop
 |non:dk K H .non .non
 |bl {b:Bool}:dk K H (.bl b) (.bl b)
 |int {i:Int}:dk K H (.int i) (.int i)
 |str {x:Str}:dk K H (.str x) (.str x)
 |ty {n:String}:dk K H (.ty n) (.ty n)
 |list {p:Addr}{vs:List V}{ds:List D}(h:H p=some (.lst vs)) (l:ds.length=vs.length) (e:∀(i:Nat) (d:D) (v:V),ds[i]?=some d->vs[i]?=some v->dk K H d v):dk K H (.list ds) (.ref p)
 |tup {p:Addr}{vs:List V}{ds:List D}(h:H p=some (.tup vs)) (l:ds.length=vs.length) (e:∀(i:Nat) (d:D) (v:V),ds[i]?=some d->vs[i]?=some v->dk K H d v):dk K H (.tup ds) (.ref p)
 |dict {p:Addr}{kvs:List (aN×V)}{ds:List (aN×D)}(h:H p=some (.dK kvs)) (l:ds.map (·.1)=kvs.map (·.1)) (e:∀(i:Nat) (d:aN×D) (v:aN×V),ds[i]?=some d->kvs[i]?=some v->dk K H d.2 v.2):dk K H (.dict ds) (.ref p)
 |scr {p:Addr}{ns:List Int}(h:dZ K H p (ns.map V.int)):dk K H (.scr ns) (.ref p)
 |exc {c:Str}{fs:List (Str×Int)}{e C M dx:Addr}(rf:Xe.P4 K c C M) (nf:∀p∈fs,W.findIn K (.ref C) p.1=some none) (h:H e=some (Xe.Qo e C (some dx))) (hx:H dx=some (.xd (fs.map fun p=>(p.1,V.int p.2)))):dk K H (.exc c fs) (.ref e)
 |exc0 {c:Str}{e C M:Addr}(rf:Xe.P4 K c C M) (h:H e=some (Xe.Qo e C none)):dk K H (.exc c []) (.ref e)
 |cls {c:Str}{C:Addr}(h:Xe.QZ K c C):dk K H (.cls c) (.ref C)
 |fd {p:Addr}{o:Obj}{kvs:List (aN×V)}{ds:List (aN×D)}(h:H p=some (.frz o (.dK kvs))) (l:ds.map (·.1)=kvs.map (·.1)) (e:∀(i:Nat) (d:aN×D) (v:aN×V),ds[i]?=some d->kvs[i]?=some v->dk K H d.2 v.2):dk K H (.fd ds) (.ref p)
 |ins {c:Str}{a C dx:Addr}{gs:List (Str×V)}{fs:List (Str×D)}(rf:W.nsIn K mainGlobals c=some (some (.ref C))) (h:H a=some (.ins C dx gs)) (l:fs.map (·.1)=gs.map (·.1)) (e:∀(i:Nat) (d:Str×D) (v:Str×V),fs[i]?=some d->gs[i]?=some v->dk K H d.2 v.2):dk K H (.ins c fs) (.ref a)
def bN(K:W.Frag) (H:Hp) (ds:List D) (vs:List V):Prop:=ds.length=vs.length/\∀(i:Nat) (d:D) (v:V),ds[i]?=some d->vs[i]?=some v->dk K H d v
def eN(K:W.Frag) (H:Hp) (ds:List (aN×D)) (kvs:List (aN×V)):Prop:=ds.map (·.1)=kvs.map (·.1)/\∀(i:Nat) (d:aN×D) (v:aN×V),ds[i]?=some d->kvs[i]?=some v->dk K H d.2 v.2
section
variable {K:W.Frag}{H H':Hp}
theorem dk.mono{d:D}{v:V}(h:dk K H d v) (s:bD H H'):dk K H' d v:=by
 induction h with
 |non=>exact .non
 |bl=>exact .bl
 |int=>exact .int
 |str=>exact .str
 |ty=>exact .ty
 |list h l _ ih=>exact .list (s _ _ h) l ih
 |tup h l _ ih=>exact .tup (s _ _ h) l ih
 |dict h l _ ih=>exact .dict (s _ _ h) l ih
 |scr h=>exact .scr (s.seq h)
 |exc rf nf h hx=>exact .exc rf nf (s _ _ h) (s _ _ hx)
 |exc0 rf h=>exact .exc0 rf (s _ _ h)
 |cls h=>exact .cls h
 |fd h l _ ih=>exact .fd (s _ _ h) l ih
 |ins rf h l _ ih=>exact .ins rf (s _ _ h) l ih
theorem bN.mono{ds:List D}{vs:List V}(h:bN K H ds vs) (s:bD H H'):bN K H' ds vs:=⟨h.1,fun i d v a b=>(h.2 i d v a b).mono s⟩
theorem eN.mono{ds:List (aN×D)}{vs:List (aN×V)}(h:eN K H ds vs) (s:bD H H'):eN K H' ds vs:=⟨h.1,fun i d v a b=>(h.2 i d v a b).mono s⟩
theorem bN.nil:bN K H [] []:=⟨rfl,fun i d v a=>by simp at a⟩
theorem bN.cons{d:D}{v:V}{ds:List D}{vs:List V}(h:dk K H d v) (t:bN K H ds vs):bN K H (d::ds) (v::vs):=⟨by simp[t.1],fun i e w a b=>by
 cases i with
 |zero =>
  simp at a b;subst a b;exact h
 |succ i=>exact t.2 i e w (by simpa using a) (by simpa using b)⟩
theorem bN.cons_iff{d:D}{v:V}{ds:List D}{vs:List V}:bN K H (d::ds) (v::vs)↔dk K H d v/\bN K H ds vs :=
 ⟨fun h=>⟨h.2 0 d v rfl rfl,by have:=h.1;simpa using this,fun i e w a b=>h.2 (i+1) e w (by simpa using a) (by simpa using b)⟩,fun h=>.cons h.1 h.2⟩
theorem bN.nil_inv{vs:List V}(h:bN K H [] vs):vs=[]:=by
 have:=h.1;cases vs with
 |nil=>rfl
 |cons _ _=>simp at this
theorem bN.cons_inv{d:D}{ds:List D}{vs:List V}(h:bN K H (d::ds) vs):∃v ws,vs=v::ws/\dk K H d v/\bN K H ds ws:=by
 cases vs with
 |nil=>have:=h.1;simp at this
 |cons v ws=>exact⟨v,ws,rfl,bN.cons_iff.mp h⟩
theorem bN.append:∀{ds es:List D}{vs ws:List V},bN K H ds vs->bN K H es ws->bN K H (ds++es) (vs++ws)
 | [],es,vs,ws,h,g=>by rw[h.nil_inv];exact g
 |d::ds,es,vs,ws,h,g=>by
  obtain⟨v,us,rfl,h1,h2⟩:=h.cons_inv;exact .cons h1 (bN.append h2 g)
theorem bN.take{ds:List D}{vs:List V}(h:bN K H ds vs) (n:Nat):bN K H (ds.take n) (vs.take n):=⟨by rw[lTq,lTq,h.1],fun i d v a b=>by
 rw[List.getElem?_take]at a b;split at a
 .rename_i hi;rw[if_pos hi]at b;exact h.2 i d v a b
 .cases a⟩
theorem bN.drop{ds:List D}{vs:List V}(h:bN K H ds vs) (n:Nat):bN K H (ds.drop n) (vs.drop n):=⟨by rw[RL,RL,h.1],fun i d v a b=>by
 rw[Ud]at a b;exact h.2 _ d v a b⟩
theorem bN.get{ds:List D}{vs:List V}(h:bN K H ds vs) {i:Nat}{d:D}(e:ds[i]?=some d):∃v,vs[i]?=some v/\dk K H d v:=by
 have hi:i<ds.length:=(gSq.mp e).1;have hj:i<vs.length:=h.1 ▸ hi;exact⟨vs[i],gEg hj,h.2 i d _ e (gEg hj)⟩
theorem bN.get'{ds:List D}{vs:List V}(h:bN K H ds vs) {i:Nat}{v:V}(e:vs[i]?=some v):∃d,ds[i]?=some d/\dk K H d v:=by
 have hi:i<vs.length:=(gSq.mp e).1;have hj:i<ds.length:=h.1.symm ▸ hi;exact⟨ds[i],gEg hj,h.2 i _ v (gEg hj) e⟩
theorem dk.list_inv{ds:List D}{v:V}(h:dk K H (.list ds) v):∃p vs,v = .ref p/\H p=some (.lst vs)/\bN K H ds vs:=by
 cases h with
 |list h l e=>exact⟨_,_,rfl,h,l,e⟩
theorem dk.tup_inv{ds:List D}{v:V}(h:dk K H (.tup ds) v):∃p vs,v = .ref p/\H p=some (.tup vs)/\bN K H ds vs:=by
 cases h with
 |tup h l e=>exact⟨_,_,rfl,h,l,e⟩
theorem dk.dict_inv{ds:List (aN×D)}{v:V}(h:dk K H (.dict ds) v):∃p kvs,v = .ref p/\H p=some (.dK kvs)/\eN K H ds kvs:=by
 cases h with
 |dict h l e=>exact⟨_,_,rfl,h,l,e⟩
theorem dk.mk_dict{ds:List (aN×D)}{p:Addr}{vs:List (aN×V)}(h:H p=some (.dK vs)) (r:eN K H ds vs):dk K H (.dict ds) (.ref p):=.dict h r.1 r.2
end
def D.scal:D->Bool
 | .non=>true
 | .bl _=>true
 | .int _=>true
 | .str _=>true
 | .ty _=>true
 |_=>false
theorem dk.scal{K:W.Frag}{H H':Hp}{d:D}{v:V}(h:dk K H d v) (s:d.scal=true):dk K H' d v:=by
 cases h with
 |non=>exact .non
 |bl=>exact .bl
 |int=>exact .int
 |str=>exact .str
 |ty=>exact .ty
 |_=>cases s
inductive AV where
 |sh (d:D)|ow (avs:List AV)|owd (kvs:List (aN×D))|owl (kvs:List (aN×List Int))
mutual
def aA:AV->D
 | .sh d=>d
 | .ow avs=>.list (sG avs)
 | .owd kvs=>.dict kvs
 | .owl kvs=>.dict (kvs.map fun x=>(x.1,.list (x.2.map .int)))
def sG:List AV->List D
 | []=>[]
 |a::as=>aA a::sG as
end
theorem vi:∀avs:List AV,sG avs=avs.map aA
 | []=>by simp[sG]
 |a::as=>by simp[sG,vi as]
@[simp] theorem gu (d:D):aA (.sh d)=d:=by simp[aA]
@[simp] theorem eK (avs:List AV):aA (.ow avs) = .list (avs.map aA):=by simp[aA,vi]
@[simp] theorem ql (kvs:List (aN×D)):aA (.owd kvs) = .dict kvs:=by simp[aA]
theorem vx(kvs:List (aN×List Int)):aA (.owl kvs) = .dict (kvs.map fun x=>(x.1,.list (x.2.map .int))):=by simp[aA]
inductive bg (K:W.Frag) (Hf H:Hp):AV->V->List Addr->Prop
 |sh {d:D}{v:V}(r:dk K Hf d v):bg K Hf H (.sh d) v []
 |ow {p:Addr}{vs:List V}{avs:List AV}{Fs:List (List Addr)}(h:H p=some (.lst vs)) (n:Hf p=none) (l:avs.length=vs.length) (lf:avs.length=Fs.length)
   (e:∀(i:Nat) (a:AV) (v:V) (F:List Addr),avs[i]?=some a->vs[i]?=some v->Fs[i]?=some F->bg K Hf H a v F):bg K Hf H (.ow avs) (.ref p) (p::Fs.flatten)
 |owd {p:Addr}{kvs:List (aN×V)}{ds:List (aN×D)}(h:H p=some (.dK kvs)) (n:Hf p=none) (r:eN K Hf ds kvs):bg K Hf H (.owd ds) (.ref p) [p]
 |owl {p:Addr}{kvs:List (aN×List Int)}{qs:List Addr}(h:H p=some (.dK (Wz (fun x q=>(x.1,V.ref q)) kvs qs))) (n:Hf p=none) (l:kvs.length=qs.length) (e:∀(i:Nat) (q:Addr) (x:aN×List Int),qs[i]?=some q->kvs[i]?=some x->H q=some (.lst (x.2.map V.int))/\Hf q=none):bg K Hf H (.owl kvs) (.ref p) (p::qs)
theorem B4{K:W.Frag}{H:Hp}{p:Addr}{kvs:List (aN×List Int)}{qs:List Addr}(h:H p=some (.dK (Wz (fun x q=>(x.1,V.ref q)) kvs qs))) (l:kvs.length=qs.length) (e:∀(i:Nat) (q:Addr) (x:aN×List Int),qs[i]?=some q->kvs[i]?=some x->H q=some (.lst (x.2.map V.int))):dk K H (.dict (kvs.map fun x=>(x.1,.list (x.2.map .int)))) (.ref p):=by
 refine .dict h ?_ fun i d v h1 h2=>?_
 .refine T1 fun i=>?_
  rw[gMq,gMq,gMq,VI]
  by_cases c:i<kvs.length
  .rw [gEg c,gEg (l ▸ c)];rfl
  .rw [Se (We c)];rfl
 .rw [gMq]at h1;rw[VI]at h2;cases hk:kvs[i]? with
  |none=>rw[hk]at h1;cases h1
  |some x =>
   cases hq:qs[i]? with
   |none=>rw[hk,hq]at h2;cases h2
   |some q =>
    rw[hk]at h1 h2;rw[hq]at h2;cases h1;cases h2;refine .list (e i q x hq hk) (by rw[lMq,lMq]) fun j d v e1 e2=>?_
    rw[gMq]at e1 e2;cases hj:x.2[j]? with
    |none=>rw[hj]at e1;cases e1
    |some m =>
     rw[hj]at e1 e2;cases e1;cases e2;exact .int
theorem K8{kvs:List (aN×List Int)}{qs:List Addr}(l:kvs.length=qs.length) {q:Addr}(hq:q∈qs):∃(i:Nat) (x:aN×List Int),qs[i]?=some q/\kvs[i]?=some x:=by
 obtain⟨i,hi⟩:=Rv.mp hq;have hl:=(gSq.mp hi).1;exact⟨i,_,hi,gEg (l ▸ hl)⟩
section
variable {K:W.Frag}{Hf Hf' H H':Hp}{av:AV}{v:V}{F:List Addr}
theorem bg.owned(h:bg K Hf H av v F):∀q∈F,H q≠none/\Hf q=none:=by
 induction h with
 |sh _=>intro q hq;cases hq
 | @ow p vs avs Fs h n l lf e ih =>
  intro q hq;rcases Rl.mp hq with rfl|hq
  .exact ⟨by rw[h];simp,n⟩
  .obtain ⟨F,hF,hq⟩:=mFq.mp hq;obtain⟨i,hi,rfl⟩:=Ts.mp hF;exact ih i avs[i] vs[i] Fs[i] (by simp) (by simp) (by simp) q hq
 |owd h n r =>
  intro q hq;have:=mSq.mp hq;subst this;exact⟨by rw[h];simp,n⟩
 |owl h n l e =>
  intro q hq;rcases Rl.mp hq with z|z
  .rw [z];exact⟨by rw[h];simp,n⟩
  .obtain ⟨i,x,h1,h2⟩:=K8 l z;obtain⟨e1,e2⟩:=e i q x h1 h2;exact⟨by rw[e1];simp,e2⟩
theorem bg.keep(h:bg K Hf H av v F) (s:bD Hf Hf') (hk:∀q∈F,H' q=H q) (hn:∀q∈F,Hf' q=none):bg K Hf' H' av v F:=by
 induction h with
 |sh r=>exact .sh (r.mono s)
 | @ow p vs avs Fs h n l lf e ih =>
  refine .ow (by rw[hk p (by simp)];exact h) (hn p (by simp)) l lf fun i a v F h1 h2 h3=>ih i a v F h1 h2 h3 (fun q hq=>hk q ?_) fun q hq=>hn q ?_
  all_goals exact mCo _ (mFq.mpr ⟨F,mGq h3,hq⟩)
 |owd h n r=>exact .owd (by rw[hk _ (by simp)];exact h) (hn _ (by simp)) (r.mono s)
 | @owl p kvs qs h n l e =>
  refine .owl (by rw[hk _ (Rq ..)];exact h) (hn _ (Rq ..)) l fun i q x h1 h2=>?_
  have m:q∈p::qs:=mCo _ (mGq h1);exact⟨by rw[hk q m];exact(e i q x h1 h2).1,hn q m⟩
theorem bg.rep(h:bg K Hf H av v F) (s:bD Hf H):dk K H (aA av) v:=by
 induction h with
 |sh r=>rw[gu];exact r.mono s
 | @ow p vs avs Fs h n l lf e ih =>
  rw[eK];refine .list h (by simp[l]) fun i d v h1 h2=>?_
  rw[gMq]at h1;cases ea:avs[i]? with
  |none=>rw[ea]at h1;cases h1
  |some a =>
   rw[ea]at h1;cases h1;have hi:i<Fs.length:=lf ▸ (gSq.mp ea).1;exact ih i a v Fs[i] ea h2 (gEg hi)
 |owd h n r=>rw[ql];exact .mk_dict h (r.mono s)
 |owl h n l e=>rw[vx];exact B4 h l fun i q x h1 h2=>(e i q x h1 h2).1
def frz(Hf H:Hp) (F:List Addr):Hp:=fun b=>if b∈F then H b else Hf b
theorem qr{b:Addr}(h:b∈F):frz Hf H F b=H b:=if_pos h
theorem gf{b:Addr}(h:b∉F):frz Hf H F b=Hf b:=if_neg h
theorem dR(h:∀q∈F,Hf q=none):bD Hf (frz Hf H F):=fun b o e=>by
 rw[gf fun m=>by rw[h b m]at e;cases e]
 exact e
theorem Jm(s:bD Hf H):bD (frz Hf H F) H:=fun b o e=>by
 by_cases m:b∈F
 .rw [qr m]at e;exact e
 .rw [gf m]at e;exact s b o e
theorem bg.frozen(h:bg K Hf H av v F) (s:bD Hf Hf') (hk:∀q∈F,Hf' q=H q):dk K Hf' (aA av) v:=by
 induction h with
 |sh r=>rw[gu];exact r.mono s
 | @ow p vs avs Fs h n l lf e ih =>
  rw[eK];refine .list (by rw[hk p (by simp)];exact h) (by simp[l]) fun i d v h1 h2=>?_
  rw[gMq]at h1;cases ea:avs[i]? with
  |none=>rw[ea]at h1;cases h1
  |some a =>
   rw[ea]at h1;cases h1;have hi:i<Fs.length:=lf ▸ (gSq.mp ea).1;exact ih i a v Fs[i] ea h2 (gEg hi) fun q hq=>hk q (mCo _ (mFq.mpr ⟨Fs[i],gRq hi,hq⟩))
 |owd h n r=>rw[ql];exact .mk_dict (by rw[hk _ (by simp)];exact h) (r.mono s)
 |owl h n l e=>rw[vx];exact B4 (by rw[hk _ (Rq ..)];exact h) l fun i q x h1 h2=>by rw[hk q (mCo _ (mGq h1))];exact(e i q x h1 h2).1
end
abbrev AS:=List (Option AV)
structure bA (K:W.Frag) (H₀ Hf₀ Hf:Hp) (S:AS) (σ:St) (H:Hp) (Fs:List (List Addr)):Prop where
 len:S.length=σ.length
 lenF:Fs.length=S.length
 rep:∀(i:Nat) (av:AV),S[i]?=some (some av)->∃v F,σ[i]?=some (some v)/\Fs[i]?=some F/\bg K Hf H av v F
 emp:∀i:Nat,S[i]?=some none->Fs[i]?=some []
 nd:Fs.flatten.Nodup
 fresh:∀p∈Fs.flatten,H₀ p=none
 sub:bD Hf H
 fr:bD H₀ H
 lim:∀b,Hf₀ b=none->H₀ b≠none->Hf b=none
 sf:bD Hf₀ Hf
structure mq (Hf H:Hp) (Fs:List (List Addr)) (Hf' H':Hp) (Fs':List (List Addr)):Prop where
 sf:bD Hf Hf'
 sh:bD H H'
 own:∀p∈Fs'.flatten,p∈Fs.flatten
 gr:∀b,Hf b=none->Hf' b≠none->H b=none∨b∈Fs.flatten
theorem mq.refl{Hf H:Hp}{Fs:List (List Addr)}:mq Hf H Fs Hf H Fs:=⟨.refl _,.refl _,fun _ h=>h,fun b h g=>absurd h g⟩
theorem IQ{H H':Hp}(s:bD H H') {b:Addr}(h:H b≠none):H' b≠none:=by
 cases e:H b with
 |none=>exact absurd e h
 |some o=>rw[s b o e];simp
theorem mq.trans{Hf H Hf1 H1 Hf2 H2:Hp}{Fs Fs1 Fs2:List (List Addr)}(a:mq Hf H Fs Hf1 H1 Fs1) (b:mq Hf1 H1 Fs1 Hf2 H2 Fs2):mq Hf H Fs Hf2 H2 Fs2 :=
 ⟨a.sf.trans b.sf,a.sh.trans b.sh,fun p h=>a.own p (b.own p h),fun c h g=>by
  by_cases e:Hf1 c=none
  .rcases b.gr c e g with q|q
   .exact .inl (a.sh.free q)
   .exact .inr (a.own c q)
  .exact a.gr c h e⟩
section
variable {K:W.Frag}{H₀ Hf₀ Hf Hf' H H':Hp}{S:AS}{σ:St}{Fs Fs':List (List Addr)}
theorem B0{b:Addr}(s:bD H H') (h:H b≠none):H' b=H b:=by
 cases e:H b with
 |none=>exact absurd e h
 |some o=>exact s b o e
theorem bA.mem(R:bA K H₀ Hf₀ Hf S σ H Fs) {q:Addr}(h:q∈Fs.flatten):H q≠none/\Hf q=none:=by
 obtain⟨F,hF,hq⟩:=mFq.mp h;obtain⟨i,hi,rfl⟩:=Ts.mp hF;have hiS:i<S.length:=R.lenF ▸ hi;cases e:S[i] with
 |none =>
  have:=R.emp i (by rw[gEg hiS,e])
  rw[gEg hi]at this;rw[RD.inj this]at hq;cases hq
 |some av =>
  obtain⟨v,F,_,e2,r⟩:=R.rep i av (by rw[gEg hiS,e])
  rw[gEg hi]at e2;rw[RD.inj e2]at hq;exact r.owned q hq
theorem bA.more(R:bA K H₀ Hf₀ Hf S σ H Fs) (s:bD H H') (sf:bD Hf Hf') (sub:bD Hf' H') (hn:∀q∈Fs.flatten,Hf' q=none) (lim:∀b,Hf₀ b=none->H₀ b≠none->Hf' b=none):bA K H₀ Hf₀ Hf' S σ H' Fs where
 len:=R.len
 lenF:=R.lenF
 rep:=fun i av e=>by
  obtain⟨v,F,e1,e2,r⟩:=R.rep i av e;refine⟨v,F,e1,e2,r.keep sf (fun q hq=>B0 s (r.owned q hq).1) fun q hq=>hn q (mFq.mpr ⟨F,mGq e2,hq⟩)⟩
 emp:=R.emp
 nd:=R.nd
 fresh:=R.fresh
 sub:=sub
 fr:=R.fr.trans s
 lim:=lim
 sf:=R.sf.trans sf
theorem bA.laid(R:bA K H₀ Hf₀ Hf S σ H Fs) (s:bD H H'):bA K H₀ Hf₀ Hf S σ H' Fs:=R.more s (.refl _) (R.sub.trans s) (fun q h=>(R.mem h).2) R.lim
theorem dB{F:List Addr}{i:Nat}{p:Addr}(h:p∈(Fs.set i F).flatten):p∈F∨p∈Fs.flatten:=by
 obtain⟨G,hG,hp⟩:=mFq.mp h;rcases T3 hG with q|q
 .exact .inr (mFq.mpr ⟨G,q,hp⟩)
 .subst q;exact .inl hp
theorem df:∀{Fs:List (List Addr)}{F:List Addr}(i:Nat),Fs.flatten.Nodup->F.Nodup->(∀p∈F,p∉Fs.flatten)->(Fs.set i F).flatten.Nodup
 | [],F,i,h,_,_=>by simp
 |G::Gs,F,0,h,hF,hd=>by
  rw[Tp,fCq,nAq];rw[fCq,nAq]at h;refine⟨hF,h.2.1,fun a ha b hb e=>hd a ha ?_⟩
  rw[fCq];exact RB _ (e ▸ hb)
 |G::Gs,F,i+1,h,hF,hd=>by
  rw[TN,fCq,nAq];rw[fCq,nAq]at h;refine⟨h.1,df i h.2.1 hF fun p hp m=>hd p hp (by rw[fCq];exact RB _ m),fun a ha b hb e=>?_⟩
  rcases dB hb with q|q
  .exact hd b q (by rw[fCq];exact SN _ (e ▸ ha))
  .exact h.2.2 a ha b q e
theorem bA.set(R:bA K H₀ Hf₀ Hf S σ H Fs) {av:AV}{v:V}{F:List Addr}(i:Nat) (r:bg K Hf H av v F) (nd:F.Nodup) (hf:∀q∈F,H₀ q=none/\q∉Fs.flatten) :
  bA K H₀ Hf₀ Hf (S.set i (some av)) (σ.set i (some v)) H (Fs.set i F) where
 len:=by simp[R.len]
 lenF:=by simp[R.lenF]
 rep:=fun j a e=>by
  rw[Su]at e
  by_cases hij:i=j
  .subst hij;rw[if_pos rfl]at e;split at e
   .rename_i hi;cases e;exact⟨v,F,by rw[Rz (R.len ▸ hi)],by rw[Rz (R.lenF.symm ▸ hi)],r⟩
   .cases e
  .rw [if_neg hij]at e;obtain⟨w,G,e1,e2,q⟩:=R.rep j a e;exact⟨w,G,by rw[Ry hij];exact e1,by rw[Ry hij];exact e2,q⟩
 emp:=fun j e=>by
  rw[Su]at e
  by_cases hij:i=j
  .subst hij;rw[if_pos rfl]at e;split at e <;> cases e
  .rw [if_neg hij]at e;rw[Ry hij];exact R.emp j e
 nd:=df i R.nd nd fun p hp=>(hf p hp).2
 fresh:=fun p hp=>by
  rcases dB hp with q|q
  .exact (hf p q).1
  .exact R.fresh p q
 sub:=R.sub
 fr:=R.fr
 lim:=R.lim
 sf:=R.sf
theorem cj{i:Nat}{p:Addr}(h:p∈(Fs.set i []).flatten):p∈Fs.flatten:=by
 rcases dB h with q|q
 .cases q
 .exact q
theorem fG:∀{Fs:List (List Addr)}{F:List Addr}{i:Nat}{p:Addr},Fs.flatten.Nodup->Fs[i]?=some F->p∈F->p∉(Fs.set i []).flatten
 | [],F,i,p,_,e,_,_=>by simp at e
 |G::Gs,F,0,p,h,e,hp,m=>by
  simp at e;subst e;rw[Tp,fCq,Sz]at m;rw[fCq,nAq]at h;exact h.2.2 p hp p m rfl
 |G::Gs,F,i+1,p,h,e,hp,m=>by
  rw[TN,fCq]at m;rw[fCq,nAq]at h;have e':Gs[i]?=some F:=by simpa using e
  rcases mAq.mp m with q|q
  .exact h.2.2 p q p (mFq.mpr ⟨F,mGq e',hp⟩) rfl
  .exact fG h.2.1 e' hp q
theorem bA.move(R:bA K H₀ Hf₀ Hf S σ H Fs) {i:Nat}{av:AV}(e:S[i]?=some (some av)):∃v F,σ[i]?=some (some v)/\Fs[i]?=some F/\bg K Hf H av v F/\F.Nodup/\(∀q∈F,H₀ q=none/\q∉(Fs.set i []).flatten) /\
  bA K H₀ Hf₀ Hf (S.set i none) σ H (Fs.set i []):=by
 obtain⟨v,F,e1,e2,r⟩:=R.rep i av e;have hin:∀q∈F,q∈Fs.flatten:=fun q hq=>mFq.mpr ⟨F,mGq e2,hq⟩
 refine⟨v,F,e1,e2,r,RC.sublist (RE (mGq e2)) R.nd,fun q hq=>⟨R.fresh q (hin q hq),fG R.nd e2 hq⟩,?_⟩
 refine⟨by simp[R.len],by simp[R.lenF],fun j a ej=>?_,fun j ej=>?_,df i R.nd R7 (fun p hp=>by cases hp),fun p hp=>R.fresh p (cj hp),R.sub,R.fr,R.lim,R.sf⟩
 .rw [Su]at ej
  by_cases hij:i=j
  .subst hij;rw[if_pos rfl]at ej;split at ej <;> cases ej
  .rw [if_neg hij]at ej;obtain⟨w,G,f1,f2,q⟩:=R.rep j a ej;exact⟨w,G,f1,by rw[Ry hij];exact f2,q⟩
 .rw [Su]at ej
  by_cases hij:i=j
  .subst hij;rw[if_pos rfl]at ej;split at ej
   .rename_i hi;rw[Rz (R.lenF.symm ▸ hi)]
   .cases ej
  .rw [if_neg hij]at ej;rw[Ry hij];exact R.emp j ej
theorem bA.frz(R:bA K H₀ Hf₀ Hf S σ H Fs) {F:List Addr}(hf:∀q∈F,H₀ q=none/\q∉Fs.flatten) (hn:∀q∈F,Hf q=none):bA K H₀ Hf₀ (frz Hf H F) S σ H Fs:=by
 refine R.more (.refl _) (dR hn) (Jm R.sub) (fun q hq=>?_) fun b h1 h2=>?_
 .rw [gf fun m=>(hf q m).2 hq]
  exact(R.mem hq).2
 .rw [gf fun m=>h2 (hf b m).1]
  exact R.lim b h1 h2
end
abbrev ME:=AS->Option (D×AS)
abbrev MK:=AS->Option (AV×AS)
abbrev ML:=AS->Option (List D×AS)
abbrev MT:=AS->Option (Bool×AS)
abbrev MA:=AS->Option (List AV×AS)
def bf(K:W.Frag) (Hf H:Hp) (avs:List AV) (vs:List V) (Gs:List (List Addr)):Prop :=
 avs.length=vs.length/\avs.length=Gs.length/\∀(i:Nat) (a:AV) (v:V) (F:List Addr),avs[i]?=some a->vs[i]?=some v->Gs[i]?=some F->bg K Hf H a v F
structure kR (H₀ H:Hp) (Fs Fs':List (List Addr)) (F:List Addr):Prop where
 nd:F.Nodup
 fr:∀q∈F,H₀ q=none
 out:∀q∈F,q∉Fs'.flatten
 new:∀q∈F,H q=none∨q∈Fs.flatten
theorem kR.nil{H₀ H:Hp}{Fs Fs':List (List Addr)}:kR H₀ H Fs Fs' []:=⟨R7,fun q h=>(by cases h),fun q h=>(by cases h),fun q h=>(by cases h)⟩
section
variable (K:W.Frag)
def SR(te:TE) (m:ME):Prop:=∀{H₀ Hf₀ Hf:Hp}{S:AS}{σ:St}{H:Hp}{Fs:List (List Addr)}{d:D}{S':AS},bA K H₀ Hf₀ Hf S σ H Fs->m S=some (d,S')->∀Q:VK,
 (∀Hf' H' Fs' v,mq Hf H Fs Hf' H' Fs'->bA K H₀ Hf₀ Hf' S' σ H' Fs'->dk K H' d v->Q v H')->te σ H Q
def SK(te:TE) (m:MK):Prop:=∀{H₀ Hf₀ Hf:Hp}{S:AS}{σ:St}{H:Hp}{Fs:List (List Addr)}{a:AV}{S':AS},bA K H₀ Hf₀ Hf S σ H Fs->m S=some (a,S')->∀Q:VK,
 (∀Hf' H' Fs' v F,mq Hf H Fs Hf' H' Fs'->bA K H₀ Hf₀ Hf' S' σ H' Fs'->bg K Hf' H' a v F->kR H₀ H Fs Fs' F->Q v H')->te σ H Q
def SL(te:TE) (m:ML):Prop:=∀{H₀ Hf₀ Hf:Hp}{S:AS}{σ:St}{H:Hp}{Fs:List (List Addr)}{ds:List D}{S':AS},bA K H₀ Hf₀ Hf S σ H Fs->m S=some (ds,S')->∀Q:VK,
 (∀Hf' H' Fs' p vs,mq Hf H Fs Hf' H' Fs'->bA K H₀ Hf₀ Hf' S' σ H' Fs'->H' p=some (.lst vs)->bN K Hf' ds vs->Q (.ref p) H')->te σ H Q
def Ak(tt:TT) (m:MT):Prop:=∀{H₀ Hf₀ Hf:Hp}{S:AS}{σ:St}{H:Hp}{Fs:List (List Addr)}{b:Bool}{S':AS},bA K H₀ Hf₀ Hf S σ H Fs->m S=some (b,S')->∀Q:Bool->Hp->Prop,
 (∀Hf' H' Fs',mq Hf H Fs Hf' H' Fs'->bA K H₀ Hf₀ Hf' S' σ H' Fs'->Q b H')->tt σ H Q
def SA(ta:TA) (m:MA):Prop:=∀{H₀ Hf₀ Hf:Hp}{S:AS}{σ:St}{H:Hp}{Fs:List (List Addr)}{as:List AV}{S':AS},bA K H₀ Hf₀ Hf S σ H Fs->m S=some (as,S')->∀Q:List V->Hp->Prop,
 (∀Hf' H' Fs' vs Gs,mq Hf H Fs Hf' H' Fs'->bA K H₀ Hf₀ Hf' S' σ H' Fs'->bf K Hf' H' as vs Gs->kR H₀ H Fs Fs' Gs.flatten->Q vs H')->ta σ H Q
def Il(ta:TA) (m:ML):Prop:=∀{H₀ Hf₀ Hf:Hp}{S:AS}{σ:St}{H:Hp}{Fs:List (List Addr)}{ds:List D}{S':AS},bA K H₀ Hf₀ Hf S σ H Fs->m S=some (ds,S')->∀Q:List V->Hp->Prop,
 (∀Hf' H' Fs' vs,mq Hf H Fs Hf' H' Fs'->bA K H₀ Hf₀ Hf' S' σ H' Fs'->bN K H' ds vs->Q vs H')->ta σ H Q
end
section
variable {K:W.Frag}{H₀ Hf₀ Hf Hf' H H':Hp}{S S':AS}{σ:St}{Fs Fs':List (List Addr)}
theorem bg.stp{av:AV}{v:V}{F:List Addr}(r:bg K Hf H av v F) (ho:∀q∈F,q∉Fs.flatten) (t:mq Hf H Fs Hf' H' Fs'):bg K Hf' H' av v F :=
 r.keep t.sf (fun q hq=>B0 t.sh (r.owned q hq).1) fun q hq=>by
  by_cases e:Hf' q=none
  .exact e
  .rcases t.gr q (r.owned q hq).2 e with z|z
   .exact absurd z (r.owned q hq).1
   .exact absurd z (ho q hq)
theorem bA.new(R:bA K H₀ Hf₀ Hf S σ H Fs) {p:Addr}{o:HO}(hp:H p=none):mq Hf H Fs Hf (cI H p o) Fs/\bA K H₀ Hf₀ Hf S σ (cI H p o) Fs/\Hf p=none/\H₀ p=none/\p∉Fs.flatten :=
 ⟨⟨.refl _,lV hp,fun _ h=>h,fun b h g=>absurd h g⟩,R.laid (lV hp),R.sub.free hp,R.fr.free hp,fun m=>(R.mem m).1 hp⟩
theorem gX(n:Nat):(SD n ([]:List Addr)).flatten=[]:=by
 induction n with
 |zero=>rfl
 |succ n ih=>rw[VW,fCq,ih];rfl
theorem bg.new{p:Addr}{vs:List V}{ds:List D}(h:H p=some (.lst vs)) (n:Hf p=none) (r:bN K Hf ds vs):bg K Hf H (.ow (ds.map .sh)) (.ref p) [p]:=by
 have e:[p]=p::(SD ds.length ([]:List Addr)).flatten:=by rw[gX]
 rw[e];refine .ow h n (by simp[r.1]) (by simp) fun i a v F h1 h2 h3=>?_
 rw[gMq]at h1;cases q:ds[i]? with
 |none=>rw[q]at h1;cases h1
 |some d =>
  rw[q]at h1;cases h1;have:F=[]:=T8 (mGq h3);subst this;exact .sh (r.2 i d v q h2)
theorem bg.news{p:Addr}{vs:List V}{avs:List AV}{Gs:List (List Addr)}(h:H p=some (.lst vs)) (n:Hf p=none) (r:bf K Hf H avs vs Gs):bg K Hf H (.ow avs) (.ref p) (p::Gs.flatten):=.ow h n r.1 r.2.1 r.2.2
theorem bg.ow_inv{avs:List AV}{v:V}{F:List Addr}(h:bg K Hf H (.ow avs) v F):∃p vs Gs,v = .ref p/\F=p::Gs.flatten/\H p=some (.lst vs)/\Hf p=none/\bf K Hf H avs vs Gs:=by
 cases h with
 |ow h n l lf e=>exact⟨_,_,_,rfl,rfl,h,n,l,lf,e⟩
theorem bg.owd_inv{ds:List (aN×D)}{v:V}{F:List Addr}(h:bg K Hf H (.owd ds) v F):∃p kvs,v = .ref p/\F=[p]/\H p=some (.dK kvs)/\Hf p=none/\eN K Hf ds kvs:=by
 cases h with
 |owd h n r=>exact⟨_,_,rfl,rfl,h,n,r⟩
theorem bg.sh_inv{d:D}{v:V}{F:List Addr}(h:bg K Hf H (.sh d) v F):F=[]/\dk K Hf d v:=by
 cases h with
 |sh r=>exact⟨rfl,r⟩
theorem bA.give{H1:Hp}{Fs1:List (List Addr)}(R:bA K H₀ Hf₀ Hf' S σ H1 Fs1) (t:mq Hf H Fs Hf' H1 Fs1) {av:AV}{v:V}{F:List Addr}(r:bg K Hf' H1 av v F) (o:kR H₀ H Fs Fs1 F) :
  bA K H₀ Hf₀ (Z.frz Hf' H1 F) S σ H1 Fs1/\dk K (Z.frz Hf' H1 F) (aA av) v/\mq Hf H Fs (Z.frz Hf' H1 F) H1 Fs1:=by
 have n:∀q∈F,Hf' q=none:=fun q hq=>(r.owned q hq).2
 refine⟨R.frz (fun q hq=>⟨o.fr q hq,o.out q hq⟩) n,r.frozen (dR n) fun q hq=>qr hq,t.sf.trans (dR n),t.sh,t.own,fun b h g=>?_⟩
 by_cases m:b∈F
 .exact o.new b m
 .rw [gf m]at g;exact t.gr b h g
theorem bf.nil:bf K Hf H [] [] []:=⟨rfl,rfl,fun i a v F h=>by simp at h⟩
theorem bf.cons{a:AV}{v:V}{F:List Addr}{as:List AV}{vs:List V}{Gs:List (List Addr)}(h:bg K Hf H a v F) (t:bf K Hf H as vs Gs):bf K Hf H (a::as) (v::vs) (F::Gs) :=
 ⟨by simp[t.1],by simp[t.2.1],fun i b w G h1 h2 h3=>by
  cases i with
  |zero =>
   simp at h1 h2 h3;subst h1 h2 h3;exact h
  |succ i=>exact t.2.2 i b w G (by simpa using h1) (by simpa using h2) (by simpa using h3)⟩
theorem bf.nil_inv{vs:List V}{Gs:List (List Addr)}(h:bf K Hf H [] vs Gs):vs=[]/\Gs=[]:=by
 obtain⟨a,b,_⟩:=h;exact⟨R9.mp a.symm,R9.mp b.symm⟩
theorem bf.cons_inv{a:AV}{as:List AV}{vs:List V}{Gs:List (List Addr)}(h:bf K Hf H (a::as) vs Gs):∃v ws F Gs',vs=v::ws/\Gs=F::Gs'/\bg K Hf H a v F/\bf K Hf H as ws Gs':=by
 obtain⟨h1,h2,h3⟩:=h;cases vs with
 |nil=>simp at h1
 |cons v ws =>
  cases Gs with
  |nil=>simp at h2
  |cons F Gs'=>exact⟨v,ws,F,Gs',rfl,rfl,h3 0 a v F rfl rfl rfl,by simpa using h1,by simpa using h2,fun i b w G q1 q2 q3=>h3 (i+1) b w G (by simpa using q1) (by simpa using q2) (by simpa using q3)⟩
theorem bf.frozen(h:bf K Hf H as vs Gs) (s:bD Hf Hf') (hk:∀q∈Gs.flatten,Hf' q=H q):bN K Hf' (as.map aA) vs :=
 ⟨by simp[h.1],fun i d v h1 h2=>by
  rw[gMq]at h1;cases ea:as[i]? with
  |none=>rw[ea]at h1;cases h1
  |some a =>
   rw[ea]at h1;cases h1;have hi:i<Gs.length:=h.2.1 ▸ (gSq.mp ea).1;exact(h.2.2 i a v Gs[i] ea h2 (gEg hi)).frozen s fun q hq=>hk q (mFq.mpr ⟨Gs[i],gRq hi,hq⟩)⟩
theorem bf.owned(h:bf K Hf H as vs Gs):∀q∈Gs.flatten,H q≠none/\Hf q=none:=fun q hq=>by
 obtain⟨F,hF,hq⟩:=mFq.mp hq;obtain⟨i,hi,rfl⟩:=Ts.mp hF;have h1:i<as.length:=h.2.1.symm ▸ hi;have h2:i<vs.length:=h.1 ▸ h1;exact(h.2.2 i as[i] vs[i] Gs[i] (gEg h1) (gEg h2) (gEg hi)).owned q hq
theorem bA.gives{H1:Hp}{Fs1:List (List Addr)}(R:bA K H₀ Hf₀ Hf' S σ H1 Fs1) (t:mq Hf H Fs Hf' H1 Fs1) {as:List AV}{vs:List V}{Gs:List (List Addr)}(r:bf K Hf' H1 as vs Gs) (o:kR H₀ H Fs Fs1 Gs.flatten) :
  bA K H₀ Hf₀ (Z.frz Hf' H1 Gs.flatten) S σ H1 Fs1/\bN K (Z.frz Hf' H1 Gs.flatten) (as.map aA) vs/\mq Hf H Fs (Z.frz Hf' H1 Gs.flatten) H1 Fs1:=by
 have n:∀q∈Gs.flatten,Hf' q=none:=fun q hq=>(r.owned q hq).2
 refine⟨R.frz (fun q hq=>⟨o.fr q hq,o.out q hq⟩) n,r.frozen (dR n) fun q hq=>qr hq,t.sf.trans (dR n),t.sh,t.own,fun b h g=>?_⟩
 by_cases m:b∈Gs.flatten
 .exact o.new b m
 .rw [gf m]at g;exact t.gr b h g
theorem kR.stp{Hf1 H1 Hf2 H2:Hp}{Fs1 Fs2:List (List Addr)}{F:List Addr}(o:kR H₀ H Fs Fs1 F) (t:mq Hf1 H1 Fs1 Hf2 H2 Fs2):kR H₀ H Fs Fs2 F:=⟨o.nd,o.fr,fun q h m=>o.out q h (t.own q m),o.new⟩
theorem kR.back{Hf1 H1:Hp}{Fs1 Fs2:List (List Addr)}{F:List Addr}(t:mq Hf H Fs Hf1 H1 Fs1) (o:kR H₀ H1 Fs1 Fs2 F):kR H₀ H Fs Fs2 F:=⟨o.nd,o.fr,o.out,fun q h=>(o.new q h).elim (fun e=>.inl (t.sh.free e)) fun m=>.inr (t.own q m)⟩
theorem kR.app{F G:List Addr}(a:kR H₀ H Fs Fs' F) (b:kR H₀ H Fs Fs' G) (d:∀q∈F,q∉G):kR H₀ H Fs Fs' (F++G) :=
 ⟨nAq.mpr ⟨a.nd,b.nd,fun x hx y hy e=>d x hx (e ▸ hy)⟩,fun q h=>(mAq.mp h).elim (a.fr q) (b.fr q),fun q h=>(mAq.mp h).elim (a.out q) (b.out q),fun q h=>(mAq.mp h).elim (a.new q) (b.new q)⟩
theorem kR.apart{Hf1 H1:Hp}{Fs1 Fs2:List (List Addr)}{F G:List Addr}(a:kR H₀ H Fs Fs1 F) (ha:∀q∈F,H1 q≠none) (b:kR H₀ H1 Fs1 Fs2 G):∀q∈F,q∉G:=fun q h m=>by
 rcases b.new q m with e|e
 .exact ha q h e
 .exact a.out q h e
theorem kR.one(R:bA K H₀ Hf₀ Hf S σ H Fs) {p:Addr}(hp:H p=none):kR H₀ H Fs Fs [p] :=
 ⟨by simp,fun q h=>by rw[mSq.mp h];exact R.fr.free hp,fun q h m=>by rw[mSq.mp h]at m;exact(R.mem m).1 hp,fun q h=>by rw[mSq.mp h];exact .inl hp⟩
end
def af(i:Nat):ME:=fun S=>(S[i]?.join).map fun a=>(aA a,S)
def ay(i:Nat):MK:=fun S=>(S[i]?.join).map fun a=>(.sh (aA a),S.set i (some (.sh (aA a))))
def mE(i:Nat):MK:=fun S=>(S[i]?.join).map fun a=>(a,S.set i none)
def uF(i:Nat):ML:=fun S=>match S[i]?.join with
 |some (.sh (.list ds))=>some (ds,S)
 |some (.ow avs)=>some (avs.map aA,S.set i (some (.ow ((avs.map aA).map .sh))))
 |_=>none
def rOf(k:MK):ME:=fun S=>(k S).map fun x=>(aA x.1,x.2)
def kSc(m:ME):MK:=fun S=>(m S).bind fun x=>if x.1.scal then some (.sh x.1,x.2) else none
def lOf(k:MK):ML:=fun S=>(k S).bind fun x=>match x.1 with
 | .sh (.list ds)=>some (ds,x.2)
 | .ow avs=>some (avs.map aA,x.2)
 |_=>none
def gO(k:MK):MK:=fun S=>(k S).map fun x=>(.sh (aA x.1),x.2)
def rC(d:D):ME:=fun S=>if d.scal then some (d,S) else none
section
variable {K:W.Frag}
theorem bp{S:AS}{i:Nat}{a:AV}(h:S[i]?.join=some a):S[i]?=some (some a):=by
 cases e:S[i]? with
 |none=>rw[e]at h;cases h
 |some z=>rw[e]at h;exact congrArg some h
theorem ah(i:Nat):SR K (kQ i) (af i):=by
 intro H₀ Hf₀ Hf S σ H Fs d S' R e Q q;obtain⟨a,ea,e⟩:=oMq.mp e;cases e;obtain⟨v,F,s1,s2,r⟩:=R.rep i a (bp ea);exact⟨v,s1,q _ _ _ v .refl R (r.rep R.sub)⟩
theorem kL(i:Nat):SK K (kQ i) (mE i):=by
 intro H₀ Hf₀ Hf S σ H Fs a S' R e Q q;obtain⟨b,ea,e⟩:=oMq.mp e;cases e;obtain⟨v,F,s1,s2,r,nd,o,R1⟩:=R.move (bp ea);exact⟨v,s1,q _ _ _ v F ⟨.refl _,.refl _,fun p hp=>cj hp,fun b h g=>absurd h g⟩ R1 r ⟨nd,fun q hq=>(o q hq).1,fun q hq=>(o q hq).2,fun q hq=>.inr (mFq.mpr ⟨F,mGq s2,hq⟩)⟩⟩
theorem bA.again{H₀ Hf₀ Hf H:Hp}{S:AS}{σ:St}{Fs:List (List Addr)}{i:Nat}{av:AV}{v:V}{F G:List Addr}(R:bA K H₀ Hf₀ Hf (S.set i none) σ H (Fs.set i [])) (s1:σ[i]?=some (some v)) (r:bg K Hf H av v G) (nd:G.Nodup) (hf:∀q∈G,H₀ q=none/\q∉(Fs.set i []).flatten) :
  bA K H₀ Hf₀ Hf (S.set i (some av)) σ H (Fs.set i G):=by
 have R2:=R.set i r nd hf;rw[Uc,Uc]at R2;have e:σ.set i (some v)=σ:=by
  obtain⟨hk,ev⟩:=gSq.mp s1;rw[←ev];exact UR hk
 rw[e]at R2;exact R2
theorem aQ(i:Nat):SK K (kQ i) (ay i):=by
 intro H₀ Hf₀ Hf S σ H Fs a S' R e Q q;obtain⟨b,ea,e⟩:=oMq.mp e;cases e;obtain⟨v,F,s1,s2,r,nd,o,R1⟩:=R.move (bp ea);have n:∀q∈F,Hf q=none:=fun q hq=>(r.owned q hq).2
 have R2:=R1.frz o n;have r2:=r.frozen (dR (H:=H) n) fun q hq=>qr hq
 have R3:=R2.again (F:=F) (G:=[]) s1 (.sh r2) R7 fun q h=>(by cases h)
 refine⟨v,s1,q _ _ _ v [] ⟨dR n,.refl _,fun p hp=>cj hp,fun b h g=>?_⟩ R3 (.sh r2) .nil⟩
 by_cases m:b∈F
 .exact .inr (mFq.mpr ⟨F,mGq s2,m⟩)
 .rw [gf m]at g;exact absurd h g
theorem wF(i:Nat):SL K (kQ i) (uF i):=by
 intro H₀ Hf₀ Hf S σ H Fs ds S' R e Q q;unfold uF at e;split at e
 .rename_i ds' ea;cases e;obtain⟨v,F,s1,s2,r⟩:=R.rep i _ (bp ea);obtain⟨p,vs,rfl,h1,h2⟩:=r.sh_inv.2.list_inv;exact⟨_,s1,q _ _ _ p vs .refl R (R.sub _ _ h1) h2⟩
 .rename_i avs ea;cases e;obtain⟨v,F,s1,s2,r,nd,o,R1⟩:=R.move (bp ea);obtain⟨p,vs,Gs,rfl,rfl,h1,h2,h3⟩:=r.ow_inv;have n:∀q∈Gs.flatten,Hf q=none:=fun q hq=>(h3.owned q hq).2
  have R2:=R1.frz (F:=Gs.flatten) (fun q hq=>o q (mCo _ hq)) n
  have r2:=h3.frozen (dR (H:=H) n) fun q hq=>qr hq
  have np:p∉Gs.flatten:=(Rp.mp nd).1;have r3:bg K (Z.frz Hf H Gs.flatten) H (.ow ((avs.map aA).map .sh)) (.ref p) [p]:=bg.new h1 (by rw[gf np];exact h2) r2
  have R3:=R2.again (F:=p::Gs.flatten) (G:=[p]) s1 r3 (by simp) fun q hq=>by rw[mSq.mp hq];exact o p (by simp)
  refine⟨_,s1,q _ _ _ p vs ⟨dR n,.refl _,fun b hb=>?_,fun b h g=>?_⟩ R3 h1 r2⟩
  .rcases dB hb with z|z
   .rw [mSq.mp z];exact mFq.mpr ⟨_,mGq s2,by simp⟩
   .exact z
  .by_cases m:b∈Gs.flatten
   .exact .inr (mFq.mpr ⟨_,mGq s2,mCo _ m⟩)
   .rw [gf m]at g;exact absurd h g
 .cases e
theorem SK.rOf{te:TE}{k:MK}(h:SK K te k):SR K te (rOf k):=by
 intro H₀ Hf₀ Hf S σ H Fs d S' R e Q q;obtain⟨x,ea,e⟩:=oMq.mp e;cases e;exact h R (a:=x.1) (S':=x.2) ea Q fun Hf' H' Fs' v F t R' r o=>q _ _ _ v t R' (r.rep R'.sub)
theorem SR.kSc{te:TE}{m:ME}(h:SR K te m):SK K te (kSc m):=by
 intro H₀ Hf₀ Hf S σ H Fs a S' R e Q q;obtain⟨x,ea,e⟩:=oBq.mp e;split at e
 .rename_i hs;cases e;exact h R (d:=x.1) (S':=x.2) ea Q fun Hf' H' Fs' v t R' r=>q _ _ _ v [] t R' (.sh (r.scal hs)) .nil
 .cases e
theorem SK.frz{te:TE}{k:MK}(h:SK K te k):SK K te (gO k):=by
 intro H₀ Hf₀ Hf S σ H Fs a S' R e Q q;obtain⟨x,ea,e⟩:=oMq.mp e;cases e;refine h R (a:=x.1) (S':=x.2) ea Q fun Hf' H' Fs' v F t R' r o=>?_
 obtain⟨R2,r2,t2⟩:=R'.give t r o;exact q _ _ _ v [] t2 R2 (.sh r2) .nil
theorem SK.lOf{te:TE}{k:MK}(h:SK K te k):SL K te (lOf k):=by
 intro H₀ Hf₀ Hf S σ H Fs ds S' R e Q q;obtain⟨x,ea,e⟩:=oBq.mp e;refine h R (a:=x.1) (S':=x.2) ea Q fun Hf' H' Fs' v F t R' r o=>?_
 split at e
 .rename_i ds' hx;cases e;rw[hx]at r;obtain⟨p,vs,rfl,h1,h2⟩:=r.sh_inv.2.list_inv;exact q _ _ _ p vs t R' (R'.sub _ _ h1) h2
 .rename_i avs hx;cases e;obtain⟨R2,r2,t2⟩:=R'.give t r o;rw[hx,eK]at r2;obtain⟨p,vs,rfl,h1,h2⟩:=r2.list_inv;exact q _ _ _ p vs t2 R2 (R2.sub _ _ h1) h2
 .cases e
theorem Mf{v:V}{d:D}(h:∀H,dk K H d v):SR K (tC v) (rC d):=by
 intro H₀ Hf₀ Hf S σ H Fs d' S' R e Q q;unfold rC at e;split at e
 .cases e;exact q _ _ _ v .refl R (h _)
 .cases e
theorem au{i:Int}:SR K (tC (.int i)) (rC (.int i)):=Mf fun _=>.int
theorem uS{i:Bool}:SR K (tC (.bl i)) (rC (.bl i)):=Mf fun _=>.bl
theorem G4{T:String}:SR K (tC (.ty T)) (rC (.ty T)):=Mf fun _=>.ty
end
def jj{α:Type}(p:Prop) (x:Option α):Option α:=@ite (Option α) p (RQ p) x none
theorem gL{α:Type}{p:Prop}(h:p) (x:Option α):jj p x=x:=if_pos h
theorem jI{α:Type}(x:Option α):jj True x=x:=if_pos trivial
theorem bu{α:Type}{p:Prop}{x y:Option α}(h:jj p x=y):(p/\x=y)∨none=y:=by
 by_cases c:p
 .rw [gL c]at h;exact .inl ⟨c,h⟩
 .exact .inr ((@if_neg p (RQ p) c _ x none).symm.trans h)
def aR(f:D->D->Option D) (a b:ME):ME:=fun S=>(a S).bind fun x=>(b x.2).bind fun y=>(f x.1 y.1).map fun d=>(d,y.2)
def qD(f:D->Option D) (a:ME):ME:=fun S=>(a S).bind fun x=>(f x.1).map fun d=>(d,x.2)
def xk(K:W.Frag) (r:R2) (f:D->D->Option D):Prop:=∀{x y:V}{H:Hp}{Q:VK}{dx dy d:D},dk K H dx x->dk K H dy y->f dx dy=some d->(∀v,dk K H d v->Q v H)->r x y H Q
def Qx(K:W.Frag) (r:V->Hp->VK->Prop) (f:D->Option D):Prop:=∀{x:V}{H:Hp}{Q:VK}{dx d:D},dk K H dx x->f dx=some d->(∀v,dk K H d v->Q v H)->r x H Q
section
variable {K:W.Frag}{r:R2}{f:D->D->Option D}{ta tb:TE}{a b:ME}
theorem aD(hr:xk K r f) (ha:SR K ta a) (hb:SR K tb b):SR K (IJ r ta tb) (aR f a b):=by
 intro H₀ Hf₀ Hf S σ H Fs d S' R e Q q;obtain⟨x,e1,e⟩:=oBq.mp e;obtain⟨y,e2,e⟩:=oBq.mp e;obtain⟨z,e3,e⟩:=oMq.mp e;cases e;refine ha R (d:=x.1) (S':=x.2) e1 _ fun Hf1 H1 Fs1 v1 t1 R1 r1=>hb R1 (d:=y.1) (S':=y.2) e2 _ fun Hf2 H2 Fs2 v2 t2 R2 r2=>?_
 exact hr (r1.mono t2.sh) r2 e3 fun v rv=>q _ _ _ v (t1.trans t2) R2 rv
theorem mN{r:V->Hp->VK->Prop}{f:D->Option D}(hr:Qx K r f) (ha:SR K ta a):SR K (Qv r ta) (qD f a):=by
 intro H₀ Hf₀ Hf S σ H Fs d S' R e Q q;obtain⟨x,e1,e⟩:=oBq.mp e;obtain⟨z,e3,e⟩:=oMq.mp e;cases e;exact ha R (d:=x.1) (S':=x.2) e1 _ fun Hf1 H1 Fs1 v1 t1 R1 r1=>hr r1 e3 fun v rv=>q _ _ _ v t1 R1 rv
end
def As(c:Int->Int->Prop) (g:Int->Int->D):D->D->Option D
 | .int i,.int j=>jj (c i j) (some (g i j))
 |_,_=>none
def Qs(g:Int->D):D->Option D
 | .int i=>some (g i)
 |_=>none
abbrev jv:=As (fun _ _=>True) fun i j=>.int (i+j)
abbrev kX:=As (fun _ _=>True) fun i j=>.int (i-j)
abbrev pX:=As GL fun i j=>.int (i*j)
abbrev ee:=As (fun _ j=>0<j) fun i j=>.int (i % j)
abbrev mD:=As K4 fun i j=>.int (i / j)
abbrev qX:=As Lq fun i j=>.int (i ^ j.toNat)
abbrev Kv:=As (fun _ _=>True) fun i j=>.bl (decide (i<j))
abbrev Rf:=As (fun _ _=>True) fun i j=>.bl (decide (i<=j))
abbrev uE:=As (fun _ _=>True) fun i j=>.bl (decide (j<i))
abbrev Rh:=As (fun _ _=>True) fun i j=>.bl (decide (j<=i))
abbrev gD:=Qs fun i=>.int (-i)
def DS(b:Bool):Option D:=some (.bl b)
def qA(x y:D):Option D:=match x with
 | .int i=>(match y with|.int j=>DS (decide (i=j))|.non=>DS false|.str _=>DS false|_=>none)
 | .str i=>(match y with|.str j=>DS (decide (i=j))|.non=>DS false|.int _=>DS false|_=>none)
 | .bl i=>(match y with|.bl j=>DS (decide (i=j))|.non=>DS false|_=>none)
 | .non=>(match y with|.non=>DS true|.int _=>DS false|.str _=>DS false|.bl _=>DS false|_=>none)
 |_=>none
def Dx:D->Option D
 | .bl b=>some (.bl (!b))
 |_=>none
def Dy(x y:D):Option D:=(qA x y).bind Dx
section
variable {K:W.Frag}
theorem ya{C:Int->Int->Prop}{g:Int->Int->V}{g':Int->Int->D}(hg:∀H i j,dk K H (g' i j) (g i j)):xk K (rI C g) (As C g'):=by
 intro x y H Q dx dy d rx ry e q;unfold As at e;split at e
 .rename_i i j;cases rx;cases ry;rcases bu e with ⟨h,e⟩|e
  .cases e;exact⟨i,j,rfl,rfl,h,q _ (hg H i j)⟩
  .cases e
 .cases e
theorem wk{g:Int->Int->V}{g':Int->Int->D}(hg:∀H i j,dk K H (g' i j) (g i j)):xk K (GB g) (As (fun _ _=>True) g'):=by
 intro x y H Q dx dy d rx ry e q;unfold As at e;split at e
 .rename_i i j;cases rx;cases ry;rw[jI]at e;cases e;exact⟨i,j,rfl,rfl,q _ (hg H i j)⟩
 .cases e
theorem kf:xk K (GB fun i j=>.int (i+j)) jv:=wk fun _ _ _=>.int
theorem ue:xk K (GB fun i j=>.int (i-j)) kX:=wk fun _ _ _=>.int
theorem wM:xk K (rI GL fun i j=>.int (i*j)) pX:=ya fun _ _ _=>.int
theorem dt:xk K (rI (fun _ j=>0<j) fun i j=>.int (i % j)) ee:=ya fun _ _ _=>.int
theorem nQ:xk K (rI K4 fun i j=>.int (i / j)) mD:=ya fun _ _ _=>.int
theorem vO:xk K (rI Lq fun i j=>.int (i ^ j.toNat)) qX:=ya fun _ _ _=>.int
theorem Ol:xk K (GB fun i j=>.bl (decide (i<j))) Kv:=wk fun _ _ _=>.bl
theorem qN:xk K (GB fun i j=>.bl (decide (j<i))) uE:=wk fun _ _ _=>.bl
theorem jg:Qx K (rU fun i=>.int (-i)) gD:=by
 intro x H Q dx d rx e q;cases rx <;> simp only[Qs]at e
 all_goals first|(exfalso;simp at e;done)|skip
 rename_i i;cases e;exact⟨i,rfl,q _ .int⟩
theorem mU:xk K Qk qA:=by
 intro x y H Q dx dy d rx ry e q;unfold qA at e;cases rx <;> first|(cases e;done)|(cases ry <;> first|(cases e;done)|skip)
 all_goals (cases e;refine⟨rfl,q _ ?_⟩;simp only[reduceCtorEq,decide_false,decide_true,V.int.injEq,V.str.injEq,V.bl.injEq];exact .bl)
theorem N6:xk K QC Dy:=by
 intro x y H Q dx dy d rx ry e q;obtain⟨b,e1,e2⟩:=oBq.mp e;obtain⟨h1,h2⟩:=mU rx ry e1 (Q:=fun v _=>dk K H b v) fun v h=>h
 cases h2;cases e2;exact⟨h1,q _ .bl⟩
end
def uA(a b:ME):ME:=fun S=>(a S).bind fun x=>match x.1 with
 | .bl true=>b x.2
 | .bl false=>some (.bl false,x.2)
 |_=>none
def Re(a b:ME):ME:=fun S=>(a S).bind fun x=>match x.1 with
 | .bl true=>some (.bl true,x.2)
 | .bl false=>b x.2
 |_=>none
def E6(a:ME):ME:=qD Dx a
def cD(a:ME):MT:=fun S=>(a S).bind fun x=>match x.1 with
 | .bl b=>some (b,x.2)
 |_=>none
def nY(a b:MT):MT:=fun S=>(a S).bind fun x=>if x.1=true then b x.2 else some (false,x.2)
def AQ(a b:MT):MT:=fun S=>(a S).bind fun x=>if x.1=true then some (true,x.2) else b x.2
def fJ(a:MT):MT:=fun S=>(a S).map fun x=>(!x.1,x.2)
def Rg(c:MT) (a b:ME):ME:=fun S=>(c S).bind fun x=>if x.1=true then a x.2 else b x.2
def Ri(c:MT) (a b:MK):MK:=fun S=>(c S).bind fun x=>if x.1=true then a x.2 else b x.2
section
variable {K:W.Frag}{ta tb:TE}{a b:ME}{ca cb:TT}{ma mb:MT}
theorem Ey(ha:SR K ta a) (hb:SR K tb b):SR K (JY ta tb) (uA a b):=by
 intro H₀ Hf₀ Hf S σ H Fs d S' R e Q q;obtain⟨x,e1,e⟩:=oBq.mp e;refine ha R (d:=x.1) (S':=x.2) e1 _ fun Hf1 H1 Fs1 v1 t1 R1 r1=>?_
 split at e
 .rename_i hx;rw[hx]at r1;cases r1;exact⟨true,rfl,Ah (hb R1 e Q fun Hf2 H2 Fs2 v2 t2 R2 r2=>q _ _ _ v2 (t1.trans t2) R2 r2)⟩
 .rename_i hx;rw[hx]at r1;cases r1;cases e;exact⟨false,rfl,zh (q _ _ _ _ t1 R1 .bl)⟩
 .cases e
theorem KU(ha:SR K ta a):SR K (J0 ta) (E6 a):=by
 intro H₀ Hf₀ Hf S σ H Fs d S' R e Q q;obtain⟨x,e1,e⟩:=oBq.mp e;obtain⟨z,e3,e⟩:=oMq.mp e;cases e;refine ha R (d:=x.1) (S':=x.2) e1 _ fun Hf1 H1 Fs1 v1 t1 R1 r1=>?_
 cases hx:x.1 <;> rw[hx]at e3 r1 <;> simp only[Dx]at e3
 all_goals first|(exfalso;simp at e3;done)|skip
 cases r1;cases e3;exact⟨_,rfl,q _ _ _ _ t1 R1 .bl⟩
theorem qO(ha:SR K ta a):Ak K (tB ta) (cD a):=by
 intro H₀ Hf₀ Hf S σ H Fs d S' R e Q q;obtain⟨x,e1,e⟩:=oBq.mp e;refine ha R (d:=x.1) (S':=x.2) e1 _ fun Hf1 H1 Fs1 v1 t1 R1 r1=>?_
 split at e
 .rename_i b hx;rw[hx]at r1;cases r1;cases e;exact⟨_,rfl,q _ _ _ t1 R1⟩
 .cases e
theorem cm(ha:SR K ta a):Ak K (J9 ta) (cD a):=qO ha
theorem zV(ha:Ak K ca ma) (hb:Ak K cb mb):Ak K (MC ca cb) (nY ma mb):=by
 intro H₀ Hf₀ Hf S σ H Fs d S' R e Q q;obtain⟨x,e1,e⟩:=oBq.mp e;refine ha R (b:=x.1) (S':=x.2) e1 _ fun Hf1 H1 Fs1 t1 R1=>?_
 split at e
 .rename_i hx;rw[hx];exact Ah (hb R1 e Q fun Hf2 H2 Fs2 t2 R2=>q _ _ _ (t1.trans t2) R2)
 .rename_i hx;cases e;rw[Ub]at hx;rw[hx];exact zh (q _ _ _ t1 R1)
theorem Gx(ha:Ak K ca ma):Ak K (M5 ca) (fJ ma):=by
 intro H₀ Hf₀ Hf S σ H Fs d S' R e Q q;obtain⟨x,e1,e⟩:=oMq.mp e;cases e;exact ha R (b:=x.1) (S':=x.2) e1 _ fun Hf1 H1 Fs1 t1 R1=>q _ _ _ t1 R1
end
abbrev cZ:Nat:=16777216
theorem iK:sizeLine=cZ:=sizeLine_eq
def SQ(K:W.Frag) (te:TE) (m:ML):Prop:=∀{H₀ Hf₀ Hf:Hp}{S:AS}{σ:St}{H:Hp}{Fs:List (List Addr)}{ds:List D}{S':AS},bA K H₀ Hf₀ Hf S σ H Fs->m S=some (ds,S')->∀Q:VK,
 (∀Hf' H' Fs' p vs,mq Hf H Fs Hf' H' Fs'->bA K H₀ Hf₀ Hf' S' σ H' Fs'->dZ K H' p vs->bN K Hf' ds vs->Q (.ref p) H')->te σ H Q
theorem SL.q{K:W.Frag}{te:TE}{m:ML}(h:SL K te m):SQ K te m:=by
 intro H₀ Hf₀ Hf S σ H Fs ds S' R e Q q;exact h R e Q fun Hf' H' Fs' p vs t R' hp r=>q _ _ _ p vs t R' (dZ.of hp) r
def eU(i:Nat):ML:=fun S=>match S[i]?.join with
 |some (.sh (.scr ns))=>some (ns.map .int,S)
 |some (.sh (.list ds))=>some (ds,S)
 |some (.ow avs)=>some (avs.map aA,S.set i (some (.ow ((avs.map aA).map .sh))))
 |_=>none
theorem fZ{K:W.Frag}{H:Hp}:∀ns:List Int,bN K H (ns.map .int) (ns.map V.int)
 | []=>.nil
 |n::ns=>.cons .int (fZ ns)
theorem jZ{K:W.Frag}(i:Nat):SQ K (kQ i) (eU i):=by
 intro H₀ Hf₀ Hf S σ H Fs ds S' R e Q q;unfold eU at e;split at e
 .rename_i ns ea;cases e;obtain⟨v,F,s1,s2,r⟩:=R.rep i _ (bp ea);cases r.sh_inv.2 with
  |scr h=>exact⟨_,s1,q _ _ _ _ _ .refl R (R.sub.seq h) (fZ ns)⟩
 .rename_i ds' ea;cases e;refine wF i R (ds:=ds) (S':=S) ?_ Q fun Hf' H' Fs' p vs t R' hp r=>q _ _ _ p vs t R' (dZ.of hp) r
  unfold uF;rw[ea]
 .rename_i avs ea;refine wF i R (ds:=ds) (S':=S') ?_ Q fun Hf' H' Fs' p vs t R' hp r=>q _ _ _ p vs t R' (dZ.of hp) r
  unfold uF;rw[ea];exact e
 .cases e
section
variable {K:W.Frag}{H₀ Hf₀ Hf Hf' H H':Hp}{S S':AS}{σ:St}{Fs Fs':List (List Addr)}
theorem bf.stp{as:List AV}{vs:List V}{Gs:List (List Addr)}(r:bf K Hf H as vs Gs) (ho:∀q∈Gs.flatten,q∉Fs.flatten) (t:mq Hf H Fs Hf' H' Fs'):bf K Hf' H' as vs Gs :=
 ⟨r.1,r.2.1,fun i a v F h1 h2 h3=>(r.2.2 i a v F h1 h2 h3).stp (fun q hq=>ho q (mFq.mpr ⟨F,mGq h3,hq⟩)) t⟩
end
def aG:MA:=fun S=>some ([],S)
def ar(k:MK) (r:MA):MA:=fun S=>(k S).bind fun x=>(r x.2).map fun y=>(x.1::y.1,y.2)
def ak:ML:=fun S=>some ([],S)
def ae(k:ME) (r:ML):ML:=fun S=>(k S).bind fun x=>(r x.2).map fun y=>(x.1::y.1,y.2)
section
variable {K:W.Frag}{te ta tb:TE}{tr:TA}
theorem aW:SA K mG aG:=by
 intro H₀ Hf₀ Hf S σ H Fs as S' R e Q q;cases e;exact q _ _ _ [] [] .refl R .nil .nil
theorem aH{k:MK}{r:MA}(hk:SK K te k) (hr:SA K tr r):SA K (iF te tr) (ar k r):=by
 intro H₀ Hf₀ Hf S σ H Fs as S' R e Q q;obtain⟨x,e1,e⟩:=oBq.mp e;obtain⟨y,e2,e⟩:=oMq.mp e;cases e;refine hk R (a:=x.1) (S':=x.2) e1 _ fun Hf1 H1 Fs1 v F t1 R1 r1 o1=>hr R1 (as:=y.1) (S':=y.2) e2 _ fun Hf2 H2 Fs2 vs Gs t2 R2 r2 o2=>?_
 refine q _ _ _ (v::vs) (F::Gs) (t1.trans t2) R2 (.cons (r1.stp o1.out t2) r2) ?_;rw[fCq];exact(o1.stp t2).app (o2.back t1) (o1.apart (Hf1:=Hf1) (fun q hq=>(r1.owned q hq).1) o2)
theorem aJ:Il K mG ak:=by
 intro H₀ Hf₀ Hf S σ H Fs as S' R e Q q;cases e;exact q _ _ _ [] .refl R .nil
theorem aq{k:ME}{r:ML}(hk:SR K te k) (hr:Il K tr r):Il K (iF te tr) (ae k r):=by
 intro H₀ Hf₀ Hf S σ H Fs as S' R e Q q;obtain⟨x,e1,e⟩:=oBq.mp e;obtain⟨y,e2,e⟩:=oMq.mp e;cases e;refine hk R (d:=x.1) (S':=x.2) e1 _ fun Hf1 H1 Fs1 v t1 R1 r1=>hr R1 (ds:=y.1) (S':=y.2) e2 _ fun Hf2 H2 Fs2 vs t2 R2 r2=>?_
 exact q _ _ _ (v::vs) (t1.trans t2) R2 (.cons (r1.mono t2.sh) r2)
end
def dW(a:MA):MK:=fun S=>(a S).bind fun x=>jj (x.1.length<=cZ) (some (.ow x.1,x.2))
def Jw(a:MA):MK:=fun S=>(a S).bind fun x=>jj (x.1.length<=cZ) (some (.sh (.tup (x.1.map aA)),x.2))
section
variable {K:W.Frag}{ta:TA}{a:MA}
theorem eG(ha:SA K ta a):SK K (MM ta) (dW a):=by
 intro H₀ Hf₀ Hf S σ H Fs av S' R e Q q;obtain⟨x,e1,e⟩:=oBq.mp e;rcases bu e with ⟨hl,e⟩|e
 .skip
  cases e;refine ha R (as:=x.1) (S':=x.2) e1 _ fun Hf1 H1 Fs1 vs Gs t1 R1 r1 o1=>⟨by rw[iK,←r1.1];exact hl,fun p hp=>?_⟩
  obtain⟨t2,R2,n1,n2,n3⟩:=R1.new (o:=.lst vs) hp;refine q _ _ _ (.ref p) (p::Gs.flatten) (t1.trans t2) R2 (bg.news aU n1 (r1.stp o1.out t2)) ?_;have o2:=(kR.one R1 hp).back t1;refine(show kR _ _ _ _ ([p]++Gs.flatten) from o2.app o1 fun q hq m=>?_)
  rw[mSq.mp hq]at m;exact(r1.owned p m).1 hp
 .cases e
end
def AL(a b:ML):MK:=fun S=>(a S).bind fun x=>(b x.2).bind fun y=>jj (x.1.length+y.1.length<=cZ) (some (.ow ((x.1++y.1).map .sh),y.2))
section
variable {K:W.Frag}{ta tb:TE}{a b:ML}
theorem E1(ha:SL K ta a) (hb:SL K tb b):SK K (IJ N5 ta tb) (AL a b):=by
 intro H₀ Hf₀ Hf S σ H Fs av S' R e Q q;obtain⟨x,e1,e⟩:=oBq.mp e;obtain⟨y,e2,e⟩:=oBq.mp e;rcases bu e with ⟨hl,e⟩|e
 .skip
  cases e;refine ha R (ds:=x.1) (S':=x.2) e1 _ fun Hf1 H1 Fs1 p1 vs1 t1 R1 h1 r1=>hb R1 (ds:=y.1) (S':=y.2) e2 _ fun Hf2 H2 Fs2 p2 vs2 t2 R2 h2 r2=>?_
  refine⟨p1,p2,vs1,vs2,rfl,rfl,t2.sh _ _ h1,h2,by rw[iK,←r1.1,←r2.1];exact hl,fun p hp=>?_⟩
  obtain⟨t3,R3,n1,n2,n3⟩:=R2.new (o:=.lst (vs1++vs2)) hp;exact q _ _ _ (.ref p) [p] ((t1.trans t2).trans t3) R3 (bg.new aU n1 ((r1.mono t2.sf).append r2)) ((kR.one R2 hp).back (t1.trans t2))
 .cases e
end
abbrev MO:=AS->Option (Option Int×AS)
def SO(K:W.Frag) (to:TO) (m:MO):Prop:=∀{H₀ Hf₀ Hf:Hp}{S:AS}{σ:St}{H:Hp}{Fs:List (List Addr)}{o:Option Int}{S':AS},bA K H₀ Hf₀ Hf S σ H Fs->m S=some (o,S')->∀Q:Option Int->Hp->Prop,
 (∀Hf' H' Fs',mq Hf H Fs Hf' H' Fs'->bA K H₀ Hf₀ Hf' S' σ H' Fs'->Q o H')->to σ H Q
def mS:MO:=fun S=>some (none,S)
def jd(m:ME):MO:=fun S=>(m S).bind fun x=>match x.1 with
 | .int i=>some (some i,x.2)
 |_=>none
def lg{α:Type}(xs:List α) (lo hi:Option Int):List α:=(xs.drop (HT.uD xs.length 0 lo)).take (HT.uD xs.length xs.length hi-HT.uD xs.length 0 lo)
def Fe(l:ML) (lo hi:MO):MK:=fun S=>(l S).bind fun x=>(lo x.2).bind fun y=>(hi y.2).map fun z=>(.ow ((lg x.1 y.1 z.1).map .sh),z.2)
section
variable {K:W.Frag}{te:TE}{tl th:TO}{l:ML}{lo hi:MO}{m:ME}
theorem wA:SO K B9 mS:=by
 intro H₀ Hf₀ Hf S σ H Fs o S' R e Q q;cases e;exact q _ _ _ .refl R
theorem oJ(h:SR K te m):SO K (J7 te) (jd m):=by
 intro H₀ Hf₀ Hf S σ H Fs o S' R e Q q;obtain⟨x,e1,e⟩:=oBq.mp e;refine h R (d:=x.1) (S':=x.2) e1 _ fun Hf1 H1 Fs1 v t1 R1 r1=>?_
 split at e
 .rename_i i hx;rw[hx]at r1;cases r1;cases e;exact⟨i,rfl,q _ _ _ t1 R1⟩
 .cases e
theorem bN.cut{H:Hp}{ds:List D}{vs:List V}(r:bN K H ds vs) (lo hi:Option Int):bN K H (lg ds lo hi) (A4 vs lo hi):=by
 unfold lg A4;rw[r.1];exact(r.drop _).take _
theorem BW(hl:SQ K te l) (hlo:SO K tl lo) (hhi:SO K th hi):SK K (Qe (N3 K) te tl th) (Fe l lo hi):=by
 intro H₀ Hf₀ Hf S σ H Fs av S' R e Q q;obtain⟨x,e1,e⟩:=oBq.mp e;obtain⟨y,e2,e⟩:=oBq.mp e;obtain⟨z,e3,e⟩:=oMq.mp e;cases e;refine hl R (ds:=x.1) (S':=x.2) e1 _ fun Hf1 H1 Fs1 p1 vs1 t1 R1 h1 r1=>hlo R1 (o:=y.1) (S':=y.2) e2 _ fun Hf2 H2 Fs2 t2 R2=>hhi R2 (o:=z.1) (S':=z.2) e3 _ fun Hf3 H3 Fs3 t3 R3=>?_
 refine⟨p1,vs1,rfl,(t2.sh.trans t3.sh).seq h1,fun p hp=>?_⟩
 obtain⟨t4,R4,n1,n2,n3⟩:=R3.new (o:=.lst (A4 vs1 y.1 z.1)) hp;exact q _ _ _ (.ref p) [p] (((t1.trans t2).trans t3).trans t4) R4 (bg.new aU n1 ((r1.mono (t2.sf.trans t3.sf)).cut _ _)) ((kR.one R3 hp).back ((t1.trans t2).trans t3))
end
def zB:D->D->Option D
 | .list ds,.int i=>atI ds i
 | .scr ns,.int i=>(atI ns i).map .int
 |_,_=>none
def LW:D->D->Option D
 | .tup ds,.int i=>atI ds i
 |_,_=>none
def KI(l:ML) (b:ME):MK:=fun S=>(l S).bind fun x=>(b x.2).bind fun y=>match y.1 with
 | .int i=>(atI x.1 i).map fun d=>(.sh d,y.2)
 |_=>none
def Pp(k:MK) (b:ME):MK:=fun S=>(k S).bind fun x=>(b x.2).bind fun y=>match x.1,y.1 with
 | .sh (.tup ds),.int i=>(atI ds i).map fun d=>(.sh d,y.2)
 |_,_=>none
section
variable {K:W.Frag}{ta tb:TE}
theorem bN.atI{H:Hp}{ds:List D}{vs:List V}{i:Int}{d:D}(r:bN K H ds vs) (h:L2.atI ds i=some d):∃v,L2.atI vs i=some v/\dk K H d v:=by
 unfold L2.atI at h ⊢;rw[r.1]at h;obtain⟨j,h1,h2⟩:=oBq.mp h;rw[h1];exact r.get h2
theorem uk:xk K (IU K) zB:=by
 intro x y H Q dx dy d rx ry e q;unfold zB at e;split at e
 .rename_i ds i;cases ry;obtain⟨p,vs,rfl,h,r⟩:=rx.list_inv;obtain⟨l,e'⟩:=r;obtain⟨v,h1,h2⟩:=bN.atI (K:=K) (H:=H) (ds:=ds) (vs:=vs) ⟨l,e'⟩ e;exact⟨p,vs,i,v,rfl,rfl,dZ.of h,h1,q v h2⟩
 .rename_i ns i;cases ry;cases rx;rename_i p h;obtain⟨n,h1,h2⟩:=oMq.mp e;subst h2;obtain⟨v,h3,h4⟩:=bN.atI (K:=K) (H:=H) (fZ ns) (i:=i) (d:=.int n) (by
   unfold L2.atI at h1 ⊢;rw[lMq];obtain⟨j,g1,g2⟩:=oBq.mp h1;rw[g1];show (ns.map D.int)[j]?=_;rw[gMq,g2];rfl)
  exact⟨p,_,i,v,rfl,rfl,h,h3,q v h4⟩
 .cases e
theorem Na{l:ML}{b:ME}(hl:SQ K ta l) (hb:SR K tb b):SK K (IJ (IU K) ta tb) (KI l b):=by
 intro H₀ Hf₀ Hf S σ H Fs av S' R e Q q;obtain⟨x,e1,e⟩:=oBq.mp e;obtain⟨y,e2,e⟩:=oBq.mp e;refine hl R (ds:=x.1) (S':=x.2) e1 _ fun Hf1 H1 Fs1 p1 vs1 t1 R1 h1 r1=>hb R1 (d:=y.1) (S':=y.2) e2 _ fun Hf2 H2 Fs2 v2 t2 R2 r2=>?_
 split at e
 .rename_i i hy;rw[hy]at r2;cases r2;obtain⟨d,e3,e⟩:=oMq.mp e;cases e;obtain⟨v,g1,g2⟩:=(r1.mono t2.sf).atI e3;exact⟨p1,vs1,i,v,rfl,rfl,t2.sh.seq h1,g1,q _ _ _ v [] (t1.trans t2) R2 (.sh g2) .nil⟩
 .cases e
end
def MD(K:W.Frag) (r:List V->Hp->VK->Prop) (f:List D->Option D):Prop:=∀{vs:List V}{H:Hp}{Q:VK}{ds:List D}{d:D},bN K H ds vs->f ds=some d->(∀v,dk K H d v->Q v H)->r vs H Q
def dD(f:List D->Option D) (a:ML):ME:=fun S=>(a S).bind fun x=>(f x.1).map fun d=>(d,x.2)
theorem dP{K:W.Frag}{r:List V->Hp->VK->Prop}{f:List D->Option D}{ta:TA}{a:ML}(hr:MD K r f) (ha:Il K ta a):SR K (Jj r ta) (dD f a):=by
 intro H₀ Hf₀ Hf S σ H Fs d S' R e Q q;obtain⟨x,e1,e⟩:=oBq.mp e;obtain⟨z,e3,e⟩:=oMq.mp e;cases e;exact ha R (ds:=x.1) (S':=x.2) e1 _ fun Hf1 H1 Fs1 vs t1 R1 r1=>hr r1 e3 fun v rv=>q _ _ _ v t1 R1 rv
def bS:List D->Option D
 | [.list ds]=>some (.int ds.length)
 | [.tup ds]=>some (.int ds.length)
 | [.scr ns]=>some (.int ns.length)
 | [.str x]=>jj (x.length<=cZ) (some (.int x.length))
 |_=>none
def PV:List D->Option D
 | [.int i]=>some (.int (if i<0 then -i else i))
 |_=>none
def Qr:List D->Option D
 | [.int i,.int j]=>some (.int (if j>i then j else i))
 |_=>none
def Qj:List D->Option D
 | [.int i,.int j]=>some (.int (if j<i then j else i))
 |_=>none
def Qq:List D->Option D
 | [.int i]=>some (.int i)
 | [.bl k]=>some (.int (if k then 1 else 0))
 |_=>none
def NC:D->String->Option D
 | .int _,T=>if T = "int" then some (.bl true) else if T = "bool" then some (.bl false) else none
 | .bl _,T=>if T = "bool" ∨ T = "int" then some (.bl true) else none
 | .str _,T=>if T = "str" then some (.bl true) else none
 | .list _,T=>if T = "list" then some (.bl true) else none
 | .tup _,T=>if T = "tuple" then some (.bl true) else none
 | .dict _,T=>if T = "dict" then some (.bl true) else none
 |_,_=>none
def nO:List D->Option D
 | [x,.ty T]=>NC x T
 |_=>none
def dA:List D->Option (List Int)
 | []=>some []
 | .int i::ds=>(dA ds).map (i :: ·)
 |_=>none
theorem gT:∀{ds:List D}{ns:List Int},dA ds=some ns->ds=ns.map .int
 | [],ns,h=>by cases h;rfl
 |d::ds,ns,h=>by
  cases d with
  |int i =>
   obtain⟨ms,h1,h2⟩:=oMq.mp (show (dA ds).map (i :: ·)=some ns from h)
   subst h2;rw[gT h1];rfl
  |_=>cases h
@[simp] theorem fS (ns:List Int):dA (ns.map .int)=some ns:=by
 induction ns with
 |nil=>rfl
 |cons n ns ih=>show (dA (ns.map .int)).map (n :: ·)=_;rw[ih];rfl
theorem dN{K:W.Frag}{H:Hp}:∀{ns:List Int}{vs:List V},bN K H (ns.map .int) vs->vs=ns.map V.int
 | [],vs,h=>h.nil_inv
 |n::ns,vs,h=>by
  obtain⟨v,ws,rfl,h1,h2⟩:=bN.cons_inv (d:=.int n) (ds:=ns.map .int) h;cases h1;rw[dN h2];rfl
def Be:List Int->Option Int
 | []=>none
 |n::ns=>some (ns.foldl min n)
theorem jn:∀(ns:List Int) (n:Int),ns.foldl min n∈n::ns
 | [],n=>by simp
 |m::ns,n=>by
  have h:=jn ns (min n m);rw[Ss];rcases Rl.mp h with e|e
  .rw [e]
   by_cases c:n<=m
   .rw [Int.min_eq_left c];simp
   .rw [Int.min_eq_right (by lia)];simp
  .exact mCo _ (mCo _ e)
theorem gQ:∀(ns:List Int) (n:Int),(ns.foldl min n<=n)/\∀x∈ns,ns.foldl min n<=x
 | [],n=>⟨UO _,fun x h=>by cases h⟩
 |m::ns,n=>by
  obtain⟨h1,h2⟩:=gQ ns (min n m);rw[Ss];refine⟨by lia,fun x hx=>?_⟩
  rcases Rl.mp hx with e|e
  .subst e;lia
  .exact h2 x e
def GS:List D->Option D
 | [.list ds]=>(dA ds).bind fun ns=>(Be ns).map .int
 |_=>none
section
variable {K:W.Frag}
theorem dO:MD K (fun xs H Q=>∃x n,xs=[x]/\N0 K x H n/\Q (.int n) H) bS:=by
 intro vs H Q ds d r e q;unfold bS at e;split at e
 .obtain ⟨v,ws,rfl,h1,h2⟩:=r.cons_inv;rw[h2.nil_inv];obtain⟨p,us,rfl,h3,h4⟩:=h1.list_inv;cases e;exact⟨_,_,rfl,.inl ⟨us,dZ.of h3,h4.1⟩,q _ .int⟩
 .obtain ⟨v,ws,rfl,h1,h2⟩:=r.cons_inv;rw[h2.nil_inv];obtain⟨p,us,rfl,h3,h4⟩:=h1.tup_inv;cases e;exact⟨_,_,rfl,.inr ⟨us,zz.of h3,h4.1⟩,q _ .int⟩
 .obtain ⟨v,ws,rfl,h1,h2⟩:=r.cons_inv;rw[h2.nil_inv];cases e;cases h1 with
  |scr h=>exact⟨_,_,rfl,.inl ⟨_,h,(lMq _).symm⟩,q _ .int⟩
 .rcases bu e with ⟨hl,e⟩|e
  .skip
   obtain⟨v,ws,rfl,h1,h2⟩:=r.cons_inv;rw[h2.nil_inv];cases e;cases h1;exact⟨_,_,rfl,⟨by rw[iK];exact hl,rfl⟩,q _ .int⟩
  .cases e
 .cases e
theorem LS:MD K (fun xs H Q=>∃(a:Addr) (ns:List Int),xs=[.ref a]/\dZ K H a (ns.map V.int)/\0<ns.length/\∀M,M∈ns->(∀x,x∈ns->M<=x)->Q (.int M) H) GS:=by
 intro vs H Q ds d r e q;unfold GS at e;split at e
 .obtain ⟨v,ws,rfl,h1,h2⟩:=r.cons_inv;rw[h2.nil_inv];obtain⟨ns,e1,e⟩:=oBq.mp e;obtain⟨m,e2,e⟩:=oMq.mp e;cases e;rw[gT e1]at h1;obtain⟨p,us,rfl,h3,h4⟩:=h1.list_inv;rw[dN h4]at h3;cases ns with
  |nil=>cases e2
  |cons n ns =>
   cases e2;refine⟨p,_,rfl,dZ.of h3,by simp,fun M hM hm=>?_⟩
   have e3:M=ns.foldl min n:=by
    have a1:=hm _ (jn ns n);have a2:=gQ ns n;have a3:ns.foldl min n<=M:=by
     rcases Rl.mp hM with z|z
     .subst z;exact a2.1
     .exact a2.2 M z
    lia
   rw[e3];exact q _ .int
 .cases e
theorem Aj:MD K (fun xs H Q=>∃x T b,xs=[x,.ty T]/\Nj K x H T b/\Q (.bl b) H) nO:=by
 intro vs H Q ds d r e q;unfold nO at e;split at e
 rotate_left
 .cases e
 rename_i x T;obtain⟨v,ws,rfl,h1,h2⟩:=r.cons_inv;obtain⟨u,zs,rfl,h3,h4⟩:=h2.cons_inv;rw[h4.nil_inv];cases h3;unfold NC at e;cases x <;> first|(cases e;done)|dsimp only at e
 case int =>
  cases h1;split at e
  .rename_i hT;cases e;exact⟨_,_,_,rfl,.inl ⟨hT,rfl⟩,q _ .bl⟩
  .split at e
   .rename_i hT;cases e;exact⟨_,_,_,rfl,.inr ⟨hT,rfl⟩,q _ .bl⟩
   .cases e
 case bl =>
  cases h1;split at e
  .rename_i hT;cases e;rcases hT with hT|hT
   .exact ⟨_,_,_,rfl,.inl ⟨hT,rfl⟩,q _ .bl⟩
   .exact ⟨_,_,_,rfl,.inr ⟨hT,rfl⟩,q _ .bl⟩
  .cases e
 case str =>
  cases h1;split at e
  .rename_i hT;cases e;exact⟨_,_,_,rfl,⟨hT,rfl⟩,q _ .bl⟩
  .cases e
 case list =>
  obtain⟨p,us,rfl,g3,g4⟩:=h1.list_inv;split at e
  .rename_i hT;cases e;exact⟨_,_,_,rfl,.inl ⟨hT,rfl,us,dZ.of g3⟩,q _ .bl⟩
  .cases e
 case tup =>
  obtain⟨p,us,rfl,g3,g4⟩:=h1.tup_inv;split at e
  .rename_i hT;cases e;exact⟨_,_,_,rfl,.inr (.inr ⟨hT,rfl,us,zz.of g3⟩),q _ .bl⟩
  .cases e
 case dict =>
  obtain⟨p,us,rfl,g3,g4⟩:=h1.dict_inv;split at e
  .rename_i hT;cases e;exact⟨_,_,_,rfl,.inr (.inl ⟨hT,rfl,us,g3⟩),q _ .bl⟩
  .cases e
end
abbrev MF:=List D->Option AV
def bT(K:W.Frag) (f:MF):Sp:=fun vs H Q _=>∃(Hf:Hp) (ds:List D) (a:AV),bD Hf H/\bN K Hf ds vs/\f ds=some a /\
 ∀Hf' H' v F,bD Hf Hf'->bD H H'->bD Hf' H'->(∀b,Hf b=none->H b≠none->Hf' b=none)->bg K Hf' H' a v F->F.Nodup->(∀q∈F,H q=none)->Q v H'
def aM(f:MF) (a:MA):MK:=fun S=>(a S).bind fun x=>(f (x.1.map aA)).map fun r=>(r,x.2)
theorem bQ{K:W.Frag}{f:MF}{ta:TA}{a:MA}(ha:SA K ta a):SK K (BI (bT K f) [] E0 ta) (aM f a):=by
 intro H₀ Hf₀ Hf S σ H Fs av S' R e Q q;obtain⟨x,e1,e⟩:=oBq.mp e;obtain⟨z,e3,e⟩:=oMq.mp e;cases e;refine ha R (as:=x.1) (S':=x.2) e1 _ fun Hf1 H1 Fs1 vs Gs t1 R1 r1 o1=>?_
 obtain⟨R2,r2,t2⟩:=R1.gives t1 r1 o1;rw[aNq];refine⟨_,_,av,R2.sub,r2,e3,fun Hf' H' v F s1 s2 s3 l r nd fr=>?_⟩
 have t3:mq (Z.frz Hf1 H1 Gs.flatten) H1 Fs1 Hf' H' Fs1:=⟨s1,s2,fun _ h=>h,fun b h g=>.inl (by
  by_cases e:H1 b=none
  .exact e
  .exact absurd (l b h e) g)⟩
 have hn:∀q∈Fs1.flatten,Hf' q=none:=fun q hq=>l q (R2.mem hq).2 (R2.mem hq).1
 have R3:bA K H₀ Hf₀ Hf' x.2 σ H' Fs1:=R2.more s2 s1 s3 hn fun b h1 h2=>l b (R2.lim b h1 h2) (IQ R2.fr h2)
 refine q _ _ _ v F (t2.trans t3) R3 r ⟨nd,fun q hq=>R2.fr.free (fr q hq),fun q hq m=>(R2.mem m).1 (fr q hq),fun q hq=>.inl (t1.sh.free (fr q hq))⟩
inductive BX where
 |nx (S:AS)|rt (a:AV)|bk (S:AS)|ct (S:AS)
abbrev MS:=AS->Option BX
def uX(K:W.Frag) (H₀ Hf₀ Hf:Hp) (D:mV):BX->Prop
 | .nx S=>∀Hf' σ' H' Fs',bD Hf Hf'->bA K H₀ Hf₀ Hf' S σ' H' Fs'->D.nx σ' H'
 | .bk S=>∀Hf' σ' H' Fs',bD Hf Hf'->bA K H₀ Hf₀ Hf' S σ' H' Fs'->D.bk σ' H'
 | .ct S=>∀Hf' σ' H' Fs',bD Hf Hf'->bA K H₀ Hf₀ Hf' S σ' H' Fs'->D.ct σ' H'
 | .rt a=>∀Hf' H' v F,bD Hf₀ Hf'->bD H₀ H'->bD Hf' H'->(∀b,Hf₀ b=none->H₀ b≠none->Hf' b=none)->bg K Hf' H' a v F->F.Nodup->(∀q∈F,H₀ q=none)->D.rt v H'
def SS(K:W.Frag) (t:TS) (m:MS):Prop:=∀{H₀ Hf₀ Hf:Hp}{S:AS}{σ:St}{H:Hp}{Fs:List (List Addr)}{o:BX},bA K H₀ Hf₀ Hf S σ H Fs->m S=some o->∀D:mV,uX K H₀ Hf₀ Hf D o->t D σ H
theorem uX.mono{K:W.Frag}{H₀ Hf₀ Hf Hf':Hp}{D:mV}{o:BX}(s:bD Hf Hf') (h:uX K H₀ Hf₀ Hf D o):uX K H₀ Hf₀ Hf' D o:=by
 cases o with
 |nx S=>exact fun Hf2 σ' H' Fs' s2 R=>h Hf2 σ' H' Fs' (s.trans s2) R
 |bk S=>exact fun Hf2 σ' H' Fs' s2 R=>h Hf2 σ' H' Fs' (s.trans s2) R
 |ct S=>exact fun Hf2 σ' H' Fs' s2 R=>h Hf2 σ' H' Fs' (s.trans s2) R
 |rt a=>exact h
def bh:MS:=fun S=>some (.nx S)
def P1:MS:=fun S=>some (.bk S)
def QH:MS:=fun S=>some (.ct S)
def PK:MS:=fun _=>none
def ao(a b:MS):MS:=fun S=>(a S).bind fun o=>match o with
 | .nx S'=>b S'
 |o=>some o
def aC(i:Nat) (k:MK):MS:=fun S=>(k S).map fun x=>.nx (x.2.set i (some x.1))
def Qi(k:MK):MS:=fun S=>(k S).map fun x=>.nx x.2
def bw(k:MK):MS:=fun S=>(k S).map fun x=>.rt x.1
def jt(c:MT) (a b:MS):MS:=fun S=>(c S).bind fun x=>if x.1=true then a x.2 else b x.2
section
variable {K:W.Frag}{t u:TS}{a b:MS}{te:TE}{k:MK}
theorem fD:SS K J5 bh:=by
 intro H₀ Hf₀ Hf S σ H Fs o R e D h;cases e;exact h _ _ _ _ (.refl _) R
theorem az(ha:SS K t a) (hb:SS K u b):SS K (FB t u) (ao a b):=by
 intro H₀ Hf₀ Hf S σ H Fs o R e D h;obtain⟨x,e1,e⟩:=oBq.mp e;refine ha R e1 _ ?_;cases x with
 |nx S'=>exact fun Hf' σ' H' Fs' s R'=>hb R' e D (h.mono s)
 |rt a=>cases e;exact h
 |bk a=>cases e;exact h
 |ct a=>cases e;exact h
theorem aO{i:Nat}(hk:SK K te k):SS K (AN te (eZ i)) (aC i k):=by
 intro H₀ Hf₀ Hf S σ H Fs o R e D h;obtain⟨x,e1,e⟩:=oMq.mp e;cases e;refine hk R (a:=x.1) (S':=x.2) e1 _ fun Hf1 H1 Fs1 v F t1 R1 r1 o1=>?_
 exact h _ _ _ _ t1.sf (R1.set i r1 o1.nd fun q hq=>⟨o1.fr q hq,o1.out q hq⟩)
theorem bK(hk:SK K te k):SS K (NI te) (bw k):=by
 intro H₀ Hf₀ Hf S σ H Fs o R e D h;obtain⟨x,e1,e⟩:=oMq.mp e;cases e;exact hk R (a:=x.1) (S':=x.2) e1 _ fun Hf1 H1 Fs1 v F t1 R1 r1 o1=>h _ _ v F R1.sf R1.fr R1.sub R1.lim r1 o1.nd o1.fr
theorem lO{c:TT}{m:MT}(hc:Ak K c m) (ha:SS K t a) (hb:SS K u b):SS K (HG c t u) (jt m a b):=by
 intro H₀ Hf₀ Hf S σ H Fs o R e D h;obtain⟨x,e1,e⟩:=oBq.mp e;refine hc R (b:=x.1) (S':=x.2) e1 _ fun Hf1 H1 Fs1 t1 R1=>?_
 split at e
 .rename_i hx;rw[hx];exact Ah (ha R1 e D (h.mono t1.sf))
 .rename_i hx;rw[Ub]at hx;rw[hx];exact zh (hb R1 e D (h.mono t1.sf))
end
def cu(S:AS) (i:Nat):Option (List AV):=match S[i]?.join with
 |some (.ow avs)=>some avs
 |_=>none
def ja(S:AS) (i:Nat):Option (List (aN×D)):=match S[i]?.join with
 |some (.owd kvs)=>some kvs
 |_=>none
def gJ(i:Nat) (k:MK):MS:=fun S=>(cu S i).bind fun _=>(k S).bind fun x=>(cu x.2 i).bind fun avs =>
 jj (avs.length<cZ) (some (.nx (x.2.set i (some (.ow (avs++[x.1]))))))
def C0(i:Nat) (l:ML):MS:=fun S=>(cu S i).bind fun _=>(l S).bind fun x=>(cu x.2 i).bind fun avs =>
 jj (avs.length+x.1.length<=cZ) (some (.nx (x.2.set i (some (.ow (avs++x.1.map .sh))))))
def intOf:D->Option Int
 | .int i=>some i
 |_=>none
def QL(i:Nat) (b:ME) (k:MK):MS:=fun S=>(gO k S).bind fun x=>(cu x.2 i).bind fun _=>(b x.2).bind fun y=>(cu y.2 i).bind fun avs=>(intOf y.1).bind fun j=>(xo avs.length j).map fun n =>
 .nx (y.2.set i (some (.ow (((avs.map aA).set n (aA x.1)).map .sh))))
def gH:D->Option aN
 | .int i=>some (.inl i)
 | .str x=>some (.inr x)
 |_=>none
def jL(kvs:List (aN×D)) (k:aN) (d:D):List (aN×D):=if kvs.any (fun kv=>decide (kv.1=k)) then kvs.map (fun kv=>if kv.1=k then (kv.1,d) else kv) else kvs++[(k,d)]
def getD(kvs:List (aN×D)) (k:aN):Option D:=(kvs.find? fun kv=>decide (kv.1=k)).map (·.2)
def il(i:Nat) (b:ME) (k:MK):MS:=fun S=>(gO k S).bind fun x=>(ja x.2 i).bind fun _=>(b x.2).bind fun y=>(ja y.2 i).bind fun kvs=>(gH y.1).bind fun key =>
 jj (kvs.length<cZ) (some (.nx (y.2.set i (some (.owd (jL kvs key (aA x.1)))))))
section
variable {K:W.Frag}{H₀ Hf₀ Hf H:Hp}{S:AS}{σ:St}{Fs:List (List Addr)}
theorem bA.turn(R:bA K H₀ Hf₀ Hf S σ H Fs) {i:Nat}{av:AV}{p:Addr}{o:HO}{F F':List Addr}(s1:σ[i]?=some (some (.ref p))) (s2:Fs[i]?=some F) (hp:p∈F) (r:bg K Hf (cI H p o) av (.ref p) F') (nd:F'.Nodup)
  (hf:∀q∈F',H₀ q=none/\q∉(Fs.set i []).flatten):bA K H₀ Hf₀ Hf (S.set i (some av)) σ (cI H p o) (Fs.set i F'):=by
 have hin:p∈Fs.flatten:=mFq.mpr ⟨F,mGq s2,hp⟩;have pn:Hf p=none:=(R.mem hin).2;have p0:H₀ p=none:=R.fresh p hin;have out:=fG R.nd s2 hp;have R1:bA K H₀ Hf₀ Hf (S.set i none) σ (cI H p o) (Fs.set i []):=by
  refine⟨by simp[R.len],by simp[R.lenF],fun j a ej=>?_,fun j ej=>?_,df i R.nd R7 (fun p hp=>by cases hp),fun p hp=>R.fresh p (cj hp),fun b u e=>?_,fun b u e=>?_,R.lim,R.sf⟩
  .rw [Su]at ej
   by_cases hij:i=j
   .subst hij;rw[if_pos rfl]at ej;split at ej <;> cases ej
   .rw [if_neg hij]at ej;obtain⟨w,G,f1,f2,q⟩:=R.rep j a ej;refine⟨w,G,f1,by rw[Ry hij];exact f2,q.keep (.refl _) (fun c hc=>aL fun e=>out ?_) fun c hc=>(q.owned c hc).2⟩
    subst e;exact mFq.mpr ⟨G,mGq (i:=j) (by rw[Ry hij];exact f2),hc⟩
  .rw [Su]at ej
   by_cases hij:i=j
   .subst hij;rw[if_pos rfl]at ej;split at ej
    .rename_i hi;rw[Rz (R.lenF.symm ▸ hi)]
    .cases ej
   .rw [if_neg hij]at ej;rw[Ry hij];exact R.emp j ej
  .rw [aL fun z=>by rw[z,pn]at e;cases e]
   exact R.sub b u e
  .rw [aL fun z=>by rw[z,p0]at e;cases e]
   exact R.fr b u e
 exact R1.again (F:=F) s1 r nd hf
theorem bH{i:Nat}{F:List Addr}{q:Addr}(s2:Fs[i]?=some F) (h:q∈F):q∈Fs.flatten:=mFq.mpr ⟨F,mGq s2,h⟩
theorem bf.snoc{as:List AV}{vs:List V}{Gs:List (List Addr)}{a:AV}{v:V}{F:List Addr}(r:bf K Hf H as vs Gs) (s:bg K Hf H a v F):bf K Hf H (as++[a]) (vs++[v]) (Gs++[F]):=by
 obtain⟨h1,h2,h3⟩:=r;refine⟨by simp[h1],by simp[h2],fun i b w G e1 e2 e3=>?_⟩
 by_cases hi:i<as.length
 .rw [gZq hi]at e1;rw[gZq (h1 ▸ hi)]at e2;rw[gZq (h2 ▸ hi)]at e3;exact h3 i b w G e1 e2 e3
 .have hi':i=as.length:=by
   have:=(gSq.mp e1).1;rw[lAq,lSq]at this;lia
  subst hi';rw[gYq (Rk _),TB]at e1;rw[h1,gYq (Rk _),TB]at e2;rw[h2,gYq (Rk _),TB]at e3;cases e1;cases e2;cases e3;exact s
theorem bf.keepUpd{as:List AV}{vs:List V}{Gs:List (List Addr)}{p:Addr}{o:HO}(r:bf K Hf H as vs Gs) (hp:p∉Gs.flatten):bf K Hf (cI H p o) as vs Gs :=
 ⟨r.1,r.2.1,fun i a v F h1 h2 h3=>by
  have q:=r.2.2 i a v F h1 h2 h3;refine q.keep (.refl _) (fun c hc=>aL fun e=>hp ?_) fun c hc=>(q.owned c hc).2
  subst e;exact mFq.mpr ⟨F,mGq h3,hc⟩⟩
theorem bg.keepUpd{a:AV}{v:V}{F:List Addr}{p:Addr}{o:HO}(q:bg K Hf H a v F) (hp:p∉F):bg K Hf (cI H p o) a v F :=
 q.keep (.refl _) (fun c hc=>aL fun e=>hp (e ▸ hc)) fun c hc=>(q.owned c hc).2
theorem Jx{ds:List D}{vs:List V}(r:bN K Hf ds vs):bf K Hf H (ds.map .sh) vs (SD ds.length []) :=
 ⟨by simp[r.1],by simp,fun i a v F h1 h2 h3=>by
  rw[gMq]at h1;cases q:ds[i]? with
  |none=>rw[q]at h1;cases h1
  |some d =>
   rw[q]at h1;cases h1;have:F=[]:=T8 (mGq h3);subst this;exact .sh (r.2 i d v q h2)⟩
theorem bf.append{as bs:List AV}{vs ws:List V}{Gs Es:List (List Addr)}(r:bf K Hf H as vs Gs) (s:bf K Hf H bs ws Es):bf K Hf H (as++bs) (vs++ws) (Gs++Es):=by
 obtain⟨h1,h2,h3⟩:=r;refine⟨by simp[h1,s.1],by simp[h2,s.2.1],fun i b w G e1 e2 e3=>?_⟩
 by_cases hi:i<as.length
 .rw [gZq hi]at e1;rw[gZq (h1 ▸ hi)]at e2;rw[gZq (h2 ▸ hi)]at e3;exact h3 i b w G e1 e2 e3
 .rw [gYq (by lia)]at e1
  rw[gYq (by lia),←h1]at e2
  rw[gYq (by lia),←h2]at e3
  exact s.2.2 _ b w G e1 e2 e3
end
section
variable {K:W.Frag}{te ta tb:TE}{k:MK}{b:ME}{l:ML}
theorem bx{S:AS}{i:Nat}{avs:List AV}(h:cu S i=some avs):S[i]?=some (some (.ow avs)):=by
 unfold cu at h;split at h
 .rename_i z e;cases h;exact bp e
 .cases h
theorem ni{S:AS}{i:Nat}{kvs:List (aN×D)}(h:ja S i=some kvs):S[i]?=some (some (.owd kvs)):=by
 unfold ja at h;split at h
 .rename_i z e;cases h;exact bp e
 .cases h
theorem bA.ow{H₀ Hf₀ Hf H:Hp}{S:AS}{σ:St}{Fs:List (List Addr)}(R:bA K H₀ Hf₀ Hf S σ H Fs) {i:Nat}{avs:List AV}(h:S[i]?=some (some (.ow avs))):∃p vs Gs,σ[i]?=some (some (.ref p))/\Fs[i]?=some (p::Gs.flatten)/\H p=some (.lst vs)/\Hf p=none/\bf K Hf H avs vs Gs /\
  p∉Gs.flatten/\Gs.flatten.Nodup/\∀q∈p::Gs.flatten,H₀ q=none/\q∉(Fs.set i []).flatten:=by
 obtain⟨v,F,s1,s2,r,nd,o,_⟩:=R.move h;obtain⟨p,vs,Gs,rfl,rfl,h1,h2,h3⟩:=r.ow_inv;exact⟨p,vs,Gs,s1,s2,h1,h2,h3,(Rp.mp nd).1,(Rp.mp nd).2,o⟩
theorem lZ{i:Nat}(hk:SK K te k):SS K (qS (He K "list" mj (kQ i) (iF te mG))) (gJ i k):=by
 intro H₀ Hf₀ Hf S σ H Fs o R e D h;obtain⟨a0,e0,e⟩:=oBq.mp e;obtain⟨x,e1,e⟩:=oBq.mp e;obtain⟨avs,e2,e⟩:=oBq.mp e;rcases bu e with ⟨hl,e⟩|e
 .skip
  cases e;obtain⟨p,vs,Gs,s1,_,h1,_⟩:=R.ow (bx e0);refine⟨.ref p,s1,.inl ⟨rfl,vs,dZ.of h1⟩,hk R (a:=x.1) (S':=x.2) e1 _ fun Hf1 H1 Fs1 v F t1 R1 r1 o1=>?_⟩
  obtain⟨p',vs',Gs',s1',s2',h1',h2',h3',h4',h5',h6'⟩:=R1.ow (bx e2);rw[s1]at s1';cases s1';have pF:p∉F:=fun m=>o1.out p m (bH s2' (by simp))
  refine⟨p,vs',v,rfl,rfl,h1',by rw[iK,←h3'.1];exact hl,h _ _ _ _ t1.sf (R1.turn s1 s2' (by simp) (F':=p::(Gs'++[F]).flatten) (bg.news aU h2' ((h3'.keepUpd h4').snoc (r1.keepUpd pF))) ?_ fun q hq=>?_)⟩
  .rw [fAq,Sf];refine Rp.mpr ⟨fun m=>(mAq.mp m).elim h4' pF,nAq.mpr ⟨h5',o1.nd,fun a ha b hb e=>o1.out b hb (bH s2' (mCo _ (e ▸ ha)))⟩⟩
  .rw [fAq,Sf]at hq;rcases Rl.mp hq with z|z
   .exact h6' q (by rw[z];simp)
   .rcases mAq.mp z with z|z
    .exact h6' q (mCo _ z)
    .exact ⟨o1.fr q z,fun m=>o1.out q z (cj m)⟩
 .cases e
theorem FC{i:Nat}(hl:SL K te l):SS K (qS (He K "list" BG (kQ i) (iF te mG))) (C0 i l):=by
 intro H₀ Hf₀ Hf S σ H Fs o R e D h;obtain⟨a0,e0,e⟩:=oBq.mp e;obtain⟨x,e1,e⟩:=oBq.mp e;obtain⟨avs,e2,e⟩:=oBq.mp e;rcases bu e with ⟨hle,e⟩|e
 .skip
  cases e;obtain⟨p,vs,Gs,s1,_,h1,_⟩:=R.ow (bx e0);refine⟨.ref p,s1,.inl ⟨rfl,vs,dZ.of h1⟩,hl R (ds:=x.1) (S':=x.2) e1 _ fun Hf1 H1 Fs1 b ws t1 R1 hb r1=>?_⟩
  obtain⟨p',vs',Gs',s1',s2',h1',h2',h3',h4',h5',h6'⟩:=R1.ow (bx e2);rw[s1]at s1';cases s1';refine⟨p,b,vs',ws,rfl,rfl,h1',hb,by rw[iK,←h3'.1,←r1.1];exact hle,h _ _ _ _ t1.sf (R1.turn s1 s2' (by simp) (F':=p::(Gs'++SD x.1.length []).flatten) (bg.news aU h2' ((h3'.keepUpd h4').append (Jx r1))) ?_ fun q hq=>?_)⟩
  .rw [fAq,gX,aNq];exact Rp.mpr ⟨h4',h5'⟩
  .rw [fAq,gX,aNq]at hq;exact h6' q hq
 .cases e
theorem pH{H:Hp}:∀{ds:List (aN×D)}{kvs:List (aN×V)}{key:aN},eN K H ds kvs->match getD ds key with
  |some d=>∃v,oZ kvs key=some v/\dk K H d v
  |none=>oZ kvs key=none
 | [],kvs,key,h=>by
  have:kvs=[]:=by
   have:=congrArg S6 h.1;simpa using this.symm
  subst this;rfl
 |d::ds,[],key,h=>by
  have:=congrArg S6 h.1;simp at this
 |d::ds,v::kvs,key,h=>by
  have h1:d.1=v.1/\ds.map (·.1)=kvs.map (·.1):=by
   have:=h.1;simpa using this
  have h2:dk K H d.2 v.2:=h.2 0 d v rfl rfl;have ht:eN K H ds kvs:=⟨h1.2,fun i a b e1 e2=>h.2 (i+1) a b (by simpa using e1) (by simpa using e2)⟩
  unfold getD oZ
  by_cases c:d.1=key
  .rw [Uh (by simp[c]),Uh (by simp[←h1.1,c])]
   exact⟨v.2,rfl,h2⟩
  .rw [TL (by simp[c]),TL (by simp[←h1.1,c])]
   exact pH ht
theorem jB{H:Hp}{d:D}{v:V}{key:aN}(h:gH d=some key) (r:dk K H d v):v=kV key:=by
 cases r <;> simp only[gH]at h
 all_goals first|(exfalso;simp at h;done)|skip
 all_goals (cases h;rfl)
theorem eN.key{H:Hp}{ds:List (aN×D)}{kvs:List (aN×V)}(h:eN K H ds kvs) {i:Nat}{d:aN×D}{v:aN×V}(e1:ds[i]?=some d) (e2:kvs[i]?=some v):d.1=v.1:=by
 have:=congrArg (fun l=>l[i]?) h.1
 simp only[gMq,e1,e2,Td]at this;exact RD.inj this
theorem eN.len{H:Hp}{ds:List (aN×D)}{kvs:List (aN×V)}(h:eN K H ds kvs):ds.length=kvs.length:=by
 have:=congrArg S6 h.1;simpa using this
theorem yG{H:Hp}{ds:List (aN×D)}{kvs:List (aN×V)}{key:aN}{d:D}{v:V}(h:eN K H ds kvs) (r:dk K H d v):eN K H (jL ds key d) (iN kvs key v):=by
 have ha:(ds.any fun kv=>decide (kv.1=key))=kvs.any fun kv=>decide (kv.1=key):=by
  have e1:(ds.any fun kv=>decide (kv.1=key))=(ds.map (·.1)).any fun k=>decide (k=key):=by rw[WA];rfl
  have e2:(kvs.any fun kv=>decide (kv.1=key))=(kvs.map (·.1)).any fun k=>decide (k=key):=by rw[WA];rfl
  rw[e1,e2,h.1]
 unfold jL iN;rw[ha];split
 .refine ⟨?_,fun i a b e1 e2=>?_⟩
  .rw [mPq,mPq];have e1:((fun kv:aN×D=>kv.1)∘fun kv:aN×D=>if kv.1=key then (kv.1,d) else kv)=fun kv=>kv.1:=by
    funext kv;show (if kv.1=key then (kv.1,d) else kv).1=kv.1
    split <;> rfl
   have e2:((fun kv:aN×V=>kv.1)∘fun kv:aN×V=>if kv.1=key then (kv.1,v) else kv)=fun kv=>kv.1:=by
    funext kv;show (if kv.1=key then (kv.1,v) else kv).1=kv.1
    split <;> rfl
   rw[e1,e2];exact h.1
  .rw [gMq]at e1 e2;obtain⟨a',f1,rfl⟩:=oMq.mp e1;obtain⟨b',f2,rfl⟩:=oMq.mp e2;have hk:=h.key f1 f2
   by_cases c:a'.1=key
   .rw [if_pos c,if_pos (hk ▸ c)];exact r
   .rw [if_neg c,if_neg (hk ▸ c)];exact h.2 i a' b' f1 f2
 .refine ⟨by rw[mBq,mBq,h.1];rfl,fun i a b e1 e2=>?_⟩
  by_cases hi:i<ds.length
  .rw [gZq hi]at e1;rw[gZq (h.len ▸ hi)]at e2;exact h.2 i a b e1 e2
  .have hi':i=ds.length:=by
    have:=(gSq.mp e1).1;rw[lAq,lSq]at this;lia
   subst hi';rw[gYq (Rk _),TB]at e1;rw[h.len,gYq (Rk _),TB]at e2;cases e1;cases e2;exact r
def hX:MK:=fun S=>some (.owd [],S)
theorem rM:SK K Gd hX:=by
 intro H₀ Hf₀ Hf S σ H Fs av S' R e Q q;cases e;intro p hp;obtain⟨t,R2,n1,n2,n3⟩:=R.new (o:=.dK []) hp;exact q _ _ _ (.ref p) [p] t R2 (.owd aU n1 ⟨rfl,fun i d v h=>by simp at h⟩) (kR.one R hp)
theorem bA.owd{H₀ Hf₀ Hf H:Hp}{S:AS}{σ:St}{Fs:List (List Addr)}(R:bA K H₀ Hf₀ Hf S σ H Fs) {i:Nat}{ds:List (aN×D)}(h:S[i]?=some (some (.owd ds))):∃p kvs,σ[i]?=some (some (.ref p))/\Fs[i]?=some [p]/\H p=some (.dK kvs)/\Hf p=none/\eN K Hf ds kvs /\
  H₀ p=none/\p∉(Fs.set i []).flatten:=by
 obtain⟨v,F,s1,s2,r,nd,o,_⟩:=R.move h;obtain⟨p,kvs,rfl,rfl,h1,h2,h3⟩:=r.owd_inv;exact⟨p,kvs,s1,s2,h1,h2,h3,(o p (by simp)).1,(o p (by simp)).2⟩
theorem oU{i:Nat}(hk:SK K te k) (hb:SR K tb b):SS K (J6 (kQ i) tb te) (il i b k):=by
 intro H₀ Hf₀ Hf S σ H Fs o R e D h;obtain⟨x,e1,e⟩:=oBq.mp e;obtain⟨a0,e0,e⟩:=oBq.mp e;obtain⟨y,e2,e⟩:=oBq.mp e;obtain⟨kvs,e3,e⟩:=oBq.mp e;obtain⟨key,e4,e⟩:=oBq.mp e;rcases bu e with ⟨hl,e⟩|e
 .skip
  cases e;have hk':SK K te (gO k):=SK.frz hk;refine hk' R (a:=x.1) (S':=x.2) e1 _ fun Hf1 H1 Fs1 v F t1 R1 r1 o1=>?_
  obtain⟨p',_,s1,_⟩:=R1.owd (ni e0);refine⟨_,s1,hb R1 (d:=y.1) (S':=y.2) e2 _ fun Hf2 H2 Fs2 w t2 R2 r2=>?_⟩
  obtain⟨q',kv,s1',s2',h1',h2',h3',h4',h5'⟩:=R2.owd (ni e3);rw[s1]at s1';cases s1';obtain⟨x1,hx1⟩:∃d,x.1 = .sh d:=by
   obtain⟨w,_,e⟩:=oMq.mp e1;rw[←e];exact⟨_,rfl⟩
  rw[hx1]at r1;have rv:=(r1.sh_inv.2).mono t2.sf;have hw:=jB e4 r2;subst hw;refine⟨p',_,rfl,Gb.k h1' (by rw[iK,←h3'.len];exact hl),h _ _ _ _ (t1.sf.trans t2.sf) (R2.turn s1 s2' (by simp) (F':=[p']) (.owd aU h2' ?_) (by simp) fun q hq=>by rw[mSq.mp hq];exact⟨h4',h5'⟩)⟩
  rw[hx1,gu];exact yG h3' rv
 .cases e
def PD(a b:ME):ME:=fun S=>(a S).bind fun x=>(b x.2).bind fun y=>match y.1 with
 | .dict kvs=>(gH x.1).map fun key=>(.bl (getD kvs key).isSome,y.2)
 |_=>none
def cY(a b:ME):ME:=fun S=>(a S).bind fun x=>(b x.2).bind fun y=>match y.1 with
 | .dict kvs=>(gH x.1).map fun key=>(.bl (!(getD kvs key).isSome),y.2)
 |_=>none
def fO(a b:ME):ME:=fun S=>(a S).bind fun x=>(b x.2).bind fun y=>match x.1 with
 | .dict kvs=>(gH y.1).bind fun key=>(getD kvs key).map fun d=>(d,y.2)
 |_=>none
theorem Dm{H:Hp}{kvs:List (aN×D)}{x:V}{key:aN}{d:D}(r:dk K H (.dict kvs) x) (e:getD kvs key=some d):∃a v,x = .ref a/\sv H a (kV key) (some v)/\dk K H d v:=by
 obtain⟨p,vs,rfl,h1,h2⟩:=r.dict_inv;have g:=pH (key:=key) h2;rw[e]at g;obtain⟨v,g1,g2⟩:=g;exact⟨p,v,rfl,by rw[←g1];exact sv.k h1,g2⟩
theorem Ef{H:Hp}{kvs:List (aN×D)}{x:V}{key:aN}(r:dk K H (.dict kvs) x):∃a o,x = .ref a/\sv H a (kV key) o/\o.isSome=(getD kvs key).isSome:=by
 obtain⟨p,vs,rfl,h1,h2⟩:=r.dict_inv;have g:=pH (key:=key) h2;refine⟨p,_,rfl,sv.k h1,?_⟩;cases e:getD kvs key with
 |none=>rw[e]at g;rw[g];rfl
 |some d=>rw[e]at g;obtain⟨v,g1,_⟩:=g;rw[g1];rfl
theorem pQ{a:ME}(ha:SR K ta a) (hb:SR K tb b):SR K (Bq ta tb) (cY a b):=by
 intro H₀ Hf₀ Hf S σ H Fs d S' R e Q q;obtain⟨x,e1,e⟩:=oBq.mp e;obtain⟨y,e2,e⟩:=oBq.mp e;refine ha R (d:=x.1) (S':=x.2) e1 _ fun Hf1 H1 Fs1 v1 t1 R1 r1=>hb R1 (d:=y.1) (S':=y.2) e2 _ fun Hf2 H2 Fs2 v2 t2 R2 r2=>?_
 split at e
 .rename_i kvs hy;rw[hy]at r2;obtain⟨key,e3,e⟩:=oMq.mp e;cases e;obtain⟨p,o,rfl,g1,g2⟩:=Ef (key:=key) r2;refine⟨p,o,rfl,by rw[jB e3 r1];exact g1,?_⟩
  rw[g2];exact q _ _ _ _ (t1.trans t2) R2 .bl
 .cases e
theorem jT{a:ME}(ha:SR K ta a) (hb:SR K tb b):SR K (GU ta tb) (fO a b):=by
 intro H₀ Hf₀ Hf S σ H Fs d S' R e Q q;obtain⟨x,e1,e⟩:=oBq.mp e;obtain⟨y,e2,e⟩:=oBq.mp e;refine ha R (d:=x.1) (S':=x.2) e1 _ fun Hf1 H1 Fs1 v1 t1 R1 r1=>hb R1 (d:=y.1) (S':=y.2) e2 _ fun Hf2 H2 Fs2 v2 t2 R2 r2=>?_
 split at e
 .rename_i kvs hy;rw[hy]at r1;obtain⟨key,e3,e⟩:=oBq.mp e;obtain⟨d',e4,e⟩:=oMq.mp e;cases e;obtain⟨p,v,rfl,g1,g2⟩:=Dm (r1.mono t2.sh) e4;exact⟨p,v,rfl,by rw[jB e3 r2];exact g1,q _ _ _ _ (t1.trans t2) R2 g2⟩
 .cases e
end
def dE(x:Nat) (body:MS):List D->AS->Option BX
 | [],S=>some (.nx S)
 |d::ds,S=>(body (S.set x (some (.sh d)))).bind fun o=>match o with
  | .nx S'=>dE x body ds S'
  | .ct S'=>dE x body ds S'
  | .bk S'=>some (.nx S')
  | .rt a=>some (.rt a)
def eh:D->Option (List D)
 | .list ds=>some ds
 | .scr ns=>some (ns.map .int)
 |_=>none
def jF(x:Nat) (k:MK) (body:MS):MS:=fun S=>(gO k S).bind fun y=>(eh (aA y.1)).bind fun ds=>dE x body ds y.2
def bP(lo:Int) (n:Nat):List D:=(Sg n).map fun i:Nat=>.int (lo+i)
def sk:List D->Option (List D)
 | [.int j]=>jj (-(2 ^ 62)<=j/\j<2 ^ 62) (some (bP 0 j.toNat))
 |_=>none
def P3:List D->Option (List D)
 | [.int i,.int j]=>jj (-(2 ^ 62)<=i/\i<2 ^ 62/\-(2 ^ 62)<=j/\j<2 ^ 62) (some (bP i (j-i).toNat))
 |_=>none
def kF(x:Nat) (a:ML) (body:MS):MS:=fun S=>(a S).bind fun y=>(sk y.1).bind fun ds=>dE x body ds y.2
def Pw(x:Nat) (a:ML) (body:MS):MS:=fun S=>(a S).bind fun y=>(P3 y.1).bind fun ds=>dE x body ds y.2
def qh(x y:Nat) (body:MS):Nat->List D->AS->Option BX
 |_,[],S=>some (.nx S)
 |i,d::ds,S=>(body ((S.set x (some (.sh (.int i)))).set y (some (.sh d)))).bind fun o=>match o with
  | .nx S'=>qh x y body (i+1) ds S'
  | .ct S'=>qh x y body (i+1) ds S'
  | .bk S'=>some (.nx S')
  | .rt a=>some (.rt a)
def EJ(x y:Nat) (k:MK) (body:MS):MS:=fun S=>(gO k S).bind fun z=>(eh (aA z.1)).bind fun ds=>qh x y body 0 ds z.2
def tZ(x y:Nat) (body:MS):List D->List D->AS->Option BX
 |d::ds,e::es,S=>(body ((S.set x (some (.sh d))).set y (some (.sh e)))).bind fun o=>match o with
  | .nx S'=>tZ x y body ds es S'
  | .ct S'=>tZ x y body ds es S'
  | .bk S'=>some (.nx S')
  | .rt a=>some (.rt a)
 |_,_,S=>some (.nx S)
def Ka(x y:Nat) (k l:MK) (body:MS):MS:=fun S=>(gO k S).bind fun z=>(gO l z.2).bind fun w=>(eh (aA z.1)).bind fun ds=>(eh (aA w.1)).bind fun es =>
 if ds.length=es.length then tZ x y body ds es w.2 else none
def cv(c:MT) (body:MS):Nat->MS
 |0,_=>none
 |n+1,S=>(c S).bind fun x=>if x.1=true then (body x.2).bind fun o=>match o with
   | .nx S'=>cv c body n S'
   | .ct S'=>cv c body n S'
   | .bk S'=>some (.nx S')
   | .rt a=>some (.rt a)
  else some (.nx x.2)
section
variable {K:W.Frag}{te tf:TE}{k l:MK}{tb:TS}{body:MS}{x y:Nat}
theorem qd{H:Hp}{d:D}{ds:List D}{v:V}(e:eh d=some ds) (r:dk K H d v):∃a vs,v = .ref a/\dZ K H a vs/\bN K H ds vs:=by
 cases d with
 |list es =>
  cases e;obtain⟨p,vs,rfl,h1,h2⟩:=r.list_inv;exact⟨p,vs,rfl,dZ.of h1,h2⟩
 |scr ns =>
  cases e;cases r with
  |scr h=>exact⟨_,_,rfl,h,fZ ns⟩
 |_=>cases e
theorem ux{te:TE}{S:AS}{z:AV×AS}(e:gO k S=some z):∃d,z.1 = .sh d:=by
 obtain⟨w,_,e⟩:=oMq.mp e;rw[←e];exact⟨_,rfl⟩
theorem bA.setD{H₀ Hf₀ Hf H:Hp}{S:AS}{σ:St}{Fs:List (List Addr)}{d:D}{v:V}(R:bA K H₀ Hf₀ Hf S σ H Fs) (i:Nat) (r:dk K Hf d v):bA K H₀ Hf₀ Hf (S.set i (some (.sh d))) (σ.set i (some v)) H (Fs.set i []) :=
 R.set i (.sh r) R7 fun q h=>(by cases h)
theorem lu(hk:SK K te k) (hb:SS K tb body):SS K (Gz (GT K te) (eZ x) tb) (jF x k body):=by
 intro H₀ Hf₀ Hf S σ H Fs o R e D h;obtain⟨z,e1,e⟩:=oBq.mp e;obtain⟨ds,e2,e⟩:=oBq.mp e;have hk':SK K te (gO k):=SK.frz hk;refine hk' R (a:=z.1) (S':=z.2) e1 _ fun Hf1 H1 Fs1 v F t1 R1 r1 o1=>?_
 obtain⟨d,hd⟩:=ux (te:=te) e1;rw[hd]at r1;rw[hd,gu]at e2;obtain⟨a,vs,rfl,g1,g2⟩:=qd e2 r1.sh_inv.2;refine⟨a,rfl,⟨vs,R1.sub.seq g1⟩,Gn (xs:=vs) (fun i σ' H'=>∃Hf' S' Fs',bA K H₀ Hf₀ Hf' S' σ' H' Fs'/\bD Hf1 Hf'/\dE x body (ds.drop i) S'=some o) ⟨Hf1,z.2,Fs1,R1,.refl _,e⟩
  (fun i σ' H' _ ⟨Hf',S',Fs',R',s',_⟩=>R'.sub.seq (s'.seq g1)) ?_ ?_⟩
 .rintro i w σ' H' hw ⟨Hf',S',Fs',R',s',e'⟩;obtain⟨di,hdi,rw'⟩:=g2.get' hw;have hlt:i<ds.length:=(gSq.mp hdi).1;rw[RS hlt]at e';have hdi':ds[i]=di:=(gSq.mp hdi).2;rw[hdi']at e';obtain⟨ob,e3,e4⟩:=oBq.mp e';refine hb (R'.setD x (rw'.mono s')) e3 _ ?_;cases ob with
  |nx S2=>exact fun Hf2 σ2 H2 Fs2 s2 R2=>⟨Hf2,S2,Fs2,R2,s'.trans s2,e4⟩
  |ct S2=>exact fun Hf2 σ2 H2 Fs2 s2 R2=>⟨Hf2,S2,Fs2,R2,s'.trans s2,e4⟩
  |bk S2=>cases e4;exact fun Hf2 σ2 H2 Fs2 s2 R2=>h _ _ _ _ ((t1.sf.trans s').trans s2) R2
  |rt a=>cases e4;exact h
 .rintro σ' H' ⟨Hf',S',Fs',R',s',e'⟩;rw[←g2.1,T9]at e';cases e';exact h _ _ _ _ (t1.sf.trans s') R'
theorem CY{H₀ Hf₀ Hf1 H1:Hp}{S1:AS}{σ:St}{Fs1:List (List Addr)}{o:BX}{D:mV}{lo:Int}{n:Nat}(hb:SS K tb body) (R1:bA K H₀ Hf₀ Hf1 S1 σ H1 Fs1) (e:dE x body (bP lo n) S1=some o) (h:uX K H₀ Hf₀ Hf1 D o) :
  ∃W:Nat->Nat->St->Hp->Prop,(∃m,W 0 m σ H1)/\∀i m σ H,W i m σ H ->
   ((HK lo n).stop i H/\D.nx σ H)∨((HK lo n).go i H/\∃N:St->Hp->Prop,(∀σ' H',N σ' H'->∃m',m'<m/\W (i+1) m' σ' H')/\∀v H',(HK lo n).yld i H v H'->eZ x v σ H' fun σ2 H2=>tb { D with nx:=N,ct:=N,bk:=D.nx } σ2 H2):=by
 refine C6 (fun i σ' H'=>∃Hf' S' Fs',bA K H₀ Hf₀ Hf' S' σ' H' Fs'/\bD Hf1 Hf'/\dE x body ((bP lo n).drop i) S'=some o) ⟨Hf1,S1,Fs1,R1,.refl _,e⟩ ?_ ?_
 .rintro i σ' H' hi ⟨Hf',S',Fs',R',s',e'⟩;have hlt:i<(bP lo n).length:=by unfold bP;rw[lMq,R6];exact hi
  rw[RS hlt]at e';have hdi:(bP lo n)[i] = .int (lo+i):=by simp[bP]
  rw[hdi]at e';obtain⟨ob,e3,e4⟩:=oBq.mp e';refine hb (R'.setD x .int) e3 _ ?_;cases ob with
  |nx S2=>exact fun Hf2 σ2 H2 Fs2 s2 R2=>⟨Hf2,S2,Fs2,R2,s'.trans s2,e4⟩
  |ct S2=>exact fun Hf2 σ2 H2 Fs2 s2 R2=>⟨Hf2,S2,Fs2,R2,s'.trans s2,e4⟩
  |bk S2=>cases e4;exact fun Hf2 σ2 H2 Fs2 s2 R2=>h _ _ _ _ (s'.trans s2) R2
  |rt a=>cases e4;exact h
 .rintro σ' H' ⟨Hf',S',Fs',R',s',e'⟩;have hl:(bP lo n).length=n:=by unfold bP;rw[lMq,R6]
  rw[Tc (U3 hl)]at e';cases e';exact h _ _ _ _ s' R'
theorem oz{ta:TA}{a:ML}(ha:Il K ta a) (hb:SS K tb body):SS K (Gz (DT ta) (eZ x) tb) (kF x a body):=by
 intro H₀ Hf₀ Hf S σ H Fs o R e D h;obtain⟨z,e1,e⟩:=oBq.mp e;obtain⟨ds,e2,e⟩:=oBq.mp e;refine ha R (ds:=z.1) (S':=z.2) e1 _ fun Hf1 H1 Fs1 vs t1 R1 r1=>?_
 unfold sk at e2;split at e2
 .rename_i j hz;rcases bu e2 with ⟨hj,e2⟩|e2
  .skip
   cases e2;rw[hz]at r1;obtain⟨v,ws,rfl,h1,h2⟩:=r1.cons_inv;rw[h2.nil_inv];cases h1;exact⟨j,rfl,hj.1,hj.2,CY hb R1 e (h.mono t1.sf)⟩
  .cases e2
 .cases e2
theorem IS(hk:SK K te k) (hb:SS K tb body):SS K (Gz (JW K (iF te mG)) (HP K 2 (ur (eZ x) (ur (eZ y) IF))) tb) (EJ x y k body):=by
 intro H₀ Hf₀ Hf S σ H Fs o R e D h;obtain⟨z,e1,e⟩:=oBq.mp e;obtain⟨ds,e2,e⟩:=oBq.mp e;have hk':SK K te (gO k):=SK.frz hk;refine hk' R (a:=z.1) (S':=z.2) e1 _ fun Hf1 H1 Fs1 v F t1 R1 r1 o1=>?_
 obtain⟨d,hd⟩:=ux (te:=te) e1;rw[hd]at r1;rw[hd,gu]at e2;obtain⟨a,vs,rfl,g1,g2⟩:=qd e2 r1.sh_inv.2;refine⟨a,rfl,⟨vs,R1.sub.seq g1⟩,Fo (xs:=vs) (fun i σ' H'=>∃Hf' S' Fs',bA K H₀ Hf₀ Hf' S' σ' H' Fs'/\bD Hf1 Hf'/\qh x y body i (ds.drop i) S'=some o) ⟨Hf1,z.2,Fs1,R1,.refl _,e⟩
  (fun i σ' H' _ ⟨Hf',S',Fs',R',s',_⟩=>R'.sub.seq (s'.seq g1)) ?_ ?_⟩
 .rintro i w σ' H' T hw ⟨Hf',S',Fs',R',s',e'⟩ hT;obtain⟨di,hdi,rw'⟩:=g2.get' hw;have hlt:i<ds.length:=(gSq.mp hdi).1;rw[RS hlt]at e';have hdi':ds[i]=di:=(gSq.mp hdi).2;rw[hdi']at e';obtain⟨ob,e3,e4⟩:=oBq.mp e';have R2:=(R'.new (o:=.tup [.int i,w]) hT).2.1;refine hb ((R2.setD x .int).setD y (rw'.mono s')) e3 _ ?_;cases ob with
  |nx S2=>exact fun Hf2 σ2 H2 Fs2 s2 R2=>⟨Hf2,S2,Fs2,R2,s'.trans s2,e4⟩
  |ct S2=>exact fun Hf2 σ2 H2 Fs2 s2 R2=>⟨Hf2,S2,Fs2,R2,s'.trans s2,e4⟩
  |bk S2=>cases e4;exact fun Hf2 σ2 H2 Fs2 s2 R2=>h _ _ _ _ ((t1.sf.trans s').trans s2) R2
  |rt a=>cases e4;exact h
 .rintro σ' H' ⟨Hf',S',Fs',R',s',e'⟩;rw[←g2.1,T9]at e';cases e';exact h _ _ _ _ (t1.sf.trans s') R'
theorem pJ{c:TT}{m:MT}(n:Nat) (hc:Ak K c m) (hb:SS K tb body):SS K (GH c tb) (cv m body n):=by
 intro H₀ Hf₀ Hf S σ H Fs o R e D h;refine⟨fun n σ' H'=>∃Hf' S' Fs',bA K H₀ Hf₀ Hf' S' σ' H' Fs'/\bD Hf Hf'/\cv m body n S'=some o,⟨n,Hf,S,Fs,R,.refl _,e⟩,?_⟩
 rintro n σ' H' ⟨Hf',S',Fs',R',s',e'⟩;cases n with
 |zero=>cases e'
 |succ n =>
  obtain⟨z,e1,e2⟩:=oBq.mp e';refine hc R' (b:=z.1) (S':=z.2) e1 _ fun Hf1 H1 Fs1 t1 R1=>?_
  split at e2
  .rename_i hz;rw[hz];refine Ah ⟨fun σ2 H2=>∃Hf' S' Fs',bA K H₀ Hf₀ Hf' S' σ2 H2 Fs'/\bD Hf Hf'/\cv m body n S'=some o,fun σ2 H2 w=>⟨n,UN n,w⟩,?_⟩
   obtain⟨ob,e3,e4⟩:=oBq.mp e2;refine hb R1 e3 _ ?_;cases ob with
   |nx S2=>exact fun Hf2 σ2 H2 Fs2 s2 R2=>⟨Hf2,S2,Fs2,R2,(s'.trans t1.sf).trans s2,e4⟩
   |ct S2=>exact fun Hf2 σ2 H2 Fs2 s2 R2=>⟨Hf2,S2,Fs2,R2,(s'.trans t1.sf).trans s2,e4⟩
   |bk S2=>cases e4;exact fun Hf2 σ2 H2 Fs2 s2 R2=>h _ _ _ _ ((s'.trans t1.sf).trans s2) R2
   |rt a=>cases e4;exact h
  .rename_i hz;rw[Ub]at hz;rw[hz];cases e2;exact zh (h _ _ _ _ (s'.trans t1.sf) R1)
end
def cL(np n:Nat) (m:MS):MF:=fun ds=>if ds.length=np then (m (ds.map (fun d=>some (.sh d))++SD (n-ds.length) none)).bind fun o=>match o with
  | .rt a=>some a
  | .nx _=>some (.sh .non)
  |_=>none
 else none
theorem CS{K:W.Frag}{Hf H:Hp}{ds:List D}{vs:List V}(N:List Str) (s:bD Hf H) (r:bN K Hf ds vs) :
  bA K H Hf Hf (ds.map (fun d=>some (.sh d))++SD (N.length-ds.length) none) (L2.kO N vs) H (SD (ds.length+(N.length-ds.length)) []):=by
 have fl:=gX (ds.length+(N.length-ds.length));refine⟨by simp[L2.kO,r.1],by simp,fun i av e=>?_,fun i e=>?_,by rw[fl];exact R7,fun p hp=>(by rw[fl]at hp;cases hp),s,bD.refl _,fun b h _=>h,bD.refl _⟩
 .by_cases hi:i<ds.length
  .rw [gZq (by simpa using hi),gMq]at e
   obtain⟨d,e1,e2⟩:=oMq.mp e;cases e2;obtain⟨v,e3,rv⟩:=r.get e1;refine⟨v,[],?_,?_,.sh rv⟩
   .unfold L2.kO;rw[gZq (by simpa [←r.1] using hi),gMq,e3]
    rfl
   .rw [Tw,if_pos (by lia)]
  .rw [gYq (by simpa using hi)]at e
   have:=mGq e;rw[T8 this]at e;have h2:=T8 this;cases h2
 .rw [Tw];have hi:=(gSq.mp e).1;rw[lAq,lMq,VF]at hi;rw[if_pos hi]
theorem bb{K:W.Frag}{t:TS}{m:MS}{np:Nat}(N:List Str) (h:SS K t m) {vs:List V}{H:Hp}{Q:VK}{E:XK}(hs:bT K (cL np N.length m) vs H Q E):t { nx:=fun _ H'=>Q .non H',rt:=Q } (L2.kO N vs) H:=by
 obtain⟨Hf,ds,a,s,r,e,q⟩:=hs;unfold cL at e;split at e
 .obtain ⟨o,e1,e2⟩:=oBq.mp e;refine h (CS N s r) e1 _ ?_;cases o with
  |rt a' =>
   cases e2;exact fun Hf' H' v F s1 s2 s3 l r nd fr=>q Hf' H' v F s1 s2 s3 l r nd fr
  |nx S' =>
   cases e2;exact fun Hf' σ' H' Fs' s1 R=>q Hf' H' .non [] R.sf R.fr R.sub R.lim (.sh .non) R7 fun q h=>(by cases h)
  |bk S'=>cases e2
  |ct S'=>cases e2
 .cases e
theorem cw{K:W.Frag}{m:MS}{np n:Nat}{vs:List V}{H:Hp}{Q:VK}{E:XK}(hs:bT K (cL np n m) vs H Q E):vs.length=np:=by
 obtain⟨Hf,ds,a,s,r,e,q⟩:=hs;unfold cL at e;split at e
 .rename_i h;rw[←r.1,h]
 .cases e
def fzAll:List Nat->AS->Option AS
 | [],S=>some S
 |j::js,S=>(S[j]?.join).bind fun a=>fzAll js (S.set j (some (.sh (aA a))))
def KC:Option AV->Option AV
 |some (.sh d)=>some (.sh d)
 |_=>none
def wW(S:AS):List Nat->Option AS
 | []=>some []
 |j::js=>(KC S[j]?.join).bind fun a=>(wW S js).map (some a :: ·)
def cE(tf:MT) (te:MK) (cap:AS):List D->Option (List AV)
 | []=>some []
 |d::ds=>(tf (some (.sh d)::cap)).bind fun b=>if b.1=true then (te b.2).bind fun a=>(cE tf te cap ds).map (a.1 :: ·) else cE tf te cap ds
abbrev MI:=AS->Option (List D×AS)
def iJ(k:MK):MI:=fun S=>(gO k S).bind fun y=>(eh (aA y.1)).map fun ds=>(ds,y.2)
def Nb(a:ML):MI:=fun S=>(a S).bind fun y=>(sk y.1).map fun ds=>(ds,y.2)
def dg(src:MI) (fr:List Nat) (tf:MT) (te:MK):MK:=fun S=>(src S).bind fun y=>(fzAll fr y.2).bind fun S2=>(wW S2 fr).bind fun cap=>jj (y.1.length<=cZ) ((cE tf te cap y.1).map fun avs=>(.ow avs,S2))
def cX:MT:=fun S=>some (true,S)
section
variable {K:W.Frag}{H₀ Hf₀ Hf Hf' H H':Hp}{S S':AS}{σ:St}{Fs Fs':List (List Addr)}
theorem bA.fz(R:bA K H₀ Hf₀ Hf S σ H Fs) {j:Nat}{a:AV}(e:S[j]?.join=some a):∃Hf' Fs',mq Hf H Fs Hf' H Fs'/\bA K H₀ Hf₀ Hf' (S.set j (some (.sh (aA a)))) σ H Fs':=by
 obtain⟨v,F,s1,s2,r,nd,o,R1⟩:=R.move (bp e);have n:∀q∈F,Hf q=none:=fun q hq=>(r.owned q hq).2
 have R2:=R1.frz o n;have r2:=r.frozen (dR (H:=H) n) fun q hq=>qr hq
 have R3:=R2.again (F:=F) (G:=[]) s1 (.sh r2) R7 fun q h=>(by cases h)
 refine⟨_,_,⟨dR n,.refl _,fun p hp=>cj hp,fun b h g=>?_⟩,R3⟩
 by_cases m:b∈F
 .exact .inr (mFq.mpr ⟨F,mGq s2,m⟩)
 .rw [gf m]at g;exact absurd h g
theorem bA.fzAll:∀{fr:List Nat}{Hf:Hp}{S S':AS}{Fs:List (List Addr)},bA K H₀ Hf₀ Hf S σ H Fs->fzAll fr S=some S'->∃Hf' Fs',mq Hf H Fs Hf' H Fs'/\bA K H₀ Hf₀ Hf' S' σ H Fs'
 | [],Hf,S,S',Fs,R,e=>by
  cases e;exact⟨Hf,Fs,.refl,R⟩
 |j::js,Hf,S,S',Fs,R,e=>by
  obtain⟨a,e1,e2⟩:=oBq.mp e;obtain⟨Hf1,Fs1,t1,R1⟩:=R.fz e1;obtain⟨Hf2,Fs2,t2,R2⟩:=bA.fzAll R1 e2;exact⟨Hf2,Fs2,t1.trans t2,R2⟩
theorem xZ(R:bA K H₀ Hf₀ Hf S σ H Fs):∀{fr:List Nat}{cap:AS},wW S fr=some cap->cap.length=fr.length/\∀(k:Nat) (a:AV),cap[k]?=some (some a)->∃d v,a = .sh d/\(slots σ fr)[k]?=some (some v)/\dk K Hf d v
 | [],cap,e=>by
  cases e;exact⟨rfl,fun k a h=>by simp at h⟩
 |j::js,cap,e=>by
  obtain⟨a,e1,e2⟩:=oBq.mp e;obtain⟨cap',e3,e4⟩:=oMq.mp e2;subst e4;obtain⟨h1,h2⟩:=xZ R e3;refine⟨by simp[h1],fun k b hk=>?_⟩
  cases k with
  |zero =>
   cases hk;cases ej:S[j]?.join with
   |none=>rw[ej]at e1;cases e1
   |some c =>
    rw[ej]at e1;cases c with
    |sh d =>
     cases e1;obtain⟨v,F,s1,s2,r⟩:=R.rep j _ (bp ej);refine⟨d,v,rfl,?_,r.sh_inv.2⟩;show some ((σ[j]?).join)=_;rw[s1];rfl
    |_=>cases e1
  |succ k=>exact h2 k b (by simpa using hk)
theorem DH(R:bA K H₀ Hf₀ Hf S σ H Fs) {fr:List Nat}{cap:AS}(e:wW S fr=some cap) {d:D}{x:V}(rx:dk K Hf d x) :
  bA K H₀ Hf₀ Hf (some (.sh d)::cap) (some x::slots σ fr) H (SD (cap.length+1) []):=by
 obtain⟨h1,h2⟩:=xZ R e;have fl:=gX (cap.length+1);refine⟨by simp[slots,h1],by simp,fun i av ei=>?_,fun i ei=>?_,by rw[fl];exact R7,fun p hp=>(by rw[fl]at hp;cases hp),R.sub,R.fr,R.lim,R.sf⟩
 .cases i with
  |zero =>
   cases ei;exact⟨x,[],rfl,by simp,.sh rx⟩
  |succ k =>
   have hk:k<cap.length:=(gSq.mp (by simpa using ei)).1
   obtain⟨d',v,rfl,s1,r⟩:=h2 k av (by simpa using ei)
   exact⟨v,[],by simpa using s1,by rw[Tw,if_pos (by lia)],.sh r⟩
 .rw [Tw];have hi:=(gSq.mp ei).1;rw[if_pos (by simpa using hi)]
theorem bA.updOut(R:bA K H₀ Hf₀ Hf S σ H Fs) {p:Addr}{o:HO}(h1:p∉Fs.flatten) (h2:Hf p=none) (h3:H₀ p=none):bA K H₀ Hf₀ Hf S σ (cI H p o) Fs where
 len:=R.len
 lenF:=R.lenF
 rep:=fun i av e=>by
  obtain⟨v,F,s1,s2,r⟩:=R.rep i av e;exact⟨v,F,s1,s2,r.keepUpd fun m=>h1 (bH s2 m)⟩
 emp:=R.emp
 nd:=R.nd
 fresh:=R.fresh
 sub:=fun b u e=>by
  rw[aL fun z=>by rw[z,h2]at e;cases e]
  exact R.sub b u e
 fr:=fun b u e=>by
  rw[aL fun z=>by rw[z,h3]at e;cases e]
  exact R.fr b u e
 lim:=R.lim
 sf:=R.sf
theorem bA.outer{σ2:St}{Fs2 Fs3:List (List Addr)}{Hf3 H3:Hp}{S3:AS}(R:bA K H₀ Hf₀ Hf S σ H Fs) (R3:bA K H₀ Hf₀ Hf3 S3 σ2 H3 Fs3) (t:mq Hf H Fs2 Hf3 H3 Fs3) (h0:Fs2.flatten=[]):mq Hf H Fs Hf3 H3 Fs/\bA K H₀ Hf₀ Hf3 S σ H3 Fs:=by
 have g:∀b,Hf b=none->H b≠none->Hf3 b=none:=fun b h1 h2=>by
  by_cases e:Hf3 b=none
  .exact e
  .rcases t.gr b h1 e with z|z
   .exact absurd z h2
   .rw [h0]at z;cases z
 exact⟨⟨t.sf,t.sh,fun _ h=>h,fun b h1 h2=>.inl (by
  by_cases e:H b=none
  .exact e
  .exact absurd (g b h1 e) h2)⟩,R.more t.sh t.sf R3.sub (fun q hq=>g q (R.mem hq).2 (R.mem hq).1) R3.lim⟩
end
section
variable {K:W.Frag}{tf:TT}{te:TE}{mf:MT}{me:MK}{fr:List Nat}
theorem vB{H₀ Hf₀ Hf1 H1:Hp}{S1:AS}{σ:St}{Fs1:List (List Addr)}{cap:AS}{ds:List D}{avs:List AV}{J:It}{Q:VK}(hf:Ak K tf mf) (he:SK K te me)
  (R1:bA K H₀ Hf₀ Hf1 S1 σ H1 Fs1) (ec:wW S1 fr=some cap) (hl:ds.length<=cZ) (e:cE mf me cap ds=some avs)
  (hgo:∀i H,bD Hf1 H->i<ds.length->J.go i H) (hst:∀H,bD Hf1 H->J.stop ds.length H) (hy:∀i H x H',bD Hf1 H->i<ds.length->J.yld i H x H'->H'=H/\∃d,ds[i]?=some d/\dk K Hf1 d x)
  (q:∀Hf' H' v F,mq Hf1 H1 Fs1 Hf' H' Fs1->bA K H₀ Hf₀ Hf' S1 σ H' Fs1->bg K Hf' H' (.ow avs) v F->kR H₀ H1 Fs1 Fs1 F->Q v H') :
  ∀acc,H1 acc=none->∃W:Nat->Nat->Hp->Prop,(∃m,W 0 m (cI H1 acc (.lst [])))/\∀i m H,W i m H ->
   (J.stop i H/\Q (.ref acc) H) ∨
   (J.go i H/\∃N:Hp->Prop,(∀H',N H'->∃m',m'<m/\W (i+1) m' H')/\∀x H',J.yld i H x H'->tf (some x::slots σ fr) H' fun b H2 =>
    if b=true then te (some x::slots σ fr) H2 fun y H3=>∃ys,H3 acc=some (.lst ys)/\ys.length<sizeLine/\N (cI H3 acc (.lst (ys++[y]))) else N H2):=by
 intro acc hacc;obtain⟨t0,R0,n1,n2,n3⟩:=R1.new (o:=.lst []) hacc
 let P:Nat->Hp->Prop:=fun i H=>∃Hf as vs Gs rest,bA K H₀ Hf₀ Hf S1 σ H Fs1/\mq Hf1 H1 Fs1 Hf H Fs1/\H acc=some (.lst vs)/\Hf acc=none/\bf K Hf H as vs Gs/\kR H₀ H1 Fs1 Fs1 (acc::Gs.flatten)/\as.length<=i /\
  cE mf me cap (ds.drop i)=some rest/\avs=as++rest
 refine⟨fun i m H=>m=ds.length-i/\i<=ds.length/\P i H,⟨ds.length,by simp,Sl _,Hf1,[],[],[],avs,R0,t0,aU,n1,.nil,kR.one R1 hacc,Sl _,e,rfl⟩,?_⟩
 rintro i m H ⟨rfl,hi,Hf,as,vs,Gs,rest,R,t,ha,hfa,ra,ow,la,er,ea⟩;have hs:bD Hf1 H:=t.sf.trans R.sub
 by_cases hlt:i<ds.length
 .refine .inr ⟨hgo i H hs hlt,P (i+1),fun H' p=>⟨ds.length-(i+1),by lia,rfl,hlt,p⟩,fun x H' y=>?_⟩
  obtain⟨rfl,d,hd,rx⟩:=hy i H x H' hs hlt y;rw[RS hlt,(gSq.mp hd).2]at er;obtain⟨b,e1,e2⟩:=oBq.mp er;have fl:=gX (cap.length+1);refine hf (DH R ec (rx.mono t.sf)) (b:=b.1) (S':=b.2) e1 _ fun Hf2 H2 Fs2 t2 R2=>?_
  obtain⟨t2',R2'⟩:=R.outer R2 t2 fl;have ha2:H2 acc=some (.lst vs):=t2.sh _ _ ha;have hfa2:Hf2 acc=none:=by
   by_cases z:Hf2 acc=none
   .exact z
   .rcases t2.gr acc hfa z with z|z
    .rw [ha]at z;cases z
    .rw [fl]at z;cases z
  have ra2:=ra.stp (fun q hq=>ow.out q (mCo _ hq)) t2'
  split at e2
  .rename_i hb;rw[hb];refine Ah ?_;obtain⟨a,e3,e4⟩:=oBq.mp e2;obtain⟨rest',e5,e6⟩:=oMq.mp e4;subst e6;refine he R2 (a:=a.1) (S':=a.2) e3 _ fun Hf3 H3 Fs3 v F t3 R3 r3 o3=>?_
   have fl2:Fs2.flatten=[]:=by
    cases hz:Fs2.flatten with
    |nil=>rfl
    |cons z zs =>
     have:=t2.own z (by rw[hz];simp)
     rw[fl]at this;cases this
   obtain⟨t3',R3'⟩:=R2'.outer R3 t3 fl2;have ha3:H3 acc=some (.lst vs):=t3.sh _ _ ha2;have hfa3:Hf3 acc=none:=by
    by_cases z:Hf3 acc=none
    .exact z
    .rcases t3.gr acc hfa2 z with z|z
     .rw [ha2]at z;cases z
     .rw [fl2]at z;cases z
   have ra3:=ra2.stp (fun q hq=>ow.out q (mCo _ hq)) t3'
   have newF:∀q∈F,H2 q=none:=fun q hq=>(o3.new q hq).elim id fun z=>by rw[fl2]at z;cases z
   have accF:acc∉F:=fun m=>by rw[newF acc m]at ha2;cases ha2
   have accG:acc∉Gs.flatten:=(Rp.mp ow.nd).1;have tt:=(t.trans t2').trans t3';refine⟨vs,ha3,?_,?_⟩
   .rw [iK,←ra.1];lia
   .refine ⟨Hf3,as++[a.1],vs++[v],Gs++[F],rest',R3'.updOut n3 hfa3 n2,⟨tt.sf,fun b o eb=>?_,fun _ h=>h,tt.gr⟩,aU,hfa3,(ra3.keepUpd accG).snoc (r3.keepUpd accF),?_,by rw[lAq,lSq];lia,e5,by rw[ea];simp⟩
    .rw [aL fun z=>by rw[z,hacc]at eb;cases eb]
     exact tt.sh b o eb
    .rw [fAq,Sf];have oF:kR H₀ H1 Fs1 Fs1 F:=⟨o3.nd,o3.fr,fun q hq m=>(R2'.mem m).1 (newF q hq),fun q hq=>.inl ((t.trans t2').sh.free (newF q hq))⟩
     refine(show kR H₀ H1 Fs1 Fs1 ((acc::Gs.flatten)++F) from ow.app oF fun q hq m=>?_)
     rcases Rl.mp hq with z|z
     .rw [z]at m;exact accF m
     .exact (ra2.owned q z).1 (newF q m)
  .rename_i hb;rw[Ub]at hb;rw[hb];exact zh ⟨Hf2,as,vs,Gs,rest,R2',t.trans t2',ha2,hfa2,ra2,ow,by lia,e2,ea⟩
 .have e0:i=ds.length:=by lia
  subst e0;rw[T9]at er;cases er;rw[aNq]at ea;subst ea;exact .inl ⟨hst H hs,q Hf H (.ref acc) _ t R (bg.news ha hfa ra) ow⟩
theorem eQ{tl:TE}{k:MK}(hk:SK K tl k) (hf:Ak K tf mf) (he:SK K te me):SK K (BR (GT K tl) fr tf te) (dg (iJ k) fr mf me):=by
 intro H₀ Hf₀ Hf S σ H Fs av S' R e Q q;obtain⟨y,e1,e⟩:=oBq.mp e;obtain⟨z,e0,e1⟩:=oBq.mp e1;obtain⟨ds,e2,e1⟩:=oMq.mp e1;subst e1;obtain⟨S2,e3,e⟩:=oBq.mp e;obtain⟨cap,e4,e⟩:=oBq.mp e;rcases bu e with ⟨hl,e⟩|e
 .obtain ⟨avs,e5,e⟩:=oMq.mp e;cases e;have hk':SK K tl (gO k):=SK.frz hk;refine hk' R (a:=z.1) (S':=z.2) e0 _ fun Hf1 H1 Fs1 v F t1 R1 r1 o1=>?_
  obtain⟨d,hd⟩:=ux (te:=tl) e0;rw[hd]at r1;rw[hd,gu]at e2;obtain⟨Hf2,Fs2,t2,R2⟩:=R1.fzAll e3;obtain⟨a,vs,rfl,g1,g2⟩:=qd e2 (r1.sh_inv.2.mono t2.sf);refine⟨a,rfl,⟨vs,R2.sub.seq g1⟩,vB (K:=K) hf he R2 e4 hl e5 (fun i H s hi=>⟨vs,vs[i]'(g2.1 ▸ hi),s.seq g1,gEg (g2.1 ▸ hi)⟩) (fun H s=>⟨vs,s.seq g1,U3 g2.1.symm⟩) (fun i H x H' s hi y=>?_) fun Hf' H' v F t R' r o=>q _ _ _ v F ((t1.trans t2).trans t) R' r (o.back (t1.trans t2))⟩
  obtain⟨y1,y2⟩:=y;obtain⟨di,h1,h2⟩:=g2.get' (y2 vs (s.seq g1));exact⟨y1,di,h1,h2⟩
 .cases e
theorem nh{lo:Int}{n i:Nat}(h:i<n):(bP lo n)[i]?=some (.int (lo+i)):=by
 unfold bP;rw[gMq,TF h];rfl
theorem bO(lo:Int) (n:Nat):(bP lo n).length=n:=by unfold bP;rw[lMq,R6]
theorem Co{ta:TA}{a:ML}(ha:Il K ta a) (hf:Ak K tf mf) (he:SK K te me):SK K (BR (DT ta) fr tf te) (dg (Nb a) fr mf me):=by
 intro H₀ Hf₀ Hf S σ H Fs av S' R e Q q;obtain⟨y,e1,e⟩:=oBq.mp e;obtain⟨z,e0,e1⟩:=oBq.mp e1;obtain⟨ds,e2,e1⟩:=oMq.mp e1;subst e1;obtain⟨S2,e3,e⟩:=oBq.mp e;obtain⟨cap,e4,e⟩:=oBq.mp e;rcases bu e with ⟨hl,e⟩|e
 .obtain ⟨avs,e5,e⟩:=oMq.mp e;cases e;refine ha R (ds:=z.1) (S':=z.2) e0 _ fun Hf1 H1 Fs1 vs t1 R1 r1=>?_
  unfold sk at e2;split at e2
  .rename_i j hz;rcases bu e2 with ⟨hj,e2⟩|e2
   .skip
    cases e2;rw[hz]at r1;obtain⟨v,ws,rfl,h1,h2⟩:=r1.cons_inv;rw[h2.nil_inv];cases h1;obtain⟨Hf2,Fs2,t2,R2⟩:=R1.fzAll e3;refine⟨j,rfl,hj.1,hj.2,vB (K:=K) hf he R2 e4 hl e5 (fun i H s hi=>(by rw[bO]at hi;exact hi)) (fun H s=>(by rw[bO];exact Rk _)) (fun i H x H' s hi y=>?_) fun Hf' H' v F t R' r o=>q _ _ _ v F ((t1.trans t2).trans t) R' r (o.back (t1.trans t2))⟩
    obtain⟨y1,y2⟩:=y;rw[bO]at hi;exact⟨y1,_,nh hi,by rw[y2];exact .int⟩
   .cases e2
  .cases e2
 .cases e
theorem nK:Ak K Om cX:=by
 intro H₀ Hf₀ Hf S σ H Fs b S' R e Q q;cases e;exact q _ _ _ .refl R
end
mutual
def py:D->Option PyData
 | .non=>some .none
 | .bl b=>some (.bool b)
 | .int i=>some (.int i)
 | .str x=>some (.str x)
 | .list ds=>(C2 ds).map .list
 | .tup ds=>(C2 ds).map .tuple
 |_=>none
def C2:List D->Option (List PyData)
 | []=>some []
 |d::ds=>(py d).bind fun x=>(C2 ds).map (x :: ·)
end
section
variable {X:Cx}
theorem lN{h:Heap}:∀{ds:List D}{vs:List V}{its:List Value}{xs:List PyData},(∀(i:Nat) (d:D) (v:V),ds[i]?=some d->vs[i]?=some v->∀u x,bR v u->py d=some x->∃as,Reads h u x as)->ds.length=vs.length->bo vs its->C2 ds=some xs->∃as,ReadsAll h its xs as
 | [],vs,its,xs,_,hl,hv,e=>by
  have:vs=[]:=R9.mp hl.symm;subst this;cases hv;simp only[C2]at e;cases e;exact⟨_,.nil⟩
 |d::ds,vs,its,xs,ih,hl,hv,e=>by
  cases vs with
  |nil=>simp at hl
  |cons v vs =>
   cases hv with
   |cons r t =>
    simp only[C2]at e;obtain⟨x,e1,e2⟩:=oBq.mp e;obtain⟨ys,e3,e4⟩:=oMq.mp e2;subst e4;obtain⟨as,h1⟩:=ih 0 d v rfl rfl _ x r e1;obtain⟨bs,h2⟩:=lN (fun i d' v' q1 q2=>ih (i+1) d' v' (by simpa using q1) (by simpa using q2)) (by simpa using hl) t e3
    exact⟨_,.cons h1 h2⟩
theorem yj{aa:List (Addr×Obj)}{σ:St}{H:Hp}{s:Shared}(I:Inv X aa σ H s) {d:D}{v:V}(r:dk X.K H d v):∀(u:Value) (x:PyData),bR v u->py d=some x->∃as,Reads s.heap u x as:=by
 induction r with
 |non=>intro u x ru e;cases ru;simp only[py]at e;cases e;exact⟨_,.none⟩
 |bl=>intro u x ru e;cases ru;simp only[py]at e;cases e;exact⟨_,.bool _⟩
 |int=>intro u x ru e;obtain⟨t,rfl⟩:=ru;simp only[py]at e;cases e;exact⟨_,.int _ _⟩
 |str=>intro u x ru e;obtain⟨t,rfl⟩:=ru;simp only[py]at e;cases e;exact⟨_,.str _ _⟩
 |ty=>intro u x ru e;simp only[py]at e;cases e
 |list h l _ ih =>
  intro u x ru e;cases ru;simp only[py]at e;obtain⟨xs,e1,rfl⟩:=oMq.mp e;obtain⟨its,rv,hl,hz⟩:=I.list (dZ.of h);obtain⟨o,ho,hc,n,hd⟩:=hl.isList;obtain⟨as,e2⟩:=lN ih l rv e1;exact⟨_,Reads.list ho hc hd (by simpa using e2)⟩
 |tup h l _ ih =>
  intro u x ru e;cases ru;simp only[py]at e;obtain⟨xs,e1,rfl⟩:=oMq.mp e;obtain⟨its,rv,⟨o,ho,hc,n,hd⟩,hz⟩:=I.tuple (zz.of h);obtain⟨as,e2⟩:=lN ih l rv e1;exact⟨_,Reads.tuple ho hc hd (by simpa using e2)⟩
 |dict h l _ ih=>intro u x ru e;simp only[py]at e;cases e
 |fd h l _ ih=>intro u x ru e;simp only[py]at e;cases e
 |scr h=>intro u x ru e;simp only[py]at e;cases e
 |exc rf nf h hx=>intro u x ru e;simp only[py]at e;cases e
 |exc0 rf h=>intro u x ru e;simp only[py]at e;cases e
 |cls h=>intro u x ru e;simp only[py]at e;cases e
 |ins rf h l _ ih=>intro u x ru e;simp only[py]at e;cases e
def OC(K:W.Frag) (neg:Bool):R2:=fun x y H Q=>∃(d e:D) (a b:PyData),dk K H d x/\dk K H e y/\py d=some a/\py e=some b/\SeqAt.shaped a=true/\SeqAt.shaped b=true/\SeqAt.noMix a b=true /\
 Q (.bl (if neg then !(PySem.Spec.same a b) else PySem.Spec.same a b)) H
theorem G2(hu:X.A.units+64<cLine):uG X (compareOp .Eq) (OC X.K false):=by
 intro aa s σ H x y v u Q I rx ry h;obtain⟨d,e,a,b,h1,h2,p1,p2,s1,s2,nm,q⟩:=h;obtain⟨as,r1⟩:=yj I h1 _ _ rx p1;obtain⟨bs,r2⟩:=yj I h2 _ _ ry p2;exact Wv r1 r2 s1 s2 hu nm (bG I q rfl)
end
def uJ(d e:D):Option D:=(py d).bind fun a=>(py e).bind fun b=>if SeqAt.shaped a=true/\SeqAt.shaped b=true/\SeqAt.noMix a b=true then some (.bl (PySem.Spec.same a b)) else none
def QR(d e:D):Option D:=(uJ d e).bind Dx
section
variable {K:W.Frag}
theorem FM:xk K (OC K false) uJ:=by
 intro x y H Q dx dy d rx ry e q;obtain⟨a,e1,e⟩:=oBq.mp e;obtain⟨b,e2,e⟩:=oBq.mp e;split at e
 .rename_i h;cases e;exact⟨dx,dy,a,b,rx,ry,e1,e2,h.1,h.2.1,h.2.2,q _ .bl⟩
 .cases e
end
abbrev dI(ns:List Int):D:=.list (ns.map .int)
abbrev dM(rs:List (List Int)):D:=.list (rs.map dI)
theorem FW(ns:List Int):C2 (ns.map .int)=some (ns.map PyData.int):=by
 induction ns with
 |nil=>simp[C2]
 |cons n ns ih=>simp[C2,py,ih]
theorem Lc(ns:List Int):py (dI ns)=some (jo ns):=by
 show py (.list _)=_;simp only[py,FW];rfl
theorem FA(rs:List (List Int)):C2 (rs.map dI)=some (rs.map jo):=by
 induction rs with
 |nil=>simp[C2]
 |cons r rs ih =>
  show C2 (dI r::rs.map dI)=_;simp only[C2,Lc,ih];rfl
theorem NV(rs:List (List Int)):py (dM rs)=some (nX rs):=by
 show py (.list _)=_;simp only[py,FA];rfl
theorem tG(r:List Int):SeqAt.shaped (jo r)=true:=by
 have h2:=W.depthAll_ints r;have h3:PyData.depth (jo r)<=64:=by simp only[jo,PyData.depth];lia
 show (PyData.canLay0 (jo r) && decide (PyData.depth (jo r)<=64))=true;rw[TJ];exact⟨by simp only[jo,PyData.canLay0];exact W.canLayAll0_ints r,decide_eq_true h3⟩
@[simp] theorem GY (ns ms:List Int):uJ (dI ns) (dI ms)=some (.bl (decide (ns=ms))):=by
 unfold uJ;rw[Lc,Lc];show (if _ then _ else _)=_
 rw[if_pos ⟨tG ns,tG ms,by simp only[jo,SeqAt.noMix];exact W.noMix_ints ns ms⟩]
 simp only[jo,PySem.Spec.same,W.same_ints]
@[simp] theorem Po (rs ts:List (List Int)):uJ (dM rs) (dM ts)=some (.bl (decide (rs=ts))):=by
 unfold uJ;rw[NV,NV];show (if _ then _ else _)=_
 rw[if_pos ⟨qv rs,qv ts,by simp only[nX,SeqAt.noMix];exact tO rs ts⟩]
 simp only[nX,PySem.Spec.same,vn]
def iM(l:ML):MK:=fun S=>(l S).map fun x=>(.ow (x.1.map .sh),x.2)
def tS(l:ML):MK:=fun S=>(l S).bind fun x=>(dA x.1).map fun ns=>(.ow ((bV ns).map fun n=>.sh (.int n)),x.2)
def wg:List D->Option (List (List Int))
 | []=>some []
 | .list ds::es=>(dA ds).bind fun r=>(wg es).map (r :: ·)
 |_=>none
def Qb(l:ML):MK:=fun S=>(l S).bind fun x=>(wg x.1).map fun rs=>(.ow ((dw rs).map fun r=>.sh (dI r)),x.2)
section
variable {K:W.Frag}{te:TE}{l:ML}
theorem wt(hl:SQ K te l):SK K (Jj (fun xs H Q=>∃p ys,xs=[.ref p]/\(dZ K H p ys∨zz K H p ys)/\∀l,H l=none->Q (.ref l) (cI H l (.lst ys))) (iF te mG)) (iM l):=by
 intro H₀ Hf₀ Hf S σ H Fs av S' R e Q q;obtain⟨x,e1,e⟩:=oMq.mp e;cases e;refine hl R (ds:=x.1) (S':=x.2) e1 _ fun Hf1 H1 Fs1 p1 vs1 t1 R1 h1 r1=>⟨p1,vs1,rfl,.inl h1,fun p hp=>?_⟩
 obtain⟨t4,R4,n1,n2,n3⟩:=R1.new (o:=.lst vs1) hp;exact q _ _ _ (.ref p) [p] (t1.trans t4) R4 (bg.new aU n1 r1) ((kR.one R1 hp).back t1)
theorem lj(ns:List Int):(ns.map fun n=>AV.sh (.int n))=(ns.map D.int).map .sh:=by rw[mPq];rfl
theorem yD(hl:SQ K te l):SK K (Jj (fun xs H Q=>∃(a:Addr) (ns:List Int),xs=[.ref a]/\dZ K H a (ns.map V.int)/\∀p,H p=none->Q (.ref p) (cI H p (.lst ((bV ns).map V.int)))) (iF te mG)) (tS l):=by
 intro H₀ Hf₀ Hf S σ H Fs av S' R e Q q;obtain⟨x,e1,e⟩:=oBq.mp e;obtain⟨ns,e2,e⟩:=oMq.mp e;cases e;refine hl R (ds:=x.1) (S':=x.2) e1 _ fun Hf1 H1 Fs1 p1 vs1 t1 R1 h1 r1=>?_
 rw[gT e2]at r1;rw[dN r1]at h1;refine⟨p1,ns,rfl,h1,fun p hp=>?_⟩
 obtain⟨t4,R4,n1,n2,n3⟩:=R1.new (o:=.lst ((bV ns).map V.int)) hp;rw[lj]at q;exact q _ _ _ (.ref p) [p] (t1.trans t4) R4 (bg.new aU n1 (fZ _)) ((kR.one R1 hp).back t1)
end
def NJ:String->D->Bool
 |T,.list _=>T == "list"
 |T,.scr _=>T == "list"
 |T,.str _=>T == "str"
 |_,_=>false
def OV(T:String) (f:D->List D->Option D) (a:ME) (as:ML):ME:=fun S=>(a S).bind fun x=>if NJ T x.1=true then (as x.2).bind fun y=>(f x.1 y.1).map fun d=>(d,y.2) else none
def QF(K:W.Frag) (r:V->List V->Hp->VK->Prop) (f:D->List D->Option D):Prop:=∀{x:V}{vs:List V}{H:Hp}{Q:VK}{dx:D}{ds:List D}{d:D},dk K H dx x->bN K H ds vs->f dx ds=some d->(∀v,dk K H d v->Q v H)->r x vs H Q
section
variable {K:W.Frag}{te:TE}{ta:TA}{a:ME}{as:ML}{r:V->List V->Hp->VK->Prop}{f:D->List D->Option D}{T:String}
theorem Kx{H:Hp}{d:D}{v:V}(h:NJ T d=true) (rv:dk K H d v):OJ K T v H:=by
 cases rv <;> simp only[NJ]at h
 all_goals first|(exfalso;simp at h;done)|skip
 .exact eq_of_beq h
 .rename_i p vs ds h1 l e;exact .inl ⟨eq_of_beq h,vs,dZ.of h1⟩
 .rename_i p ns h1;exact .inl ⟨eq_of_beq h,_,h1⟩
theorem Oz(hr:QF K r f) (ha:SR K te a) (hs:Il K ta as):SR K (He K T r te ta) (OV T f a as):=by
 intro H₀ Hf₀ Hf S σ H Fs d S' R e Q q;obtain⟨x,e1,e⟩:=oBq.mp e;split at e
 .rename_i hT;obtain⟨y,e2,e⟩:=oBq.mp e;obtain⟨z,e3,e⟩:=oMq.mp e;cases e;refine ha R (d:=x.1) (S':=x.2) e1 _ fun Hf1 H1 Fs1 v t1 R1 r1=>⟨Kx hT r1,hs R1 (ds:=y.1) (S':=y.2) e2 _ fun Hf2 H2 Fs2 vs t2 R2 r2=>?_⟩
  exact hr (r1.mono t2.sh) r2 e3 fun v rv=>q _ _ _ v (t1.trans t2) R2 rv
 .cases e
def tU:D->List D->Option D
 | .list ds,[.int k]=>(dA ds).bind fun ns=>if k∈ns then some (.int (ns.idxOf k:Nat)) else none
 |_,_=>none
theorem EL:QF K (Eb K) tU:=by
 intro x vs H Q dx ds d rx rs e q;unfold tU at e;split at e
 .rename_i es k;obtain⟨ns,e1,e⟩:=oBq.mp e;split at e
  .rename_i hk;cases e;obtain⟨v,ws,rfl,h1,h2⟩:=rs.cons_inv;rw[h2.nil_inv];cases h1;rw[gT e1]at rx;obtain⟨p,us,rfl,h3,h4⟩:=rx.list_inv;rw[dN h4]at h3;exact⟨p,ns,k,rfl,rfl,dZ.of h3,hk,q _ .int⟩
  .cases e
 .cases e
def Nd(a:ME):ME:=fun S=>(a S).bind fun x=>match x.1 with
 | .list ds=>(wg ds).map fun rs=>(.int (rs.countP (·=([]:List Int)):Nat),x.2)
 |_=>none
def O6:D->Option Bool
 | .non=>some false
 | .bl b=>some b
 | .int i=>some (i != 0)
 | .list ds=>some (!ds.isEmpty)
 | .tup ds=>some (!ds.isEmpty)
 | .dict ds=>some (!ds.isEmpty)
 |_=>none
def HM(a:ME):MT:=fun S=>(a S).bind fun x=>(O6 x.1).map fun b=>(b,x.2)
end
def bL:AV->List Nat->Option (List AV)
 | .ow avs,[]=>some avs
 | .ow avs,j::js=>(avs[j]?).bind fun a=>bL a js
 |_,_=>none
def putAt:AV->List Nat->List AV->AV
 | .ow _,[],as=>.ow as
 | .ow avs,j::js,as=>match avs[j]? with
  |some a=>.ow (avs.set j (putAt a js as))
  |none=>.ow avs
 |a,_,_=>a
def wu(H:Hp):V->List Nat->V->Prop
 |v,[],w=>v=w
 |v,j::js,w=>∃p vs u,v = .ref p/\H p=some (.lst vs)/\vs[j]?=some u/\wu H u js w
section
variable {K:W.Frag}{H₀ Hf₀ Hf Hf' H H':Hp}{S S':AS}{σ:St}{Fs Fs':List (List Addr)}
theorem kN:∀{Fs:List (List Addr)}{F G:List Addr}(i:Nat),Fs.flatten.Nodup->Fs[i]?=some G->F.Nodup->(∀p∈F,p∈G∨p∉Fs.flatten)->(Fs.set i F).flatten.Nodup
 | [],F,G,i,h,e,_,_=>by simp at e
 |E::Gs,F,G,0,h,e,hF,hd=>by
  simp at e;subst e;rw[Tp,fCq,nAq];rw[fCq,nAq]at h;refine⟨hF,h.2.1,fun a ha b hb e=>?_⟩
  subst e;rcases hd a ha with z|z
  .exact h.2.2 a z a hb rfl
  .exact z (by rw[fCq];exact RB _ hb)
 |E::Gs,F,G,i+1,h,e,hF,hd=>by
  rw[TN,fCq,nAq];rw[fCq,nAq]at h;have e':Gs[i]?=some G:=by simpa using e
  refine⟨h.1,kN i h.2.1 e' hF fun p hp=>(hd p hp).imp id fun z m=>z (by rw[fCq];exact RB _ m),fun a ha b hb e=>?_⟩
  subst e;rcases dB hb with q|q
  .rcases hd a q with z|z
   .exact h.2.2 a ha a (mFq.mpr ⟨G,mGq e',z⟩) rfl
   .exact z (by rw[fCq];exact SN _ ha)
  .exact h.2.2 a ha a q rfl
theorem tm:∀{Fs:List (List Addr)}{F G:List Addr}{i j:Nat}{p:Addr},Fs.flatten.Nodup->Fs[i]?=some F->Fs[j]?=some G->i≠j->p∈F->p∉G
 | [],F,G,i,j,p,_,e,_,_,_,_=>by simp at e
 |E::Es,F,G,0,0,p,h,e,f,n,_,_=>n rfl
 |E::Es,F,G,0,j+1,p,h,e,f,n,hp,m=>by
  simp at e;subst e;rw[fCq,nAq]at h;exact h.2.2 p hp p (mFq.mpr ⟨G,mGq (i:=j) (by simpa using f),m⟩) rfl
 |E::Es,F,G,i+1,0,p,h,e,f,n,hp,m=>by
  simp at f;subst f;rw[fCq,nAq]at h;exact h.2.2 p m p (mFq.mpr ⟨F,mGq (i:=i) (by simpa using e),hp⟩) rfl
 |E::Es,F,G,i+1,j+1,p,h,e,f,n,hp,m=>by
  rw[fCq,nAq]at h;exact tm h.2.1 (i:=i) (j:=j) (by simpa using e) (by simpa using f) (fun z=>n (by rw[z])) hp m
theorem bg.path:∀{path:List Nat}{av:AV}{v:V}{F:List Addr}{as:List AV},bg K Hf H av v F->F.Nodup->bL av path=some as->∃p vs Gs,wu H v path (.ref p)/\H p=some (.lst vs)/\Hf p=none/\bf K Hf H as vs Gs/\p∈F/\p∉Gs.flatten/\Gs.flatten.Nodup/\(∀q∈Gs.flatten,q∈F) /\
  ∀as' vs' Gs',bf K Hf (cI H p (.lst vs')) as' vs' Gs'->(p::Gs'.flatten).Nodup->(∀q∈Gs'.flatten,q∈Gs.flatten∨q∉F)->∃F',bg K Hf (cI H p (.lst vs')) (putAt av path as') v F'/\F'.Nodup/\∀q∈F',q∈F∨q∈Gs'.flatten
 | [],av,v,F,as,r,nd,e=>by
  cases av with
  |ow avs =>
   cases e;obtain⟨p,vs,Gs,rfl,rfl,h1,h2,h3⟩:=r.ow_inv;have n:=Rp.mp nd;refine⟨p,vs,Gs,rfl,h1,h2,h3,by simp,n.1,n.2,fun q hq=>mCo _ hq,fun as' vs' Gs' r' nd' _=>⟨p::Gs'.flatten,bg.news aU h2 r',nd',fun q hq=>?_⟩⟩
   rcases Rl.mp hq with z|z
   .exact .inl (by rw[z];simp)
   .exact .inr z
  |_=>cases e
 |j::js,av,v,F,as,r,nd,e=>by
  cases av with
  |ow avs =>
   obtain⟨a,e1,e2⟩:=oBq.mp (show (avs[j]?).bind (fun a=>bL a js)=some as from e)
   obtain⟨p0,vs0,Gs0,rfl,rfl,h1,h2,h3⟩:=r.ow_inv;have n:=Rp.mp nd;have hj:j<avs.length:=(gSq.mp e1).1;have hv:vs0[j]?=some (vs0[j]'(h3.1 ▸ hj)):=gEg _;have hg:Gs0[j]?=some (Gs0[j]'(h3.2.1 ▸ hj)):=gEg _;generalize vs0[j]'(h3.1 ▸ hj)=vj at hv;generalize Gs0[j]'(h3.2.1 ▸ hj)=Fj at hg;have rj:=h3.2.2 j a vj Fj e1 hv hg;have ndj:Fj.Nodup:=RC.sublist (RE (mGq hg)) n.2;have sub:∀q∈Fj,q∈Gs0.flatten:=fun q hq=>bH hg hq
   obtain⟨p,vs,Gs,g1,g2,g3,g4,g5,g6,g6',g7,g8⟩:=bg.path rj ndj e2;have pne:p0≠p:=fun z=>n.1 (z ▸ sub p g5)
   refine⟨p,vs,Gs,⟨p0,vs0,vj,rfl,h1,hv,g1⟩,g2,g3,g4,mCo _ (sub p g5),g6,g6',fun q hq=>mCo _ (sub q (g7 q hq)),fun as' vs' Gs' r' nd' hd=>?_⟩
   obtain⟨F',k1,k2,k3⟩:=g8 as' vs' Gs' r' nd' fun q hq=>(hd q hq).imp id fun z m=>z (mCo _ (sub q m))
   have hF':∀q∈F',q∈Fj∨q∉Gs0.flatten:=fun q hq=>by
    rcases k3 q hq with z|z
    .exact .inl z
    .rcases hd q z with y|y
     .exact .inl (g7 q y)
     .exact .inr fun m=>y (mCo _ m)
   refine⟨p0::(Gs0.set j F').flatten,?_,Rp.mpr ⟨fun m=>?_,kN j n.2 hg k2 hF'⟩,fun q hq=>?_⟩
   .show bg K Hf (cI H p (.lst vs')) (match avs[j]? with|some a=>.ow (avs.set j (putAt a js as'))|none=>.ow avs) (.ref p0) _
    rw[e1];refine .ow (vs:=vs0) (by rw[aL pne];exact h1) h2 (by rw[lZq];exact h3.1) (by rw[lZq,lZq];exact h3.2.1) fun i b w G q1 q2 q3=>?_
    rw[Su]at q1 q3
    by_cases hij:j=i
    .subst hij;rw[if_pos rfl,if_pos hj]at q1;rw[if_pos rfl,if_pos (h3.2.1 ▸ hj)]at q3;rw[hv]at q2;cases q1;cases q2;cases q3;exact k1
    .rw [if_neg hij]at q1 q3;exact(h3.2.2 i b w G q1 q2 q3).keepUpd fun m=>tm n.2 hg q3 hij g5 m
   .rcases dB m with z|z
    .rcases k3 p0 z with y|y
     .exact n.1 (sub p0 y)
     .rcases hd p0 y with x|x
      .exact n.1 (sub p0 (g7 p0 x))
      .exact x (by simp)
    .exact n.1 z
   .rcases Rl.mp hq with z|z
    .exact .inl (by rw[z];simp)
    .rcases dB z with z|z
     .exact (k3 q z).imp (fun y=>mCo _ (sub q y)) id
     .exact .inl (mCo _ z)
  |_=>cases e
theorem bA.turnAny(R:bA K H₀ Hf₀ Hf S σ H Fs) {i:Nat}{av:AV}{p:Addr}{o:HO}{v:V}{F F':List Addr}(s1:σ[i]?=some (some v)) (s2:Fs[i]?=some F) (hp:p∈F) (r:bg K Hf (cI H p o) av v F') (nd:F'.Nodup)
  (hf:∀q∈F',H₀ q=none/\q∉(Fs.set i []).flatten):bA K H₀ Hf₀ Hf (S.set i (some av)) σ (cI H p o) (Fs.set i F'):=by
 have hin:p∈Fs.flatten:=mFq.mpr ⟨F,mGq s2,hp⟩;have pn:Hf p=none:=(R.mem hin).2;have p0:H₀ p=none:=R.fresh p hin;have out:=fG R.nd s2 hp;have R1:bA K H₀ Hf₀ Hf (S.set i none) σ (cI H p o) (Fs.set i []):=by
  refine⟨by simp[R.len],by simp[R.lenF],fun j a ej=>?_,fun j ej=>?_,df i R.nd R7 (fun p hp=>by cases hp),fun p hp=>R.fresh p (cj hp),fun b u e=>?_,fun b u e=>?_,R.lim,R.sf⟩
  .rw [Su]at ej
   by_cases hij:i=j
   .subst hij;rw[if_pos rfl]at ej;split at ej <;> cases ej
   .rw [if_neg hij]at ej;obtain⟨w,G,f1,f2,q⟩:=R.rep j a ej;refine⟨w,G,f1,by rw[Ry hij];exact f2,q.keep (.refl _) (fun c hc=>aL fun e=>out ?_) fun c hc=>(q.owned c hc).2⟩
    subst e;exact mFq.mpr ⟨G,mGq (i:=j) (by rw[Ry hij];exact f2),hc⟩
  .rw [Su]at ej
   by_cases hij:i=j
   .subst hij;rw[if_pos rfl]at ej;split at ej
    .rename_i hi;rw[Rz (R.lenF.symm ▸ hi)]
    .cases ej
   .rw [if_neg hij]at ej;rw[Ry hij];exact R.emp j ej
  .rw [aL fun z=>by rw[z,pn]at e;cases e]
   exact R.sub b u e
  .rw [aL fun z=>by rw[z,p0]at e;cases e]
   exact R.fr b u e
 exact R1.again (F:=F) s1 r nd hf
theorem bA.kill(R:bA K H₀ Hf₀ Hf S σ H Fs) (x:Nat):bA K H₀ Hf₀ Hf (S.set x none) σ H (Fs.set x []):=by
 refine⟨by simp[R.len],by simp[R.lenF],fun j a ej=>?_,fun j ej=>?_,df x R.nd R7 (fun p hp=>by cases hp),fun p hp=>R.fresh p (cj hp),R.sub,R.fr,R.lim,R.sf⟩
 .rw [Su]at ej
  by_cases hij:x=j
  .subst hij;rw[if_pos rfl]at ej;split at ej <;> cases ej
  .rw [if_neg hij]at ej;obtain⟨w,G,f1,f2,q⟩:=R.rep j a ej;exact⟨w,G,f1,by rw[Ry hij];exact f2,q⟩
 .rw [Su]at ej
  by_cases hij:x=j
  .subst hij;rw[if_pos rfl]at ej;split at ej
   .rename_i hi;rw[Rz (R.lenF.symm ▸ hi)]
   .cases ej
  .rw [if_neg hij]at ej;rw[Ry hij];exact R.emp j ej
theorem bA.any(R:bA K H₀ Hf₀ Hf (S.set x none) σ H Fs) (v:V):bA K H₀ Hf₀ Hf (S.set x none) (σ.set x (some v)) H Fs where
 len:=by rw[R.len,lZq]
 lenF:=R.lenF
 rep:=fun i av e=>by
  by_cases hij:x=i
  .subst hij;rw[Su]at e;rw[if_pos rfl]at e;split at e <;> cases e
  .obtain ⟨w,G,f1,f2,q⟩:=R.rep i av e;exact⟨w,G,by rw[Ry hij];exact f1,f2,q⟩
 emp:=R.emp
 nd:=R.nd
 fresh:=R.fresh
 sub:=R.sub
 fr:=R.fr
 lim:=R.lim
 sf:=R.sf
end
def Gr(d:D):List AV->Option (List AV)
 | []=>some []
 | .ow as::r=>jj (as.length<cZ) ((Gr d r).map (.ow (as++[.sh d]) :: ·))
 |_=>none
def Le(i x:Nat) (d:D):MS:=fun S=>if i=x∨S.length<=x then none else if d.scal=true then (cu S i).bind fun avs=>(Gr d avs).map fun bs=>.nx ((S.set i (some (.ow bs))).set x none) else none
abbrev aI(ns:List Int):AV:=.ow (ns.map fun n=>.sh (.int n))
def qJ:List AV->Option (List Int)
 | []=>some []
 | .sh (.int i)::r=>(qJ r).map (i :: ·)
 |_=>none
def tj:List AV->Option (List (List Int))
 | []=>some []
 | .ow as::r=>(qJ as).bind fun ns=>(tj r).map (ns :: ·)
 |_=>none
theorem yz:∀{as:List AV}{ns:List Int},qJ as=some ns->as=ns.map fun n=>.sh (.int n)
 | [],ns,h=>by cases h;rfl
 |a::as,ns,h=>by
  cases a with
  |sh d =>
   cases d with
   |int i =>
    obtain⟨ms,h1,h2⟩:=oMq.mp (show (qJ as).map (i :: ·)=some ns from h)
    subst h2;rw[yz h1];rfl
   |_=>cases h
  |_=>cases h
theorem yh:∀{as:List AV}{rs:List (List Int)},tj as=some rs->as=rs.map aI
 | [],rs,h=>by cases h;rfl
 |a::as,rs,h=>by
  cases a with
  |ow es =>
   obtain⟨r,h1,h⟩:=oBq.mp (show (qJ es).bind (fun ns=>(tj as).map (ns :: ·))=some rs from h)
   obtain⟨ts,h2,h3⟩:=oMq.mp h;subst h3;rw[yh h2,yz h1];rfl
  |_=>cases h
@[simp] theorem CA (ns:List Int):qJ (ns.map fun n=>.sh (.int n))=some ns:=by
 induction ns with
 |nil=>rfl
 |cons n ns ih=>show (qJ (ns.map fun n=>.sh (.int n))).map (n :: ·)=_;rw[ih];rfl
@[simp] theorem CJ (rs:List (List Int)):tj (rs.map aI)=some rs:=by
 induction rs with
 |nil=>rfl
 |cons r rs ih=>show (qJ (r.map fun n=>.sh (.int n))).bind (fun ns=>(tj (rs.map aI)).map (ns :: ·))=_;rw[CA,ih];rfl
def rO(k:MK):MK:=fun S=>(k S).bind fun x=>match x.1 with
 | .ow avs=>(tj avs).map fun rs=>(.ow ((dw rs).map aI),x.2)
 |_=>none
section
variable {K:W.Frag}{Hf H:Hp}
theorem A2{ns:List Int}{v:V}{F:List Addr}(h:bg K Hf H (aI ns) v F):∃p,v = .ref p/\F=[p]/\H p=some (.lst (ns.map V.int))/\Hf p=none:=by
 obtain⟨p,vs,Gs,rfl,rfl,h1,h2,h3⟩:=h.ow_inv;have e:∀{ns:List Int}{vs:List V}{Gs:List (List Addr)},bf K Hf H (ns.map fun n=>AV.sh (.int n)) vs Gs->vs=ns.map V.int/\Gs.flatten=[]:=by
  intro ns
  induction ns with
  |nil =>
   intro vs Gs h;obtain⟨a,b⟩:=h.nil_inv;exact⟨a,by rw[b];rfl⟩
  |cons n ns ih =>
   intro vs Gs h;obtain⟨v,ws,F,Gs',rfl,rfl,r1,r2⟩:=bf.cons_inv (a:=.sh (.int n)) h;obtain⟨f1,f2⟩:=r1.sh_inv;subst f1;cases f2;obtain⟨g1,g2⟩:=ih r2;rw[g1];exact⟨rfl,by rw[fCq,g2];rfl⟩
 obtain⟨e1,e2⟩:=e h3;rw[e2];subst e1;exact⟨p,rfl,rfl,h1,h2⟩
theorem LD{ns:List Int}{p:Addr}(h1:H p=some (.lst (ns.map V.int))) (h2:Hf p=none):bg K Hf H (aI ns) (.ref p) [p]:=by
 have:=bg.new (K:=K) (Hf:=Hf) (H:=H) (ds:=ns.map D.int) h1 h2 (fZ ns);rw[←lj]at this;exact this
theorem lH:∀{rs:List (List Int)}{vs:List V}{Gs:List (List Addr)},bf K Hf H (rs.map aI) vs Gs->∃ps,vs=ps.map V.ref/\Gs=ps.map (fun p=>[p])/\dh H ps rs/\∀p∈ps,Hf p=none
 | [],vs,Gs,h=>by
  obtain⟨a,b⟩:=h.nil_inv;exact⟨[],a,b,.nil,fun p hp=>by cases hp⟩
 |r::rs,vs,Gs,h=>by
  obtain⟨v,ws,F,Gs',rfl,rfl,r1,r2⟩:=bf.cons_inv (a:=aI r) (as:=rs.map aI) h;obtain⟨p,rfl,rfl,h1,h2⟩:=A2 r1;obtain⟨ps,rfl,rfl,h3,h4⟩:=lH r2;exact⟨p::ps,rfl,rfl,dh.cons_iff.mpr ⟨h1,h3⟩,fun q hq=>(Rl.mp hq).elim (fun e=>e ▸ h2) (h4 q)⟩
theorem tV:∀{rs:List (List Int)}{ps:List Addr},dh H ps rs->(∀p∈ps,Hf p=none)->bf K Hf H (rs.map aI) (ps.map V.ref) (ps.map fun p=>[p])
 | [],[],_,_=>.nil
 | [],_::_,h,_=>by have:=h.length;simp at this
 |_::_,[],h,_=>by have:=h.length;simp at this
 |r::rs,p::ps,h,n=>by
  obtain⟨h1,h2⟩:=dh.cons_iff.mp h;exact .cons (LD h1 (n p (by simp))) (tV h2 fun q hq=>n q (mCo _ hq))
theorem yC(ps:List Addr):(ps.map fun p=>[p]).flatten=ps:=by
 induction ps with
 |nil=>rfl
 |cons p ps ih=>rw[Ru,fCq,ih];rfl
theorem C1{te:TE}{k:MK}(hk:SK K te k):SK K (Jj (fun xs H Q=>∃(a:Addr) (ps:List Addr) (rs:List (List Int)),xs=[.ref a]/\dZ K H a (ps.map V.ref)/\dh H ps rs /\
  ∀p qs,H p=none->qs.Perm ps->dh (cI H p (.lst (qs.map V.ref))) qs (dw rs)->Q (.ref p) (cI H p (.lst (qs.map V.ref)))) (iF te mG)) (rO k):=by
 intro H₀ Hf₀ Hf S σ H Fs av S' R e Q q;obtain⟨x,e1,e⟩:=oBq.mp e;refine hk R (a:=x.1) (S':=x.2) e1 _ fun Hf1 H1 Fs1 v F t1 R1 r1 o1=>?_
 split at e
 .rename_i avs hx;obtain⟨rs,e2,e⟩:=oMq.mp e;cases e;rw[hx,yh e2]at r1;obtain⟨p0,vs,Gs,rfl,rfl,h1,h2,h3⟩:=r1.ow_inv;obtain⟨ps,rfl,rfl,hE,hn⟩:=lH h3;rw[yC]at o1;refine⟨p0,ps,rs,rfl,dZ.of h1,hE,fun p qs hp hq hE2=>?_⟩
  obtain⟨t4,R4,n1,n2,n3⟩:=R1.new (o:=.lst (qs.map V.ref)) hp;have pq:p∉qs:=fun m=>hE.free (H:=H1) hp (hq.mem_iff.mp m)
  have hm:∀z∈qs,z∈p0::ps:=fun z hz=>mCo _ (hq.mem_iff.mp hz)
  refine q _ _ _ (.ref p) (p::(qs.map fun p=>[p]).flatten) (t1.trans t4) R4 (bg.news aU n1 (tV hE2 fun z hz=>hn z (hq.mem_iff.mp hz))) ?_
  rw[yC];refine⟨Rp.mpr ⟨pq,hq.nodup_iff.mpr (Rp.mp o1.nd).2⟩,fun z hz=>?_,fun z hz=>?_,fun z hz=>?_⟩
  .rcases Rl.mp hz with y|y
   .rw [y];exact n2
   .exact o1.fr z (hm z y)
  .rcases Rl.mp hz with y|y
   .rw [y];exact n3
   .exact o1.out z (hm z y)
  .rcases Rl.mp hz with y|y
   .rw [y];exact .inl (t1.sh.free hp)
   .exact o1.new z (hm z y)
 .cases e
def DY:AV->Option D
 | .sh d=>if d.scal=true then some d else none
 |_=>none
def bE(f:MF) (a:ML):ME:=fun S=>(a S).bind fun x=>(f x.1).bind fun r=>(DY r).map fun d=>(d,x.2)
theorem fq{f:MF}{ta:TA}{a:ML}(ha:Il K ta a):SR K (BI (bT K f) [] E0 ta) (bE f a):=by
 intro H₀ Hf₀ Hf S σ H Fs d S' R e Q q;obtain⟨x,e1,e⟩:=oBq.mp e;obtain⟨r,e2,e⟩:=oBq.mp e;obtain⟨z,e3,e⟩:=oMq.mp e;cases e;refine ha R (ds:=x.1) (S':=x.2) e1 _ fun Hf1 H1 Fs1 vs t1 R1 r1=>?_
 rw[aNq];refine⟨H1,x.1,r,.refl _,r1,e2,fun Hf' H' v F s1 s2 s3 l rv nd fr=>?_⟩
 have t2:mq Hf1 H1 Fs1 Hf1 H' Fs1:=⟨.refl _,s2,fun _ h=>h,fun b h g=>absurd h g⟩
 cases r with
 |sh d' =>
  simp only[DY]at e3;split at e3
  .rename_i hs;cases e3;exact q _ _ _ v (t1.trans t2) (R1.laid s2) (rv.sh_inv.2.scal hs)
  .cases e3
 |_=>cases e3
end
section
variable (S:AS)
@[simp] theorem N1 (i:Nat):af i S=(S[i]?.join).map fun a=>(aA a,S):=rfl
@[simp] theorem NX (i:Nat):ay i S=(S[i]?.join).map fun a=>(.sh (aA a),S.set i (some (.sh (aA a)))):=rfl
@[simp] theorem Os (i:Nat):mE i S=(S[i]?.join).map fun a=>(a,S.set i none):=rfl
@[simp] theorem PH (k:MK):rOf k S=(k S).map fun x=>(aA x.1,x.2):=rfl
@[simp] theorem Pm (m:ME):kSc m S=(m S).bind fun x=>if x.1.scal then some (.sh x.1,x.2) else none:=rfl
@[simp] theorem NF (k:MK):gO k S=(k S).map fun x=>(.sh (aA x.1),x.2):=rfl
@[simp] theorem Q7 (d:D):rC d S=if d.scal then some (d,S) else none:=rfl
@[simp] theorem Qc (f:D->D->Option D) (a b:ME):aR f a b S=(a S).bind fun x=>(b x.2).bind fun y=>(f x.1 y.1).map fun d=>(d,y.2):=rfl
@[simp] theorem PP (f:D->Option D) (a:ME):qD f a S=(a S).bind fun x=>(f x.1).map fun d=>(d,x.2):=rfl
@[simp] theorem Oa (a:ME):E6 a S=(a S).bind fun x=>(Dx x.1).map fun d=>(d,x.2):=rfl
@[simp] theorem KY (a b:MT):nY a b S=(a S).bind fun x=>if x.1=true then b x.2 else some (false,x.2):=rfl
@[simp] theorem Mi (a:MT):fJ a S=(a S).map fun x=>(!x.1,x.2):=rfl
def Me:D->Option Bool
 | .bl b=>some b
 |_=>none
@[simp] theorem O7 (a:ME):cD a S=(a S).bind fun x=>(Me x.1).map fun b=>(b,x.2):=by
 show (a S).bind _=_;congr 1;funext x;obtain⟨d,S'⟩:=x;cases d <;> rfl
@[simp] theorem Mz (a b:ME):uA a b S=(a S).bind fun x=>(Me x.1).bind fun c=>if c=true then b x.2 else some (.bl false,x.2):=by
 show (a S).bind _=_;congr 1;funext x;obtain⟨d,S'⟩:=x;cases d <;> try rfl
 rename_i c;cases c <;> rfl
@[simp] theorem Ih (b:Bool):Me (.bl b)=some b:=rfl
@[simp] theorem OE:aG S=some ([],S):=rfl
@[simp] theorem Kn (k:MK) (r:MA):ar k r S=(k S).bind fun x=>(r x.2).map fun y=>(x.1::y.1,y.2):=rfl
@[simp] theorem Lg:ak S=some ([],S):=rfl
@[simp] theorem Jv (k:ME) (r:ML):ae k r S=(k S).bind fun x=>(r x.2).map fun y=>(x.1::y.1,y.2):=rfl
@[simp] theorem NL (a:MA):dW a S=(a S).bind fun x=>jj (x.1.length<=cZ) (some (.ow x.1,x.2)):=rfl
@[simp] theorem Nh (a b:ML):AL a b S=(a S).bind fun x=>(b x.2).bind fun y=>jj (x.1.length+y.1.length<=cZ) (some (.ow ((x.1++y.1).map .sh),y.2)):=rfl
@[simp] theorem KF:mS S=some (none,S):=rfl
@[simp] theorem KG (m:ME):jd m S=(m S).bind fun x=>(intOf x.1).map fun i=>(some i,x.2):=by
 show (m S).bind _=_;congr 1;funext x;obtain⟨d,S'⟩:=x;cases d <;> rfl
@[simp] theorem Dz (i:Int):intOf (.int i)=some i:=rfl
@[simp] theorem P9 (l:ML) (lo hi:MO):Fe l lo hi S=(l S).bind fun x=>(lo x.2).bind fun y=>(hi y.2).map fun z=>(.ow ((lg x.1 y.1 z.1).map .sh),z.2):=rfl
@[simp] theorem Pd (l:ML) (b:ME):KI l b S=(l S).bind fun x=>(b x.2).bind fun y=>(intOf y.1).bind fun i=>(atI x.1 i).map fun d=>(.sh d,y.2):=by
 show (l S).bind _=_;congr 1;funext x;show (b x.2).bind _=_;congr 1;funext y;obtain⟨d,S'⟩:=y;cases d <;> rfl
@[simp] theorem O9 (f:List D->Option D) (a:ML):dD f a S=(a S).bind fun x=>(f x.1).map fun d=>(d,x.2):=rfl
@[simp] theorem Kk (f:MF) (a:MA):aM f a S=(a S).bind fun x=>(f (x.1.map aA)).map fun r=>(r,x.2):=rfl
@[simp] theorem LQ (f:MF) (a:ML):bE f a S=(a S).bind fun x=>(f x.1).bind fun r=>(DY r).map fun d=>(d,x.2):=rfl
@[simp] theorem LK:bh S=some (.nx S):=rfl
def EX(o:Option BX) (b:MS):Option BX:=o.bind fun o=>match o with
 | .nx S'=>b S'
 |o=>some o
@[simp] theorem EH (b:MS):EX (some (.nx S)) b=b S:=rfl
@[simp] theorem GJ (a:AV) (b:MS):EX (some (.rt a)) b=some (.rt a):=rfl
@[simp] theorem On (a b:MS):ao a b S=EX (a S) b:=rfl
@[simp] theorem MQ (i:Nat) (k:MK):aC i k S=(k S).map fun x=>.nx (x.2.set i (some x.1)):=rfl
@[simp] theorem NT (k:MK):bw k S=(k S).map fun x=>.rt x.1:=rfl
@[simp] theorem Py (c:MT) (a b:MS):jt c a b S=(c S).bind fun x=>if x.1=true then a x.2 else b x.2:=rfl
@[simp] theorem Ow (i:Nat) (k:MK):gJ i k S=(cu S i).bind fun _=>(k S).bind fun x=>(cu x.2 i).bind fun avs=>jj (avs.length<cZ) (some (.nx (x.2.set i (some (.ow (avs++[x.1])))))):=rfl
@[simp] theorem Oj (i:Nat) (l:ML):C0 i l S=(cu S i).bind fun _=>(l S).bind fun x=>(cu x.2 i).bind fun avs=>jj (avs.length+x.1.length<=cZ) (some (.nx (x.2.set i (some (.ow (avs++x.1.map .sh)))))):=rfl
@[simp] theorem LJ (i:Nat) (b:ME) (k:MK):il i b k S=(gO k S).bind fun x=>(ja x.2 i).bind fun _=>(b x.2).bind fun y=>(ja y.2 i).bind fun kvs=>(gH y.1).bind fun key =>
 jj (kvs.length<cZ) (some (.nx (y.2.set i (some (.owd (jL kvs key (aA x.1))))))):=rfl
def dictOf:D->Option (List (aN×D))
 | .dict kvs=>some kvs
 |_=>none
@[simp] theorem xJ (kvs:List (aN×D)):dictOf (.dict kvs)=some kvs:=rfl
@[simp] theorem DB (i:Int):gH (.int i)=some (.inl i):=rfl
@[simp] theorem D0 (a b:ME):cY a b S=(a S).bind fun x=>(b x.2).bind fun y=>(dictOf y.1).bind fun kvs=>(gH x.1).map fun key=>(.bl (!(getD kvs key).isSome),y.2):=by
 show (a S).bind _=_;congr 1;funext x;show (b x.2).bind _=_;congr 1;funext y;obtain⟨d,S'⟩:=y;cases d <;> rfl
@[simp] theorem Lv (a b:ME):fO a b S=(a S).bind fun x=>(b x.2).bind fun y=>(dictOf x.1).bind fun kvs=>(gH y.1).bind fun key=>(getD kvs key).map fun d=>(d,y.2):=by
 show (a S).bind _=_;congr 1;funext x;show (b x.2).bind _=_;congr 1;funext y;obtain⟨d,S'⟩:=x;cases d <;> rfl
@[simp] theorem KS:hX S=some (.owd [],S):=rfl
@[simp] theorem Nc (x:Nat) (k:MK) (body:MS):jF x k body S=(gO k S).bind fun y=>(eh (aA y.1)).bind fun ds=>dE x body ds y.2:=rfl
@[simp] theorem Ig (x:Nat) (a:ML) (body:MS):kF x a body S=(a S).bind fun y=>(sk y.1).bind fun ds=>dE x body ds y.2:=rfl
@[simp] theorem LV (x y:Nat) (k:MK) (body:MS):EJ x y k body S=(gO k S).bind fun z=>(eh (aA z.1)).bind fun ds=>qh x y body 0 ds z.2:=rfl
@[simp] theorem LI (x y:Nat) (k l:MK) (body:MS):Ka x y k l body S=(gO k S).bind fun z=>(gO l z.2).bind fun w=>(eh (aA z.1)).bind fun ds=>(eh (aA w.1)).bind fun es =>
 if ds.length=es.length then tZ x y body ds es w.2 else none:=rfl
@[simp] theorem LZ (src:MI) (fr:List Nat) (tf:MT) (te:MK):dg src fr tf te S=(src S).bind fun y=>(fzAll fr y.2).bind fun S2=>(wW S2 fr).bind fun cap=>jj (y.1.length<=cZ) ((cE tf te cap y.1).map fun avs=>(.ow avs,S2)):=rfl
@[simp] theorem ND (k:MK):iJ k S=(gO k S).bind fun y=>(eh (aA y.1)).map fun ds=>(ds,y.2):=rfl
@[simp] theorem PR (a:ML):Nb a S=(a S).bind fun y=>(sk y.1).map fun ds=>(ds,y.2):=rfl
@[simp] theorem CW:fzAll [] S=some S:=rfl
@[simp] theorem AW (j:Nat) (js:List Nat):fzAll (j::js) S=(S[j]?.join).bind fun a=>fzAll js (S.set j (some (.sh (aA a)))):=rfl
@[simp] theorem Fl:wW S []=some []:=rfl
@[simp] theorem Cp (j:Nat) (js:List Nat):wW S (j::js)=(KC S[j]?.join).bind fun a=>(wW S js).map (some a :: ·):=rfl
@[simp] theorem LG (l:ML):iM l S=(l S).map fun x=>(.ow (x.1.map .sh),x.2):=rfl
@[simp] theorem Jd (l:ML):tS l S=(l S).bind fun x=>(dA x.1).map fun ns=>(.ow ((bV ns).map fun n=>.sh (.int n)),x.2):=rfl
def Mg:AV->Option (List AV)
 | .ow avs=>some avs
 |_=>none
@[simp] theorem IB (avs:List AV):Mg (.ow avs)=some avs:=rfl
@[simp] theorem Em (k:MK):rO k S=(k S).bind fun x=>(Mg x.1).bind fun avs=>(tj avs).map fun rs=>(.ow ((dw rs).map aI),x.2):=by
 show (k S).bind _=_;congr 1;funext x;obtain⟨d,S'⟩:=x;cases d <;> rfl
@[simp] theorem PY (T:String) (f:D->List D->Option D) (a:ME) (as:ML):OV T f a as S=(a S).bind fun x=>if NJ T x.1=true then (as x.2).bind fun y=>(f x.1 y.1).map fun d=>(d,y.2) else none:=rfl
def Ov:D->Option (List D)
 | .list ds=>some ds
 |_=>none
def Nu:AV->Option (List D)
 | .sh (.list ds)=>some ds
 | .ow avs=>some (avs.map aA)
 |_=>none
@[simp] theorem LM (ds:List D):Nu (.sh (.list ds))=some ds:=rfl
@[simp] theorem Ko (avs:List AV):Nu (.ow avs)=some (avs.map aA):=rfl
@[simp] theorem PM (k:MK):lOf k S=(k S).bind fun x=>(Nu x.1).map fun ds=>(ds,x.2):=by
 show (k S).bind _=_;congr 1;funext x;obtain⟨a,S'⟩:=x;cases a with
 |sh d=>cases d <;> rfl
 |_=>rfl
end
@[simp] theorem EG (ds:List D):(ds.map AV.sh).map aA=ds:=by
 rw[mPq];have:aA∘AV.sh=id:=by funext d;simp
 rw[this,TR]
def O5:AV->AV
 | .ow avs=>.ow ((avs.map aA).map .sh)
 |a=>a
@[simp] theorem LA (d:D):O5 (.sh d) = .sh d:=rfl
@[simp] theorem KP (avs:List AV):O5 (.ow avs) = .ow ((avs.map aA).map .sh):=rfl
theorem uw{S:AS}{i:Nat}{a:AV}(h:S[i]?=some (some a)):S.set i (some a)=S:=by
 obtain⟨hk,ev⟩:=gSq.mp h;rw[←ev];exact UR hk
@[simp] theorem NQ (S:AS) (i:Nat):uF i S=(S[i]?.join).bind fun a=>(Nu a).map fun ds=>(ds,S.set i (some (O5 a))):=by
 unfold uF;cases e:S[i]?.join with
 |none=>rfl
 |some a =>
  cases a with
  |sh d =>
   cases d with
   |list ds =>
    show some (ds,S)=some (ds,S.set i (some (.sh (.list ds))));rw[uw (bp e)]
   |_=>rfl
  |ow avs=>rfl
  |owd kvs=>rfl
  |owl kvs=>rfl
def O0:AV->Option (List D)
 | .sh (.scr ns)=>some (ns.map .int)
 |a=>Nu a
@[simp] theorem Hw (ns:List Int):O0 (.sh (.scr ns))=some (ns.map .int):=rfl
@[simp] theorem Kw (ds:List D):O0 (.sh (.list ds))=some ds:=rfl
@[simp] theorem Lz (avs:List AV):O0 (.ow avs)=some (avs.map aA):=rfl
@[simp] theorem Ox (S:AS) (i:Nat):eU i S=(S[i]?.join).bind fun a=>(O0 a).map fun ds=>(ds,S.set i (some (O5 a))):=by
 unfold eU;cases e:S[i]?.join with
 |none=>rfl
 |some a =>
  cases a with
  |sh d =>
   cases d with
   |list ds =>
    show some (ds,S)=some (ds,S.set i (some (.sh (.list ds))));rw[uw (bp e)]
   |scr ns =>
    show some (ns.map D.int,S)=some (ns.map D.int,S.set i (some (.sh (.scr ns))));rw[uw (bp e)]
   |_=>rfl
  |ow avs=>rfl
  |owd kvs=>rfl
  |owl kvs=>rfl
@[simp] theorem Ff (i:Int):(D.int i).scal=true:=rfl
@[simp] theorem JG (i:Bool):(D.bl i).scal=true:=rfl
@[simp] theorem Jy (i:String):(D.ty i).scal=true:=rfl
@[simp] theorem Ga (i:Int):DY (.sh (.int i))=some (.int i):=rfl
@[simp] theorem Hy (i:Bool):DY (.sh (.bl i))=some (.bl i):=rfl
@[simp] theorem HS (i j:Int):qA (.int i) (.int j)=some (.bl (decide (i=j))):=rfl
@[simp] theorem JK (b:Bool):Dx (.bl b)=some (.bl (!b)):=rfl
@[simp] theorem Hk (i j:Int):Dy (.int i) (.int j)=some (.bl (!decide (i=j))):=rfl
@[simp] theorem Cq (ds:List D):bS [.list ds]=some (.int ds.length):=rfl
@[simp] theorem Eh (ns:List Int):bS [.scr ns]=some (.int ns.length):=rfl
@[simp] theorem Dq (ds:List D):nO [.list ds,.ty "list"]=some (.bl true):=by simp[nO,NC]
@[simp] theorem GA (i:Int):nO [.int i,.ty "int"]=some (.bl true):=by simp[nO,NC]
@[simp] theorem CG (i:Int):nO [.int i,.ty "bool"]=some (.bl false):=by simp[nO,NC]
@[simp] theorem wL (ds:List D):eh (.list ds)=some ds:=rfl
@[simp] theorem FO (ds:List D) (i:Int):zB (.list ds) (.int i)=atI ds i:=rfl
@[simp] theorem Ii (ns:List Int) (i:Int):zB (.scr ns) (.int i)=(atI ns i).map .int:=rfl
@[simp] theorem HJ (d:D):KC (some (.sh d))=some (.sh d):=rfl
@[simp] theorem Ei (ds:List D):NJ "list" (.list ds)=true:=rfl
theorem IZ(S:AS) (i:Nat):cu S i=(S[i]?.join).bind Mg:=by
 unfold cu;cases S[i]?.join with
 |none=>rfl
 |some a=>cases a <;> rfl
def Kd:AV->Option (List (aN×D))
 | .owd kvs=>some kvs
 |_=>none
@[simp] theorem Dg (kvs:List (aN×D)):Kd (.owd kvs)=some kvs:=rfl
theorem Ec(S:AS) (i:Nat):ja S i=(S[i]?.join).bind Kd:=by
 unfold ja;cases S[i]?.join with
 |none=>rfl
 |some a=>cases a <;> rfl
theorem yf{x:Nat}{body:MS}(P:Nat->AS->Prop):∀{ds:List D}{S:AS}{k:Nat},P k S->(∀i d S,ds[i]?=some d->P (k+i) S->∃S',(body (S.set x (some (.sh d)))=some (.nx S')∨body (S.set x (some (.sh d)))=some (.ct S'))/\P (k+i+1) S')->∃S',dE x body ds S=some (.nx S')/\P (k+ds.length) S'
 | [],S,k,h0,_=>⟨S,rfl,h0⟩
 |d::ds,S,k,h0,hs=>by
  obtain⟨S',e,h1⟩:=hs 0 d S rfl h0;have hs':∀i d S,ds[i]?=some d->P (k+1+i) S->∃S',(body (S.set x (some (.sh d)))=some (.nx S')∨body (S.set x (some (.sh d)))=some (.ct S'))/\P (k+1+i+1) S':=fun i d S h p=>by
   have:=hs (i+1) d S (by simpa using h) (by rw[show k+(i+1)=k+1+i by lia];exact p)
   rw[show k+(i+1)=k+1+i by lia]at this
   exact this
  obtain⟨S2,e2,h2⟩:=yf P (k:=k+1) h1 hs';refine⟨S2,?_,by rw[lCq,show k+(ds.length+1)=k+1+ds.length by lia];exact h2⟩
  show (body _).bind _=_;rcases e with e|e <;> (rw[e];exact e2)
theorem fk{x:Nat}{body:MS}(P:Nat->AS->Prop) {ds:List D}{S:AS}(h0:P 0 S) (hs:∀i d S,ds[i]?=some d->P i S->∃S',body (S.set x (some (.sh d)))=some (.nx S')/\P (i+1) S'):∃S',dE x body ds S=some (.nx S')/\P ds.length S':=by
 have:=yf (x:=x) (body:=body) P (ds:=ds) (k:=0) h0 fun i d S h p=>by
  rw[SB]at p ⊢;obtain⟨S',e,q⟩:=hs i d S h p;exact⟨S',.inl e,q⟩
 rw[SB]at this;exact this
theorem Kb{x y:Nat}{body:MS}(P:Nat->AS->Prop):∀{ds:List D}{S:AS}{k:Nat},P k S->(∀i d S,ds[i]?=some d->P (k+i) S->∃S',body ((S.set x (some (.sh (.int (k+i:Nat))))).set y (some (.sh d)))=some (.nx S')/\P (k+i+1) S')->∃S',qh x y body k ds S=some (.nx S')/\P (k+ds.length) S'
 | [],S,k,h0,_=>⟨S,rfl,h0⟩
 |d::ds,S,k,h0,hs=>by
  obtain⟨S',e,h1⟩:=hs 0 d S rfl h0;have hs':∀i d S,ds[i]?=some d->P (k+1+i) S->∃S',body ((S.set x (some (.sh (.int (k+1+i:Nat))))).set y (some (.sh d)))=some (.nx S')/\P (k+1+i+1) S':=fun i d S h p=>by
   have:=hs (i+1) d S (by simpa using h) (by rw[show k+(i+1)=k+1+i by lia];exact p)
   rw[show k+(i+1)=k+1+i by lia]at this
   exact this
  obtain⟨S2,e2,h2⟩:=Kb P (k:=k+1) h1 hs';refine⟨S2,?_,by rw[lCq,show k+(ds.length+1)=k+1+ds.length by lia];exact h2⟩
  show (body ((S.set x (some (.sh (.int (k:Nat))))).set y (some (.sh d)))).bind _=_;rw[Vv]at e;rw[e];exact e2
theorem J8{x y:Nat}{body:MS}(P:Nat->AS->Prop):∀{ds es:List D}{S:AS}{k:Nat},ds.length=es.length->P k S->(∀i d e S,ds[i]?=some d->es[i]?=some e->P (k+i) S->∃S',body ((S.set x (some (.sh d))).set y (some (.sh e)))=some (.nx S')/\P (k+i+1) S')->∃S',tZ x y body ds es S=some (.nx S')/\P (k+ds.length) S'
 | [],[],S,k,_,h0,_=>⟨S,rfl,h0⟩
 | [],_::_,S,k,hl,_,_=>by simp at hl
 |_::_,[],S,k,hl,_,_=>by simp at hl
 |d::ds,b::es,S,k,hl,h0,hs=>by
  obtain⟨S',e,h1⟩:=hs 0 d b S rfl rfl h0;have hs':∀i d e S,ds[i]?=some d->es[i]?=some e->P (k+1+i) S->∃S',body ((S.set x (some (.sh d))).set y (some (.sh e)))=some (.nx S')/\P (k+1+i+1) S':=fun i d e S h h' p=>by
   have:=hs (i+1) d e S (by simpa using h) (by simpa using h') (by rw[show k+(i+1)=k+1+i by lia];exact p)
   rw[show k+(i+1)=k+1+i by lia]at this
   exact this
  obtain⟨S2,e2,h2⟩:=J8 P (k:=k+1) (by simpa using hl) h1 hs'
  refine⟨S2,?_,by rw[lCq,show k+(ds.length+1)=k+1+ds.length by lia];exact h2⟩
  show (body _).bind _=_;rw[e];exact e2
theorem fi{te:MK}{cap:AS}(g:D->AV):∀{ds:List D},(∀d∈ds,∃S',te (some (.sh d)::cap)=some (g d,S'))->cE cX te cap ds=some (ds.map g)
 | [],_=>rfl
 |d::ds,h=>by
  obtain⟨S',e⟩:=h d (by simp)
  show (te (some (.sh d)::cap)).bind (fun a=>(cE cX te cap ds).map (a.1 :: ·))=_
  rw[e,fi g fun x hx=>h x (mCo _ hx)]
  rfl
theorem eY{tf:MT}{te:MK}{cap:AS}(p:D->Bool) (g:D->AV):∀{ds:List D},(∀d∈ds,∃S1,tf (some (.sh d)::cap)=some (p d,S1)/\(p d=true->∃S',te S1=some (g d,S')))->cE tf te cap ds=some ((ds.filter p).map g)
 | [],_=>rfl
 |d::ds,h=>by
  obtain⟨S1,e1,e2⟩:=h d (by simp)
  have ih:=eY (tf:=tf) (te:=te) (cap:=cap) p g fun x hx=>h x (mCo _ hx)
  show (tf (some (.sh d)::cap)).bind _=_;rw[e1];show (if p d=true then _ else _)=_
  by_cases c:p d=true
  .obtain ⟨S',e3⟩:=e2 c;rw[if_pos c,e3,Sy c];show (cE tf te cap ds).map _=_;rw[ih];rfl
  .rw [if_neg c,SJ c,ih]
theorem jQ{α β:Type}(f:α->β) (xs:List α) (lo hi:Option Int):lg (xs.map f) lo hi=(lg xs lo hi).map f:=by
 unfold lg;rw[lMq,VX,List.map_drop]
theorem vp{α:Type}(xs:List α) (i:Nat) (h:i<=xs.length):lg xs (some (i:Int)) none=xs.drop i:=by
 unfold lg;rw[HT.rF,HT.xW,Ug h,S0 (by rw[RL];exact Rk _)]
theorem vX{α:Type}(xs:List α) (i:Nat) (h:i<=xs.length):lg xs none (some (i:Int))=xs.take i:=by
 unfold lg;rw[HT.rF,HT.xW,Ug h,UE,WB]
theorem D8{α:Type}(xs:List α) (i j:Nat):lg xs (some (i:Int)) (some (j:Int))=(xs.drop i).take (j-i):=by
 unfold lg;rw[HT.rF,HT.rF]
 by_cases h:i<=xs.length
 .rw [Ug h]
  by_cases h2:j<=xs.length
  .rw [Ug h2]
  .rw [Wh (by lia),S0 (by rw[RL];exact Rk _),S0 (by rw[RL];lia)]
 .have e:min i xs.length=xs.length:=Wh (by lia)
  rw[e,UL (Rk xs.length),UL (show xs.length<=i by lia)]
  simp
theorem Bb{α:Type}{xs:List α}{i:Int}(h0:0<=i):atI xs i=xs[i.toNat]?:=by
 unfold atI xo;rw[if_pos h0]
 by_cases h:i<xs.length
 .rw [if_pos h];rfl
 .rw [if_neg h,Se (by lia)]
  rfl
theorem Jo{α β:Type}(f:α->β) (xs:List α) (i:Int):atI (xs.map f) i=(atI xs i).map f:=by
 unfold atI;rw[lMq];cases xo xs.length i with
 |none=>rfl
 |some j=>show (xs.map f)[j]?=_;rw[gMq];rfl
theorem BP{n:Nat}{i:Nat}(h:i<n):xo n (i:Int)=some i:=by
 unfold xo;rw[if_pos (by lia),if_pos (by lia)]
 simp
theorem wZ(ns:List Int):(ns.map D.int).map AV.sh=ns.map fun n=>AV.sh (.int n):=by rw[mPq];rfl
theorem wI(ns:List Int):(ns.map fun n=>AV.sh (.int n)).map aA=ns.map D.int:=by rw[mPq];exact mCq fun n _=>by simp
theorem IT(rs:List (List Int)):(rs.map aI).map aA=rs.map dI:=by
 rw[mPq];refine mCq fun r _=>?_
 show aA (.ow (r.map fun n=>AV.sh (.int n)))=_
 rw[eK,wI]
theorem IE(rs:List (List Int)):(rs.map fun r=>AV.sh (dI r)).map aA=rs.map dI:=by rw[mPq];exact mCq fun n _=>by simp
theorem aE(ns:List Int):aA (aI ns)=dI ns:=by
 show aA (.ow (ns.map fun n=>AV.sh (.int n)))=_
 rw[eK,wI]
theorem IG(i j:Int):jv (.int i) (.int j)=some (.int (i+j)):=jI _
theorem JM(i j:Int):kX (.int i) (.int j)=some (.int (i-j)):=jI _
theorem Md(i j:Int):Kv (.int i) (.int j)=some (.bl (decide (i<j))):=jI _
theorem Kz(i j:Int):uE (.int i) (.int j)=some (.bl (decide (j<i))):=jI _
theorem Mm(i:Int):gD (.int i)=some (.int (-i)):=rfl
theorem Qy:qX (.int 10) (.int 40)=some (.int (10 ^ 40)):=gL ⟨by decide,by decide,by decide⟩ _
theorem QW:qX (.int 10) (.int 57)=some (.int (10 ^ 57)):=gL ⟨by decide,by decide,by decide⟩ _
theorem GP{i j:Int}(h1:-(2 ^ 64)<i) (h2:i<2 ^ 64):pX (.int i) (.int j)=some (.int (i*j)):=gL (.inl ⟨h1,h2⟩) _
theorem BO{i j:Int}(h1:-(2 ^ 64)<j) (h2:j<2 ^ 64):pX (.int i) (.int j)=some (.int (i*j)):=gL (.inr ⟨h1,h2⟩) _
theorem cV{i j:Int}(h:0<j):ee (.int i) (.int j)=some (.int (i % j)):=gL h _
theorem kY{i j:Int}(h:0<j) (h2:j<1073741824):mD (.int i) (.int j)=some (.int (i / j)):=gL ⟨h,h2⟩ _
theorem N9:(0:Nat)<=cZ:=by decide
theorem Nz:(1:Nat)<=cZ:=by decide
theorem NN:(2:Nat)<=cZ:=by decide
theorem kx{n:Nat}(h:n<=16777216):n<=cZ:=h
theorem Fq{n:Nat}(h:n<16777216):n<cZ:=h
theorem mn{n:Nat}(h:n<1000000):sk [.int (n:Int)]=some (bP 0 n):=by
 have e:sk [.int (n:Int)]=some (bP 0 (n:Int).toNat):=gL ⟨by lia,by lia⟩ _
 rw[e,Tv]
theorem qB(n:Nat):bP 0 n=(Sg n).map fun i:Nat=>D.int i:=by
 unfold bP;exact mCq fun i _=>by rw[V4]
theorem Nr(np n:Nat) (m:MS) (ds:List D):cL np n m ds=if ds.length=np then (m (ds.map (fun d=>some (.sh d))++SD (n-ds.length) none)).bind fun o=>match o with
  | .rt a=>some a
  | .nx _=>some (.sh .non)
  |_=>none
 else none:=rfl
theorem Q8{α:Type}{a b:α}{l:List α}:(a::b::l)[1]?=some b:=rfl
theorem OI{α:Type}{a b v:α}{l:List α}:(a::b::l).set 1 v=a::v::l:=rfl
theorem Q3{α:Type}{a b c:α}{l:List α}:(a::b::c::l)[2]?=some c:=rfl
theorem xl{α:Type}{a b c v:α}{l:List α}:(a::b::c::l).set 2 v=a::b::v::l:=rfl
theorem QM{α:Type}{a b c d:α}{l:List α}:(a::b::c::d::l)[3]?=some d:=rfl
theorem O4{α:Type}{a b c d v:α}{l:List α}:(a::b::c::d::l).set 3 v=a::b::c::v::l:=rfl
theorem Q5{α:Type}{a b c d:α}{l:List α}{n:Nat}:(a::b::c::d::l)[n+4]?=l[n]?:=rfl
theorem OT{α:Type}{a b c d v:α}{l:List α}{n:Nat}:(a::b::c::d::l).set (n+4) v=a::b::c::d::l.set n v:=rfl
def zq:=Rj @Z.jI (Rj @Z.N9 (Rj @Z.Nz (Rj @Z.NN (Rj @Z.N1 (Rj @Z.NX (Rj @Z.Os (Rj @Z.PH (Rj @Z.Pm (Rj @Z.NF (Rj @Z.Q7 (Rj @Z.Qc (Rj @Z.PP (Rj @Z.Oa (Rj @Z.KY (Rj @Z.Mi (Rj @Z.O7 (Rj @Z.Mz (Rj @Z.Ih (Rj @Z.OE (Rj @Z.Kn (Rj @Z.Lg (Rj @Z.Jv (Rj @Z.NL (Rj @Z.Nh (Rj @Z.KF (Rj @Z.KG (Rj @Z.Dz (Rj @Z.P9 (Rj @Z.Pd (Rj @Z.O9 (Rj @Z.Kk (Rj @Z.LQ (Rj @Z.LK (Rj @Z.EH (Rj @Z.GJ (Rj @Z.On (Rj @Z.MQ (Rj @Z.NT (Rj @Z.Py (Rj @Z.Ow (Rj @Z.Oj (Rj @Z.LJ (Rj @Z.xJ (Rj @Z.DB (Rj @Z.D0 (Rj @Z.Lv (Rj @Z.KS (Rj @Z.Nc (Rj @Z.Ig (Rj @Z.LV (Rj @Z.LI (Rj @Z.LZ (Rj @Z.ND (Rj @Z.PR (Rj @Z.CW (Rj @Z.AW (Rj @Z.Fl (Rj @Z.Cp (Rj @Z.LG (Rj @Z.Jd (Rj @Z.IB (Rj @Z.Em (Rj @Z.PY (Rj @Z.LM (Rj @Z.Ko (Rj @Z.PM (Rj @Z.EG (Rj @Z.LA (Rj @Z.KP (Rj @Z.NQ (Rj @Z.Hw (Rj @Z.Kw (Rj @Z.Lz (Rj @Z.Ox (Rj @Z.Ff (Rj @Z.JG (Rj @Z.Jy (Rj @Z.Ga (Rj @Z.Hy (Rj @Z.IG (Rj @Z.JM (Rj @Z.Md (Rj @Z.Kz (Rj @Z.Mm (Rj @Z.Qy (Rj @Z.QW (Rj @Z.wZ (Rj @Z.wI (Rj @Z.IT (Rj @Z.HS (Rj @Z.JK (Rj @Z.Hk (Rj @Z.Cq (Rj @Z.Eh (Rj @Z.Dq (Rj @Z.GA (Rj @Z.CG (Rj @Z.wL (Rj @Z.FO (Rj @Z.Ii (Rj @Z.HJ (Rj @Z.Ei (Rj @Z.IZ (Rj @Z.Ec (Rj @Z.Dg (Rj @Z.gu (Rj @Z.eK (Rj @Z.ql (Rj @Z.Nr (Rj @Z.fS (Rj @Z.CJ (Rj @List.getElem?_cons_zero.{0} (Rj @Z.Q8 (Rj @Z.Q3 (Rj @Z.QM (Rj @Z.Q5 (Rj @List.set_cons_zero.{0} (Rj @Z.OI (Rj @Z.xl (Rj @Z.O4 (Rj @Z.OT (Rj @Option.join_some.{0} (Rj @Option.map_some.{0, 0} (Rj @Option.bind_some.{0, 0} (Rj @List.length_cons.{0} (Rj @List.length_nil.{0} (Rj @List.map_cons.{0, 0} (Rj @List.map_nil.{0, 0} (Rj @List.nil_append.{0} (Rj @List.cons_append.{0} (Rj @List.length_map.{0, 0} (Rj @Bool.not_true (Rj @Bool.not_false (Rj @Bool.false_eq_true (Rj @decide_true (Rj @decide_false (Rj @Nat.zero_add (Rj @List.replicate_zero.{0} @List.append_nil.{0}))))))))))))))))))))))))))))))))))))))))))))))))))))))))))))))))))))))))))))))))))))))))))))))))))))))))))))))))))))))))))))))))))))))))))
theorem IY{K:W.Frag}{f:MF}(h:∀ns:List Int,ns.length<=63->f [.scr ns]=some (.sh (.bl true))):∀vs H Q E,Bz K vs H Q E->bT K f vs H Q E:=by
 rintro vs H Q E ⟨a,ns,rfl,hS,hl,q⟩;refine⟨H,[.scr ns],_,.refl _,.cons (.scr hS) .nil,h ns hl,fun Hf' H' v F _ _ _ _ r _ _=>?_⟩
 cases r.sh_inv.2;exact q H'
end Z
namespace Mr
open PySem PySem.Spec PyProof.Rows L2
section
variable {X:Cx}{tg:Expr}
def A3{α:Type}(P:α->Prop):List α->Prop
 | []=>True
 |a::l=>P a/\A3 P l
theorem A3.mem{α:Type}{P:α->Prop}:∀{l:List α},A3 P l->∀a∈l,P a
 | [],_,a,h=>by cases h
 |b::l,hp,a,h=>(Rl.mp h).elim (fun e=>e ▸ hp.1) (A3.mem hp.2 a)
theorem fP.of{scope:Scope}{cl:List (Str×Addr)}{x:Str}{N:List Str}{fr:List Nat}(h1:N.Nodup) (h2:N[0]?=some x) (h3:N.length=fr.length+1)
  (h4:A3 (fun p=>X.env.cells.lookup p.1=some p.2) cl) (h5:A3 (fun p=>(p.2 = .cell∨p.2 = .free)->∃c,cl.lookup p.1=some c) (relabel scope X.env).names)
  (h6:A3 (fun p=>X.N[p.1]?=some p.2/\X.env.scope.names.lookup p.2=some .cell/\(relabel scope X.env).names.lookup p.2=some .cell) (fr.zip (N.drop 1))):fP X scope cl x N fr where
 names:=h1
 own:=h2
 len:=h3
 sub:=fun y c e=>h4.mem (y,c) (PySem.mem_of_lookup e)
 has:=fun y e=>by
  rcases e with e|e
  .exact h5.mem _ (PySem.mem_of_lookup e) (.inl rfl)
  .exact h5.mem _ (PySem.mem_of_lookup e) (.inr rfl)
 get:=fun k j y e1 e2=>by
  have hm:(j,y)∈fr.zip (N.drop 1):=by
   refine mGq (i:=k) ?_;rw[T4];exact⟨e1,by rw[Ud,Vy];exact e2⟩
  exact h6.mem _ hm
end
end Mr
namespace Z
open PySem L2 Mr
end Z
namespace Mr
open PySem PySem.W PySem.Spec PyProof.Rows L2
abbrev g2(K:W.Frag):TG:=HP K 2 (ur (eZ 0) (ur (eZ 1) IF))
end Mr
namespace Mr
open PySem L2
end Mr
namespace Xe
open PySem PySem.Spec PySem.W PyProof.Rows L2 Mr
section
variable {X:Cx}
def NW(o:Obj) (d:Addr) (kvs:List (aN×V)):It :=
  ⟨fun i H=>H d=some (.frz o (.dK kvs))/\∃p,kvs[i]?=some p,
   fun i H x H'=>H'=H/\∃p,kvs[i]?=some p/\x=kV p.1,
   fun i H=>H d=some (.frz o (.dK kvs))/\kvs.length<=i⟩
theorem CO{P:Program}{w:World}{K:Frag}{tg:Expr}(o:Obj) (d it:Addr) (kvs:List (aN×V)) (vs:List (aN×Value)) (ep:Nat) (hne:d≠it)
  (ho:∀h:Heap,h.get? d=some o->h.DictAt (bZ P w) d vs ep) (kv:KV kvs vs):DE P w K tg (NW o d kvs) [it] it (fun i h=>h.IsKeyIter it d i vs.length ep) where
 mem:=by simp
 obj:=fun i h st b hb=>by
  have e:b=it:=by simpa using hb
  subst e;obtain⟨o',e,c,dd⟩:=st;exact⟨o',e,fun v z=>by rw[dd]at z;cases z⟩
 keep:=fun i h h' st k=>by
  obtain⟨o',e,c,dd⟩:=st;exact⟨o',k it (by simp) _ e,c,dd⟩
 item:=by
  intro X hP hw hK hc i aa s σ H E I hf st hg;subst hP hw hK;obtain⟨hd,p,hp⟩:=hg;have e1:s.heap.get? d=some o:=(show cW X.prog X.w H s.heap d (.frz o (.dK kvs)) from I.hok d _ hd).1
  obtain⟨u,hx,ru⟩:=Kl kv hp;obtain⟨f0,f1,f2,f3,f4,f5⟩:=hf it (by simp)
  refine wpAny_pyNext_dict_item st (ho _ e1) hx fun key h' hkey st' sb=>?_
  have I1:L2.Inv X aa σ H { s with heap:=h' }:=I.turned (t':=s.toks) (fun b o hb e=>(sb.2 b hb).trans e) f0 f1 f3 f4 f5
  have rk:bR (kV p.1) key:=by
   rcases bX hkey with ⟨j,t,e,rfl⟩|⟨z,t,e,rfl⟩
   .rw [e];exact⟨t,rfl⟩
   .rw [e];exact⟨t,rfl⟩
  obtain⟨o',e,c,dd⟩:=id st';exact⟨key,rfl,Ed (s:={ s with heap:=h' }) e c dd (by decide) ⟨_,H,I1,rk,⟨rfl,p,hp,rfl⟩,st',fun b hb=>(hf b hb).1⟩⟩
 done:=by
  intro X hP hw hK hc i aa s σ H E I hf st hg;subst hP hw hK;obtain⟨hd,hl⟩:=hg;have e1:s.heap.get? d=some o:=(show cW X.prog X.w H s.heap d (.frz o (.dK kvs)) from I.hok d _ hd).1
  have l:=Paired.length kv;obtain⟨f0,f1,f2,f3,f4,f5⟩:=hf it (by simp)
  exact wpAny_pyNext_dict_end (I.ok.hd hc) st (ho _ e1) (Se (by lia)) fun h' eb=>⟨rfl,I.turned (t':=s.toks) (fun b o hb e=>eb b o hb e) f0 f1 f3 f4 f5⟩
 self:=fun _ _ _ _ _ st h=>wpAny_pyIter_keyiter st h
def JR(te:TE):TI:=fun σ H R=>te σ H fun x H1=>∃d kvs,x = .ref d/\H1 d=some (.dK kvs)/\∀o,R (NW o d kvs) (cI H1 d (.frz o (.dK kvs)))
theorem HC{tg o:Expr}{te:TE}(ho:PE X o te):PI X tg o (JR te):=by
 intro aa s σ H R I h;refine dY (ho aa s σ H _ I h) fun v s1 hz1=>?_
 obtain⟨x,H1,I1,r1,d,kvs,ex,ha,q⟩:=hz1;subst ex;obtain rfl:=(show v=S8 d from r1)
 obtain⟨hz,sa,vs,kv,dd⟩:=(show cW X.prog X.w H1 s1.heap d (.dK kvs) from I1.hok d _ ha)
 obtain⟨ep,ob,es,hob,rest⟩:=dd.dictAt;have da:∀h:Heap,h.get? d=some ob->h.DictAt (bZ X.prog X.w) d vs ep:=fun h e=>⟨ob,es,e,rest⟩
 have hlt:d<s1.heap.objs.size:=Ro hob;refine wpAny_pyIter_dict sa (da _ hob) ?_;have kp:∀b u,s1.heap.get? b=some u->(s1.heap.push { cls:=.type "dict_keyiterator", data:=.fields #[.ref d,.int 0 0,.int vs.length 0,.int ep 0] }).get? b=some u:=fun b u e=>Rr _ e
 have I2:L2.Inv X aa σ (cI H1 d (.frz ob (.dK kvs))) { s1 with heap:=s1.heap.push { cls:=.type "dict_keyiterator", data:=.fields #[.ref d,.int 0 0,.int vs.length 0,.int ep 0] } } :=
  (I1.kept (t':=s1.toks) kp).write (x:=d) (e:=d) (o:=.frz ob (.dK kvs)) (t':=s1.toks) (by rw[ha];trivial) (.inl rfl) (fun b u _ e=>e) ⟨_,kp _ _ hob⟩ ⟨kp _ _ hob,hz,sa,vs,kv,(da _ (kp _ _ hob)).dictOf⟩
 refine⟨s1.heap.objs.size,[s1.heap.objs.size],_,_,_,rfl,I2,CO ob d _ kvs vs ep (RI hlt) da kv,?_,fun b hb=>?_,q ob⟩
 .exact ⟨_,Sk _ rfl,rfl,rfl⟩
 .have e:b=s1.heap.objs.size:=by simpa using hb
  subst e;exact I1.fpOk (Rk _) (by rw[aL (Tf hlt)];exact I1.hok.fresh (Rk _))
end
end Xe
namespace Mr
open PySem PySem.Spec PyProof.Rows L2
end Mr
namespace Z
open PySem L2 Mr
theorem Hq(c:MT) (body:MS) (n:Nat) (S:AS):cv c body (n+1) S=(c S).bind fun x=>if x.1=true then (body x.2).bind fun o=>match o with
   | .nx S'=>cv c body n S'
   | .ct S'=>cv c body n S'
   | .bk S'=>some (.nx S')
   | .rt a=>some (.rt a)
  else some (.nx x.2):=rfl
end Z
namespace Z
open PySem L2 Mr Xe
inductive Pf where
 |ok (a:AV)|ex (c:Str) (fs:List (Str×Int))
abbrev Fz:=List D->Option Pf
def Q1:Pf->Option AV
 | .ok a=>some a
 |_=>none
def P5(f:Fz):MF:=fun ds=>(f ds).bind Q1
inductive Ie where
 |ok (o:BX)|ex (c:Str) (fs:List (Str×Int))
abbrev MX:=AS->Option Ie
def Dh(m:MS):MX:=fun S=>(m S).map .ok
def qZ(a b:MX):MX:=fun S=>(a S).bind fun o=>match o with
 | .ok (.nx S')=>b S'
 |o=>some o
def NA(c:MT) (a b:MX):MX:=fun S=>(c S).bind fun x=>if x.1=true then a x.2 else b x.2
def zK(c fld:Str) (a:ML):MX:=fun S=>(a S).bind fun x=>match x.1 with
 | [.int n]=>some (.ex c [(fld,n)])
 |_=>none
def Ck(np n:Nat) (m:MX):Fz:=fun ds=>if ds.length=np then (m (ds.map (fun d=>some (.sh d))++SD (n-ds.length) none)).bind fun o=>match o with
  | .ok (.rt a)=>some (.ok a)
  | .ok (.nx _)=>some (.ok (.sh .non))
  | .ex c fs=>some (.ex c fs)
  |_=>none
 else none
section
variable {K:W.Frag}{te:TE}{m:ME}{f:Str}
end
def kD:aN->D
 | .inl i=>.int i
 | .inr x=>.str x
theorem HU{K:W.Frag}{H:Hp}(k:aN):dk K H (kD k) (kV k):=by
 cases k with
 |inl i=>exact .int
 |inr x=>exact .str
section
variable {K:W.Frag}{te tf:TE}{k:MK}{tb:TS}{body:MS}{x y:Nat}
theorem bA.fix{H₀ Hf₀ Hf H:Hp}{S:AS}{σ:St}{Fs:List (List Addr)}(R:bA K H₀ Hf₀ Hf S σ H Fs) {p:Addr}{o:HO}(h1:p∉Fs.flatten) (h2:Hf p=none) (h3:H₀ p=none):bA K H₀ Hf₀ (cI Hf p o) S σ (cI H p o) Fs:=by
 have s:bD Hf (cI Hf p o):=lV h2;refine⟨R.len,R.lenF,fun i av e=>?_,R.emp,R.nd,R.fresh,fun b u z=>?_,fun b u z=>?_,fun b z1 z2=>?_,R.sf.trans s⟩
 .obtain ⟨v,F,e1,e2,r⟩:=R.rep i av e;have hne:∀q∈F,q≠p:=fun q hq z=>h1 (by rw[←z];exact mFq.mpr ⟨F,mGq e2,hq⟩)
  exact⟨v,F,e1,e2,r.keep s (fun q hq=>aL (hne q hq)) fun q hq=>by rw[aL (hne q hq)];exact(r.owned q hq).2⟩
 .by_cases hb:b=p
  .subst hb;rw[aU]at z ⊢;exact z
  .rw [aL hb]at z ⊢;exact R.sub b u z
 .have hb:b≠p:=fun q=>by rw[q,h3]at z;cases z
  rw[aL hb];exact R.fr b u z
 .have hb:b≠p:=fun q=>z2 (by rw[q];exact h3)
  rw[aL hb];exact R.lim b z1 z2
end
variable (S:AS)
def ER(x:Nat) (body:MX):List D->AS->Option Ie
 | [],S=>some (.ok (.nx S))
 |d::ds,S=>(body (S.set x (some (.sh d)))).bind fun o=>match o with
  | .ok (.nx S')=>ER x body ds S'
  | .ok (.ct S')=>ER x body ds S'
  | .ok (.bk S')=>some (.ok (.nx S'))
  | .ok (.rt a)=>some (.ok (.rt a))
  | .ex c fs=>some (.ex c fs)
def LU(x:Nat) (k:MK) (body:MX):MX:=fun S=>(gO k S).bind fun y=>(eh (aA y.1)).bind fun ds=>ER x body ds y.2
def Gk(f:AV->Option Ie):Pf->Option Ie
 | .ok r=>f r
 | .ex c fs=>some (.ex c fs)
def Bx(f:Fz) (a:MA):MX:=fun S=>(a S).bind fun x=>(f (x.1.map aA)).bind (Gk fun _=>some (.ok (.nx x.2)))
def Qa(f:Fz) (a:MA):MX:=fun S=>(a S).bind fun x=>(f (x.1.map aA)).bind (Gk fun r=>some (.ok (.rt r)))
def Bf(c:Str):MX:=fun _=>some (.ex c [])
def OY:D->List D->Option D
 | .str a,[.str b]=>some (.bl (Txt.startswith a b))
 |_,_=>none
def N7(x y:D):Option D:=match y with
 | .non=>(match x with|.non=>some (.bl true)|.int _=>some (.bl false)|.str _=>some (.bl false)|.bl _=>some (.bl false)|.list _=>some (.bl false)|.tup _=>some (.bl false)|_=>none)
 |_=>none
def fF:List D->Option (List Bool)
 | []=>some []
 | .bl b::ds=>(fF ds).map (b :: ·)
 |_=>none
def yX:List D->Option D
 | [.list ds]=>(fF ds).map fun bs=>.bl (bs.all id)
 |_=>none
theorem tH:∀{ds:List D}{bs:List Bool},fF ds=some bs->ds=bs.map .bl
 | [],bs,h=>by cases h;rfl
 |d::ds,bs,h=>by
  cases d with
  |bl b =>
   obtain⟨ms,h1,h2⟩:=oMq.mp (show (fF ds).map (b :: ·)=some bs from h)
   subst h2;rw[tH h1];rfl
  |_=>cases h
theorem yp(bs:List Bool):fF (bs.map .bl)=some bs:=by
 induction bs with
 |nil=>rfl
 |cons b bs ih=>show (fF (bs.map .bl)).map (b :: ·)=_;rw[ih];rfl
theorem mh{K:W.Frag}{H:Hp}:∀{bs:List Bool}{vs:List V},bN K H (bs.map .bl) vs->vs=bs.map V.bl
 | [],vs,h=>h.nil_inv
 |b::bs,vs,h=>by
  obtain⟨v,ws,rfl,h1,h2⟩:=bN.cons_inv (d:=.bl b) (ds:=bs.map .bl) h;cases h1;rw[mh h2];rfl
section
variable {K:W.Frag}
theorem GC:MD K (fun xs H Q=>∃(a:Addr) (bs:List Bool),xs=[.ref a]/\dZ K H a (bs.map V.bl)/\Q (.bl (bs.all id)) H) yX:=by
 intro vs H Q ds d r e q;unfold yX at e;split at e
 .obtain ⟨bs,e1,e⟩:=oMq.mp e;cases e;obtain⟨v,ws,rfl,h1,h2⟩:=r.cons_inv;rw[h2.nil_inv];rw[tH e1]at h1;obtain⟨p,us,rfl,h3,h4⟩:=h1.list_inv;rw[mh h4]at h3;exact⟨p,bs,rfl,dZ.of h3,q _ .bl⟩
 .cases e
end
theorem JQ(ds:List D):yX [.list ds]=(fF ds).map fun bs=>.bl (bs.all id):=rfl
abbrev Bg:=As FS fun i j=>.int (i / j)
def SM(K:W.Frag) (te:TE) (m:ME):Prop:=∀{H₀ Hf₀ Hf:Hp}{S:AS}{σ:St}{H:Hp}{Fs:List (List Addr)}{d:D}{S':AS},bA K H₀ Hf₀ Hf S σ H Fs->m S=some (d,S')->∀Q:VK,
 (∀Hf' H' Fs' v,bD Hf Hf'->bA K H₀ Hf₀ Hf' S' σ H' Fs'->dk K Hf' d v->Q v H')->te σ H Q
def J3:AV->Option D
 | .sh d=>some d
 |_=>none
theorem E7{a:AV}{d:D}(h:J3 a=some d):a = .sh d:=by
 unfold J3 at h;split at h <;> cases h
 rfl
def gM(i:Nat) (b:ME):ME:=fun S=>(cu S i).bind fun _=>(b S).bind fun y=>(intOf y.1).bind fun z=>(cu y.2 i).bind fun avs=>jj (0<=z/\z<avs.length/\avs.length<=cZ) ((avs[z.toNat]?.bind J3).map fun d=>(d,y.2.set i (some (.ow (avs.eraseIdx z.toNat)))))
def rW(i:Nat):ME:=fun S=>(cu S i).bind fun avs=>(avs[avs.length-1]?.bind J3).map fun d=>(d,S.set i (some (.ow avs.dropLast)))
def OA(kvs:List (aN×D)) (k:aN):List (aN×D):=kvs.filter fun kv=>decide (kv.1≠k)
def Qn(i:Nat) (b:ME):ME:=fun S=>(ja S i).bind fun _=>(b S).bind fun y=>(gH y.1).bind fun key=>(ja y.2 i).bind fun kvs=>(getD kvs key).map fun d=>(d,y.2.set i (some (.owd (OA kvs key))))
section
variable {K:W.Frag}
theorem HI:xk K (rI FS fun i j=>.int (i / j)) Bg:=ya fun _ _ _=>.int
theorem bf.erase{Hf H:Hp}{as:List AV}{vs:List V}{Gs:List (List Addr)}(r:bf K Hf H as vs Gs) (k:Nat):bf K Hf H (as.eraseIdx k) (vs.eraseIdx k) (Gs.eraseIdx k):=by
 obtain⟨h1,h2,h3⟩:=r;refine⟨by rw[Ur,Ur,h1],by rw[Ur,Ur,h2],fun i b w G e1 e2 e3=>?_⟩
 rw[List.getElem?_eraseIdx]at e1 e2 e3;split at e1
 .rename_i q;rw[if_pos q]at e2 e3;exact h3 i b w G e1 e2 e3
 .rename_i q;rw[if_neg q]at e2 e3;exact h3 (i+1) b w G e1 e2 e3
theorem AF{Gs:List (List Addr)}{k:Nat}(h:Gs[k]?=some []):(Gs.eraseIdx k).flatten=Gs.flatten:=by
 induction Gs generalizing k with
 |nil=>cases h
 |cons g r ih =>
  cases k with
  |zero =>
   simp at h;subst h;rfl
  |succ k =>
   rw[SI,fCq,fCq,ih (by simpa using h)]
theorem bA.lose{H₀ Hf₀ Hf H:Hp}{S:AS}{σ:St}{Fs:List (List Addr)}(R:bA K H₀ Hf₀ Hf S σ H Fs) {i k:Nat}{avs:List AV}{d:D}(h:S[i]?=some (some (.ow avs))) (hk:avs[k]?=some (.sh d)) :
  ∃p vs y F',σ[i]?=some (some (.ref p))/\H p=some (.lst vs)/\avs.length=vs.length/\vs[k]?=some y/\dk K Hf d y/\bA K H₀ Hf₀ Hf (S.set i (some (.ow (avs.eraseIdx k)))) σ (cI H p (.lst (vs.eraseIdx k))) (Fs.set i F'):=by
 obtain⟨p,vs,Gs,s1,s2,h1,h2,h3,h4,h5,h6⟩:=R.ow h;have lk:k<avs.length:=(gSq.mp hk).1;obtain⟨y,hy⟩:∃y,vs[k]?=some y:=⟨_,gEg (by rw[←h3.1];exact lk)⟩
 obtain⟨G,hG⟩:∃G,Gs[k]?=some G:=⟨_,gEg (by rw[←h3.2.1];exact lk)⟩
 obtain⟨hG0,ry⟩:=(h3.2.2 k _ _ _ hk hy hG).sh_inv;subst hG0;have hf:=AF hG;refine⟨p,vs,y,p::(Gs.eraseIdx k).flatten,s1,h1,h3.1,hy,ry,R.turn s1 s2 (by simp) (bg.news aU h2 ((h3.keepUpd h4).erase k)) ?_ ?_⟩
 .rw [hf];exact Rp.mpr ⟨h4,h5⟩
 .rw [hf];exact h6
theorem tF{i:Nat}{tb:TE}{b:ME}(hb:SR K tb b):SM K (He K "list" Ge (kQ i) (iF tb mG)) (gM i b):=by
 intro H₀ Hf₀ Hf S σ H Fs d S' R e Q q;obtain⟨a0,e0,e⟩:=oBq.mp e;obtain⟨y,e1,e⟩:=oBq.mp e;obtain⟨z,e2,e⟩:=oBq.mp e;obtain⟨avs,e3,e⟩:=oBq.mp e;rcases bu e with ⟨⟨z0,z1,z2⟩,e⟩|e
 .obtain ⟨d',e4,e⟩:=oMq.mp e;cases e;obtain⟨a,e4,e5⟩:=oBq.mp e4;have e5:=E7 e5;subst e5;obtain⟨p,vs,Gs,s1,_,h1,_⟩:=R.ow (bx e0);refine⟨.ref p,s1,.inl ⟨rfl,vs,dZ.of h1⟩,hb R (d:=y.1) (S':=y.2) e1 _ fun Hf1 H1 Fs1 v t1 R1 r1=>?_⟩
  obtain⟨p',vs',w,F',s1',hp,hl,hw,rw',R2⟩:=R1.lose (bx e3) e4;rw[s1]at s1';cases s1';have hv:v = .int z:=by
   have:y.1 = .int z:=by
    revert e2
    unfold intOf;split <;> intro e2 <;> cases e2
    assumption
   rw[this]at r1;cases r1;rfl
  subst hv;have hz:(avs.length:Int)<=16777216:=by
   have:avs.length<=16777216:=z2;lia
  refine⟨p,vs',z,z.toNat,w,rfl,rfl,hp,by lia,by lia,?_,hw,q _ _ _ _ t1.sf R2 rw'⟩
  rw[←hl];unfold seqIndex?;have n1:¬ z<0:=by lia
  have n2:(decide (0<=z) && decide (z<(avs.length:Int)))=true:=by
   rw[decide_eq_true z0,decide_eq_true z1];rfl
  simp only[n1,if_false];exact if_pos n2
 .cases e
theorem KD{i:Nat}:SM K (He K "list" K0 (kQ i) mG) (rW i):=by
 intro H₀ Hf₀ Hf S σ H Fs d S' R e Q q;obtain⟨avs,e0,e⟩:=oBq.mp e;obtain⟨d',e4,e⟩:=oMq.mp e;cases e;obtain⟨a,e4,e5⟩:=oBq.mp e4;have e5:=E7 e5;subst e5;obtain⟨p,vs,w,F',s1,hp,hl,hw,rw',R2⟩:=R.lose (bx e0) e4;refine⟨.ref p,s1,.inl ⟨rfl,vs,dZ.of hp⟩,p,vs,w,rfl,rfl,hp,by rw[←hl];exact hw,?_⟩
 rw[nj,hl,nj]at R2;exact q _ _ _ _ (.refl _) R2 rw'
def vd(i:Nat) (m:ME):MS:=fun S=>(m S).map fun x=>.nx (x.2.set i (some (.sh x.1)))
theorem Jl{i:Nat}{te:TE}{m:ME}(h:SM K te m):SS K (AN te (eZ i)) (vd i m):=by
 intro H₀ Hf₀ Hf S σ H Fs o R e D hd;obtain⟨x,e1,e⟩:=oMq.mp e;cases e;refine h R (d:=x.1) (S':=x.2) e1 _ fun Hf1 H1 Fs1 v t1 R1 r1=>?_
 exact hd _ _ _ _ t1 (R1.setD i r1)
def Ek(i:Nat) (m:ME):MS:=fun S=>(cu S i).bind fun _=>(m S).bind fun x=>(cu x.2 i).bind fun avs=>jj (avs.length<cZ) (some (.nx (x.2.set i (some (.ow (avs++[.sh x.1]))))))
theorem IR{i:Nat}{te:TE}{m:ME}(hk:SM K te m):SS K (qS (He K "list" mj (kQ i) (iF te mG))) (Ek i m):=by
 intro H₀ Hf₀ Hf S σ H Fs o R e D h;obtain⟨a0,e0,e⟩:=oBq.mp e;obtain⟨x,e1,e⟩:=oBq.mp e;obtain⟨avs,e2,e⟩:=oBq.mp e;rcases bu e with ⟨hl,e⟩|e
 .cases e;obtain⟨p,vs,Gs,s1,_,h1,_⟩:=R.ow (bx e0);refine⟨.ref p,s1,.inl ⟨rfl,vs,dZ.of h1⟩,hk R (d:=x.1) (S':=x.2) e1 _ fun Hf1 H1 Fs1 v t1 R1 r1=>?_⟩
  obtain⟨p',vs',Gs',s1',s2',h1',h2',h3',h4',h5',h6'⟩:=R1.ow (bx e2);rw[s1]at s1';cases s1';refine⟨p,vs',v,rfl,rfl,h1',by rw[iK,←h3'.1];exact hl,h _ _ _ _ t1 (R1.turn s1 s2' (by simp) (F':=p::(Gs'++[[]]).flatten) (bg.news aU h2' ((h3'.keepUpd h4').snoc (.sh r1))) ?_ fun q hq=>?_)⟩
  .rw [fAq,Sf,aNq];exact Rp.mpr ⟨h4',h5'⟩
  .rw [fAq,Sf,aNq]at hq;exact h6' q hq
 .cases e
def LN(i:Nat) (b:ME) (m:ME):MS:=fun S=>(m S).bind fun x=>(ja x.2 i).bind fun _=>(b x.2).bind fun y=>(ja y.2 i).bind fun kvs=>(gH y.1).bind fun key =>
 jj (kvs.length<cZ) (some (.nx (y.2.set i (some (.owd (jL kvs key x.1))))))
end
theorem KB(d:D):J3 (.sh d)=some d:=rfl
theorem E9(S:AS) (i:Nat) (b:ME):gM i b S=(cu S i).bind fun _=>(b S).bind fun y=>(intOf y.1).bind fun z=>(cu y.2 i).bind fun avs=>jj (0<=z/\z<avs.length/\avs.length<=cZ) ((avs[z.toNat]?.bind J3).map fun d=>(d,y.2.set i (some (.ow (avs.eraseIdx z.toNat))))):=rfl
theorem Kj(S:AS) (i:Nat):rW i S=(cu S i).bind fun avs=>(avs[avs.length-1]?.bind J3).map fun d=>(d,S.set i (some (.ow avs.dropLast))):=rfl
theorem Lj(S:AS) (i:Nat) (m:ME):vd i m S=(m S).map fun x=>.nx (x.2.set i (some (.sh x.1))):=rfl
theorem Ly(S:AS) (i:Nat) (m:ME):Ek i m S=(cu S i).bind fun _=>(m S).bind fun x=>(cu x.2 i).bind fun avs=>jj (avs.length<cZ) (some (.nx (x.2.set i (some (.ow (avs++[.sh x.1])))))):=rfl
def Rb:=Rj @KB (Rj @E9 (Rj @Kj (Rj @Lj @Ly)))
def MN(x y:D):Option D:=match x with
 | .tup _=>LW x y
 |_=>zB x y
def JX:MF:=fun _=>none
def Ra:D->String->Option D
 | .int _,T=>if T = "list" ∨ T = "tuple" ∨ T = "str" then some (.bl false) else none
 | .str _,T=>if T = "list" ∨ T = "tuple" then some (.bl false) else none
 | .non,T=>if T = "list" ∨ T = "tuple" then some (.bl false) else none
 | .list _,T=>if T = "tuple" then some (.bl false) else none
 | .tup _,T=>if T = "list" then some (.bl false) else none
 |_,_=>none
def P7:List D->Option D
 | [x,.ty T]=>Ra x T
 |_=>none
def uK(ds:List D):Option D:=match nO ds with
 |some d=>some d
 |none=>P7 ds
section
variable {K:W.Frag}{H₀ Hf₀ Hf H:Hp}{S:AS}{σ:St}{Fs:List (List Addr)}{te tb:TE}{k:MK}{b:ME}
theorem bA.poke(R:bA K H₀ Hf₀ Hf S σ H Fs) {p:Addr}{o:HO}(pn:Hf p=none) (p0:H₀ p=none) (pf:p∉Fs.flatten):bA K H₀ Hf₀ Hf S σ (cI H p o) Fs:=by
 refine⟨R.len,R.lenF,fun j a ej=>?_,R.emp,R.nd,R.fresh,fun b u e=>?_,fun b u e=>?_,R.lim,R.sf⟩
 .obtain ⟨w,G,f1,f2,q⟩:=R.rep j a ej;refine⟨w,G,f1,f2,q.keep (.refl _) (fun c hc=>aL fun e=>pf ?_) fun c hc=>(q.owned c hc).2⟩
  subst e;exact bH f2 hc
 .rw [aL fun z=>by rw[z,pn]at e;cases e]
  exact R.sub b u e
 .rw [aL fun z=>by rw[z,p0]at e;cases e]
  exact R.fr b u e
theorem mq.stays{Hf' H':Hp}{Fs':List (List Addr)}(t:mq Hf H Fs Hf' H' Fs') {p:Addr}(pn:Hf p=none) (ph:H p≠none) (pf:p∉Fs.flatten):Hf' p=none/\p∉Fs'.flatten:=by
 refine⟨?_,fun m=>pf (t.own p m)⟩
 by_cases h:Hf' p=none
 .exact h
 .exact ((t.gr p pn h).elim (fun e=>absurd e ph) fun m=>absurd m pf)
def AM(b:ME) (k:MK):MK:=fun S=>(b S).bind fun y=>(gO k y.2).bind fun x=>(gH y.1).map fun key=>(.owd [(key,aA x.1)],x.2)
theorem Er(hb:SR K tb b) (hk:SK K te k):SK K (JU [(tb,te)]) (AM b k):=by
 intro H₀ Hf₀ Hf S σ H Fs av S' R e Q q;obtain⟨y,e1,e⟩:=oBq.mp e;obtain⟨x,e2,e⟩:=oBq.mp e;obtain⟨key,e3,e⟩:=oMq.mp e;cases e;have hk':SK K te (gO k):=SK.frz hk;intro p hp;obtain⟨t0,R0,n1,n2,n3⟩:=R.new (o:=.dK []) hp;have own0:=kR.one R hp;refine hb R0 (d:=y.1) (S':=y.2) e1 _ fun Hf1 H1 Fs1 w t1 R1 r1=>?_
 have p0:cI H p (HO.dK []) p=some (.dK []):=aU;have p1:H1 p=some (.dK []):=t1.sh p _ p0;obtain⟨a1,a2⟩:=t1.stays n1 (by rw[p0];simp) n3
 refine hk' R1 (a:=x.1) (S':=x.2) e2 _ fun Hf2 H2 Fs2 v F t2 R2 r2 o2=>?_
 have p2:H2 p=some (.dK []):=t2.sh p _ p1;obtain⟨b1,b2⟩:=t2.stays a1 (by rw[p1];simp) a2
 obtain⟨x1,hx1⟩:∃d,x.1 = .sh d:=by
  obtain⟨w,_,e⟩:=oMq.mp e2;rw[←e];exact⟨_,rfl⟩
 rw[hx1]at r2;have rv:=r2.sh_inv.2;have hw:=jB e3 r1;subst hw;refine⟨p2,[(key,v)],rfl,by simp,?_⟩
 have t12:=(t0.trans t1).trans t2;have hs:bD H (cI H2 p (HO.dK (qj [] [(key,v)]))):=fun c u e=>by
  rw[aL fun z=>by rw[z,hp]at e;cases e]
  exact t12.sh c u e
 refine q Hf2 _ Fs2 (.ref p) [p] ⟨t12.sf,hs,t12.own,t12.gr⟩ (R2.poke b1 n2 b2) (.owd aU b1 ⟨rfl,fun i d u h1 h2=>?_⟩) ⟨by simp,fun c h=>by rw[mSq.mp h];exact n2,fun c h=>by rw[mSq.mp h];exact b2,fun c h=>by rw[mSq.mp h];exact .inl hp⟩
 match i,h1,h2 with
 |0,h1,h2 =>
  cases h1;cases h2;rw[hx1,gu];exact rv
 |i+1,h1,_=>simp at h1
theorem wz{i:Nat}:SM K (Oc K "list" K0 (kQ i)) (rW i):=KD
def lQ:List (aN×D)->Option (List Int)
 | []=>some []
 | (.inl i,_)::r=>(lQ r).map (i :: ·)
 |_=>none
theorem ym:∀{kvs:List (aN×D)}{ns:List Int},lQ kvs=some ns->kvs.map (·.1)=ns.map RF
 | [],ns,h=>by cases h;rfl
 | (.inl i,d)::r,ns,h=>by
  obtain⟨ms,h1,h2⟩:=oMq.mp (show (lQ r).map (i :: ·)=some ns from h)
  subst h2;rw[Ru,Ru,ym h1]
 | (.inr _,_)::_,_,h=>by cases h
def qo(a:ME):MK:=fun S=>(a S).bind fun x=>match x.1 with
 | .dict kvs=>(lQ kvs).map fun ns=>(.ow ((bV ns).map fun n=>.sh (.int n)),x.2)
 |_=>none
theorem xR(hb:SR K te b):SK K (Jj (fun xs H Q=>∃(a:Addr) (kvs:List (aN×V)) (ns:List Int),xs=[.ref a]/\H a=some (.dK kvs)/\kvs.map (·.1)=ns.map RF/\∀p,H p=none->Q (.ref p) (cI H p (.lst ((bV ns).map V.int)))) (iF te mG)) (qo b):=by
 intro H₀ Hf₀ Hf S σ H Fs av S' R e Q q;obtain⟨x,e1,e⟩:=oBq.mp e;obtain⟨x1,x2⟩:=x;cases x1 with
 |dict kvs =>
  obtain⟨ns,e2,e⟩:=oMq.mp (show (lQ kvs).map (fun ns=>(AV.ow ((bV ns).map fun n=>.sh (.int n)),x2))=some (av,S') from e)
  cases e;refine hb R (d:=.dict kvs) (S':=S') e1 _ fun Hf1 H1 Fs1 w t1 R1 r1=>?_
  obtain⟨p1,vs,rfl,h1,h2⟩:=r1.dict_inv;refine⟨p1,vs,ns,rfl,h1,by rw[←h2.1];exact ym e2,fun p hp=>?_⟩
  obtain⟨t4,R4,n1,n2,n3⟩:=R1.new (o:=.lst ((bV ns).map V.int)) hp;rw[lj]at q;exact q _ _ _ (.ref p) [p] (t1.trans t4) R4 (bg.new aU n1 (fZ _)) ((kR.one R1 hp).back t1)
 |_=>cases e
end
theorem Iy(S:AS) (b:ME) (k:MK):AM b k S=(b S).bind fun y=>(gO k y.2).bind fun x=>(gH y.1).map fun key=>(.owd [(key,aA x.1)],x.2):=rfl
def Kg:D->AS->Option (AV×AS)
 | .dict kvs,S=>(lQ kvs).map fun ns=>(.ow ((bV ns).map fun n=>.sh (.int n)),S)
 |_,_=>none
theorem IK(S:AS) (a:ME):qo a S=(a S).bind fun x=>Kg x.1 x.2:=by
 unfold qo;congr 1;funext x;obtain⟨x1,x2⟩:=x;cases x1 <;> rfl
theorem Ky(kvs:List (aN×D)) (S:AS):Kg (.dict kvs) S=(lQ kvs).map fun ns=>(.ow ((bV ns).map fun n=>.sh (.int n)),S):=rfl
theorem pR{α:Type}(f:α->Int) (g:α->D):∀l:List α,lQ (l.map fun x=>(RF (f x),g x))=some (l.map f)
 | []=>rfl
 |x::l=>by
  show (lQ (l.map fun x=>(RF (f x),g x))).map (f x :: ·)=_
  rw[pR f g l];rfl
def Q9:=Rj @Iy (Rj @IK @Ky)
def El:D->Option V
 | .non=>some .non
 | .bl b=>some (.bl b)
 | .int i=>some (.int i)
 | .str s=>some (.str s)
 |_=>none
def pU:List D->Option (List V)
 | []=>some []
 |d::ds=>(El d).bind fun v=>(pU ds).map (v :: ·)
def KQ:D->Option (List D)
 | .list ds=>some ds
 | .tup ds=>some ds
 |_=>none
def uL(neg:Bool) (x y:D):Option D:=(El x).bind fun v=>(KQ y).bind fun ds=>(pU ds).map fun vs=>.bl (if neg then !Mw v vs else Mw v vs)
section
variable {K:W.Frag}{te:TE}
theorem vA{H:Hp}{d:D}{v w:V}(e:El d=some v) (r:dk K H d w):w=v/\mQ v=true:=by
 cases d <;> first|(cases e;cases r;exact⟨rfl,rfl⟩)|cases e
theorem lJ{H:Hp}:∀{ds:List D}{vs ws:List V},pU ds=some vs->bN K H ds ws->ws=vs/\vs.all mQ=true
 | [],vs,ws,e,r=>by
  cases e;exact⟨r.nil_inv,rfl⟩
 |d::ds,vs,ws,e,r=>by
  obtain⟨v,e1,e⟩:=oBq.mp e;obtain⟨us,e2,rfl⟩:=oMq.mp e;obtain⟨w,ws',rfl,r1,r2⟩:=r.cons_inv;obtain⟨rfl,f1⟩:=vA e1 r1;obtain⟨rfl,f2⟩:=lJ e2 r2;exact⟨rfl,by rw[VS,f1,f2];rfl⟩
theorem Aq(neg:Bool):xk K (PN K neg) (uL neg):=by
 intro x y H Q dx dy d rx ry e q;obtain⟨v,e1,e⟩:=oBq.mp e;obtain⟨ds,e2,e⟩:=oBq.mp e;obtain⟨vs,e3,e⟩:=oMq.mp e;subst e;obtain⟨rfl,f1⟩:=vA e1 rx;cases dy with
 |list xs =>
  cases e2;obtain⟨p,us,rfl,h1,h2⟩:=ry.list_inv;obtain⟨rfl,f2⟩:=lJ e3 h2;exact⟨p,us,rfl,.inl (dZ.of h1),f1,f2,q _ .bl⟩
 |tup xs =>
  cases e2;obtain⟨p,us,rfl,h1,h2⟩:=ry.tup_inv;obtain⟨rfl,f2⟩:=lJ e3 h2;exact⟨p,us,rfl,.inr (zz.of h1),f1,f2,q _ .bl⟩
 |_=>cases e2
end
theorem ye(ns:List Int):pU (ns.map D.int)=some (ns.map V.int):=by
 induction ns with
 |nil=>rfl
 |cons n ns ih=>rw[Ru,pU,ih];rfl
theorem EK(i:Int) (ns:List Int):Mw (.int i) (ns.map V.int)=decide (i∈ns):=by
 unfold Mw
 induction ns with
 |nil=>rfl
 |cons n ns ih =>
  rw[Ru,TX,ih];show (n == i || decide (i∈ns))=_
  by_cases h:i=n
  .subst h;simp
  .have h':¬ n=i:=fun z=>h z.symm
   simp[h,h']
theorem zX(neg:Bool) (i:Int) (ns:List Int):uL neg (.int i) (.list (ns.map D.int))=some (.bl (if neg then !decide (i∈ns) else decide (i∈ns))):=by
 show (pU (ns.map D.int)).map _=_;rw[ye,Td,EK]
section
variable {K:W.Frag}{H₀ Hf₀ Hf Hf' H H':Hp}{S S':AS}{σ σ':St}{Fs Fs':List (List Addr)}
theorem wu.same(s:bD H H'):∀{path:List Nat}{v w:V},wu H v path w->wu H' v path w
 | [],v,w,h=>h
 |j::js,v,w,⟨p,vs,u,h1,h2,h3,h4⟩=>⟨p,vs,u,h1,s _ _ h2,h3,wu.same s h4⟩
theorem wu.one:∀{path:List Nat}{v w w':V},wu H v path w->wu H v path w'->w=w'
 | [],v,w,w',h,h'=>h.symm.trans h'
 |j::js,v,w,w',hz,hy=>by
  obtain⟨p,vs,u,h1,h2,h3,h4⟩:=hz;obtain⟨p',vs',u',g1,g2,g3,g4⟩:=hy;rw[h1]at g1;cases g1;rw[h2]at g2;cases g2;rw[h3]at g3;cases g3;exact h4.one g4
theorem wu.snoc:∀{path:List Nat}{v:V}{p:Addr}{vs:List V}{n:Nat}{u:V},wu H v path (.ref p)->H p=some (.lst vs)->vs[n]?=some u->wu H v (path++[n]) u
 | [],v,p,vs,n,u,h,h1,h2=>⟨p,vs,u,h,h1,h2,rfl⟩
 |j::js,v,p,vs,n,u,⟨p',vs',u',g1,g2,g3,g4⟩,h1,h2=>⟨p',vs',u',g1,g2,g3,g4.snoc h1 h2⟩
theorem wu.kept:∀{path:List Nat}{av:AV}{v w:V}{F:List Addr}{as:List AV},bg K Hf H av v F->bL av path=some as->wu H v path w->(∀q∈F,H' q=H q)->wu H' v path w
 | [],av,v,w,F,as,_,_,h,_=>h
 |j::js,av,v,w,F,as,r,e,hz,hk=>by
  obtain⟨p,vs,u,h1,h2,h3,h4⟩:=hz;cases av with
  |ow avs =>
   obtain⟨p',vs',Gs,e1,e2,e3,e4,e5⟩:=r.ow_inv;rw[h1]at e1;cases e1;rw[h2]at e3;cases e3;obtain⟨a,ea,e⟩:=oBq.mp (show (avs[j]?).bind (fun a=>bL a js)=some as from e)
   have hj:j<avs.length:=(gSq.mp ea).1;have hG:=gEg (e5.2.1 ▸ hj);have rj:=e5.2.2 j a u _ ea h3 hG;refine⟨p,vs,u,h1,by rw[hk p (by rw[e2];simp)];exact h2,h3,h4.kept rj e fun q hq=>hk q ?_⟩
   rw[e2];exact mCo _ (bH hG hq)
  |_=>cases e
def OW(H₀ H:Hp) (F:List Addr):Hp:=fun b=>if b∈F then H b else H₀ b
theorem xh{F:List Addr}{b:Addr}(h:b∈F):OW H₀ H F b=H b:=if_pos h
theorem mw{F:List Addr}{b:Addr}(h:b∉F):OW H₀ H F b=H₀ b:=if_neg h
theorem bA.frame(R:bA K H₀ Hf₀ Hf S σ H Fs) {i:Nat}{F:List Addr}(s2:Fs[i]?=some F):bA K (OW H₀ H F) Hf₀ Hf (S.set i none) σ H (Fs.set i []):=by
 have R1:=R.kill i;have hF:∀q∈F,q∈Fs.flatten:=fun q hq=>bH s2 hq
 refine⟨R1.len,R1.lenF,R1.rep,R1.emp,R1.nd,fun p hp=>?_,R1.sub,fun b u e=>?_,fun b h1 h2=>?_,R1.sf⟩
 .have hn:p∉F:=fun z=>fG R.nd s2 z hp
  rw[mw hn];exact R1.fresh p hp
 .by_cases hb:b∈F
  .rw [xh hb]at e;exact e
  .rw [mw hb]at e;exact R.fr b u e
 .by_cases hb:b∈F
  .exact (R.mem (hF b hb)).2
  .rw [mw hb]at h2;exact R.lim b h1 h2
theorem sC{α:Type}{l:List α}{i:Nat}{a:α}(h:l[i]?=some a):l.set i a=l:=by
 obtain⟨hk,ev⟩:=gSq.mp h;rw[←ev];exact UR hk
theorem bA.unframe(R:bA K H₀ Hf₀ Hf S σ H Fs) {i:Nat}{av:AV}{v:V}{F:List Addr}(s2:Fs[i]?=some F) (r:bg K Hf H av v F) (nd:F.Nodup) (h0:∀q∈F,H₀ q=none)
  (R':bA K (OW H₀ H F) Hf₀ Hf' S' σ' H' Fs') (e':S'[i]?=some none) (s1:σ'[i]?=some (some v)) (sf:bD Hf Hf') :
  (∀q∈F,H' q=H q)/\bg K Hf' H' av v F/\bA K H₀ Hf₀ Hf' (S'.set i (some av)) σ' H' (Fs'.set i F):=by
 have hk:∀q∈F,H' q=H q:=fun q hq=>by
  have hn:=(R.mem (bH s2 hq)).1;cases hu:H q with
  |none=>exact absurd hu hn
  |some u=>exact R'.fr q u (by rw[xh hq];exact hu)
 have hf:∀q∈F,Hf' q=none:=fun q hq=>by
  have hm:=R.mem (bH s2 hq);refine R'.lim q ?_ (by rw[xh hq];exact hm.1)
  cases hz:Hf₀ q with
  |none=>rfl
  |some u=>rw[R.sf q u hz]at hm;exact absurd hm.2 (by simp)
 have r':=r.keep sf hk hf;refine⟨hk,r',?_⟩;have R1:bA K H₀ Hf₀ Hf' (S'.set i none) σ' H' (Fs'.set i []):=by
  rw[sC e',sC (R'.emp i e')];refine⟨R'.len,R'.lenF,R'.rep,R'.emp,R'.nd,fun p hp=>?_,R'.sub,fun b u e=>?_,fun b h1 h2=>?_,R'.sf⟩
  .have:=R'.fresh p hp
   by_cases hb:p∈F
   .exact h0 p hb
   .rwa [mw hb]at this
  .refine R'.fr b u ?_;rw[mw fun z=>by rw[h0 b z]at e;cases e]
   exact e
  .refine R'.lim b h1 ?_;rw[mw fun z=>h2 (h0 b z)]
   exact h2
 refine R1.again (F:=F) s1 r' nd fun q hq=>⟨h0 q hq,fun m=>?_⟩
 rw[sC (R'.emp i e')]at m;have:=R'.fresh q m;rw[xh hq]at this;exact(R.mem (bH s2 hq)).1 this
end
abbrev MP:=AS->Option (List Nat×AS)
def G6(i:Nat):MP:=fun S=>(cu S i).map fun _=>([],S)
def N2(i:Nat) (pf:MP) (b:ME):MP:=fun S=>(pf S).bind fun x=>(b x.2).bind fun y=>(intOf y.1).bind fun j=>(cu y.2 i).bind fun avs=>(bL (.ow avs) x.1).bind fun as=>(xo as.length j).map fun n=>(x.1++[n],y.2)
def Og(K:W.Frag) (i:Nat) (te:TE) (pf:MP):Prop:=∀{H₀ Hf₀ Hf:Hp}{S:AS}{σ:St}{H:Hp}{Fs:List (List Addr)}{path:List Nat}{S':AS},bA K H₀ Hf₀ Hf S σ H Fs->pf S=some (path,S')->∀Q:VK,
 (∀Hf' H' Fs' v w,mq Hf H Fs Hf' H' Fs'->bA K H₀ Hf₀ Hf' S' σ H' Fs'->σ[i]?=some (some v)->wu H' v path w->Q w H')->te σ H Q
section
variable {K:W.Frag}
theorem Br(i:Nat):Og K i (kQ i) (G6 i):=by
 intro H₀ Hf₀ Hf S σ H Fs path S' R e Q q;obtain⟨avs,e1,e⟩:=oMq.mp e;cases e;obtain⟨p,vs,Gs,s1,_⟩:=R.ow (bx e1);exact⟨_,s1,q _ _ _ _ _ .refl R s1 rfl⟩
theorem nV{H₀ Hf₀ Hf H:Hp}{S:AS}{σ:St}{Fs:List (List Addr)}{i:Nat}{avs as:List AV}{path:List Nat}{v w:V}(R:bA K H₀ Hf₀ Hf S σ H Fs) (e:S[i]?=some (some (.ow avs))) (s1:σ[i]?=some (some v)) (en:bL (.ow avs) path=some as) (h:wu H v path w) :
  ∃p vs,w = .ref p/\H p=some (.lst vs)/\vs.length=as.length:=by
 obtain⟨v',F,t1,t2,r,nd,_⟩:=R.move e;rw[s1]at t1;cases t1;obtain⟨p,vs,Gs,g1,g2,g3,g4,_⟩:=r.path nd en;exact⟨p,vs,h.one g1,g2,g4.1.symm⟩
theorem FG{i:Nat}{te tb:TE}{pf:MP}{b:ME}(hp:Og K i te pf) (hb:SR K tb b):Og K i (IJ (IU K) te tb) (N2 i pf b):=by
 intro H₀ Hf₀ Hf S σ H Fs path S' R e Q q;obtain⟨x,e1,e⟩:=oBq.mp e;obtain⟨y,e2,e⟩:=oBq.mp e;obtain⟨j,e3,e⟩:=oBq.mp e;obtain⟨avs,e4,e⟩:=oBq.mp e;obtain⟨as,e5,e⟩:=oBq.mp e;obtain⟨n,e6,e⟩:=oMq.mp e;cases e;refine hp R (path:=x.1) (S':=x.2) e1 _ fun Hf1 H1 Fs1 v w t1 R1 s1 a1=>hb R1 (d:=y.1) (S':=y.2) e2 _ fun Hf2 H2 Fs2 u t2 R2 r2=>?_
 have hy:y.1 = .int j:=by
  cases hx:y.1 <;> rw[hx]at e3 <;> first|(cases e3;rfl)|cases e3
 rw[hy]at r2;cases r2;have a2:=a1.same t2.sh;obtain⟨p,vs,rfl,h1,h2⟩:=nV R2 (bx e4) s1 e5 a2;have hix:=e6;obtain⟨_,hn,_⟩:=B8 e6;have hn':n<vs.length:=by rw[h2];exact hn
 obtain⟨u,hv⟩:∃u,vs[n]?=some u:=⟨_,gEg hn'⟩;refine⟨p,vs,j,u,rfl,rfl,dZ.of h1,?_,q _ _ _ v _ (t1.trans t2) R2 s1 (a2.snoc h1 hv)⟩;unfold atI;rw[h2,e6];exact hv
end
section
variable {K:W.Frag}
theorem bA.grow{H₀ Hf₀ Hf H:Hp}{S:AS}{σ:St}{Fs:List (List Addr)}{i:Nat}{avs as:List AV}{path:List Nat}{v:V}{p:Addr}(R:bA K H₀ Hf₀ Hf S σ H Fs) (e:S[i]?=some (some (.ow avs))) (s1:σ[i]?=some (some v)) (en:bL (.ow avs) path=some as) (h:wu H v path (.ref p)) :
  ∃vs,H p=some (.lst vs)/\as.length=vs.length/\∀(bs:List AV) (ws:List V) (Gs:List (List Addr)),bf K Hf H bs ws Gs->Gs.flatten.Nodup->(∀q∈Gs.flatten,H₀ q=none/\q∉Fs.flatten) ->
   ∃Fs',bA K H₀ Hf₀ Hf (S.set i (some (putAt (.ow avs) path (as++bs)))) σ (cI H p (.lst (vs++ws))) Fs':=by
 obtain⟨v',F,t1,t2,r,nd,oo,_⟩:=R.move e;rw[s1]at t1;cases t1;obtain⟨p',vs,Es,g1,g2,g3,g4,g5,g6,g6',g7,g8⟩:=r.path nd en;have hpp:V.ref p=V.ref p':=h.one g1;cases hpp;refine⟨vs,g2,g4.1,fun bs ws Gs rb nG oG=>?_⟩
 have pG:p∉Gs.flatten:=fun m=>(oG p m).2 (bH t2 g5)
 have hfl:(Es++Gs).flatten=Es.flatten++Gs.flatten:=fAq;obtain⟨F',k1,k2,k3⟩:=g8 (as++bs) (vs++ws) (Es++Gs) ((g4.keepUpd g6).append (rb.keepUpd pG)) (by
  rw[hfl];refine Rp.mpr ⟨fun m=>(mAq.mp m).elim g6 pG,nAq.mpr ⟨g6',nG,fun a ha b hb z=>(oG b hb).2 (bH t2 (g7 b (z ▸ ha)))⟩⟩) (fun q hq=>by
  rw[hfl]at hq;exact(mAq.mp hq).imp id fun m z=>(oG q m).2 (bH t2 z))
 refine⟨_,R.turnAny s1 t2 g5 k1 k2 fun q hq=>?_⟩
 rcases k3 q hq with z|z
 .exact oo q z
 .rw [hfl]at z;rcases mAq.mp z with z|z
  .exact oo q (g7 q z)
  .exact ⟨(oG q z).1,fun m=>(oG q z).2 (cj m)⟩
def Qz(i:Nat) (pf:MP) (k:MK):MS:=fun S=>(pf S).bind fun x=>(cu x.2 i).bind fun a0=>(bL (.ow a0) x.1).bind fun _=>(k x.2).bind fun y=>(cu y.2 i).bind fun avs=>(bL (.ow avs) x.1).bind fun as=>jj (as.length<cZ) (some (.nx (y.2.set i (some (putAt (.ow avs) x.1 (as++[y.1]))))))
def Qm(i:Nat) (pf:MP) (l:ML):MS:=fun S=>(pf S).bind fun x=>(cu x.2 i).bind fun a0=>(bL (.ow a0) x.1).bind fun _=>(l x.2).bind fun y=>(cu y.2 i).bind fun avs=>(bL (.ow avs) x.1).bind fun as=>jj (as.length+y.1.length<=cZ) (some (.nx (y.2.set i (some (putAt (.ow avs) x.1 (as++y.1.map .sh))))))
def QE(x i:Nat) (path:List Nat) (S:AS) (σ:St) (H:Hp):Prop:=∃v p avs as,S[i]?=some (some (.ow avs))/\bL (.ow avs) path=some as/\σ[x]?=some (some (.ref p))/\σ[i]?=some (some v)/\wu H v path (.ref p)
def EB(K:W.Frag) (x i:Nat) (t:TS) (m:List Nat->MS):Prop:=∀{path:List Nat}{H₀ Hf₀ Hf:Hp}{S:AS}{σ:St}{H:Hp}{Fs:List (List Addr)}{o:BX},bA K H₀ Hf₀ Hf S σ H Fs->QE x i path S σ H->m path S=some o->∀D:mV,uX K H₀ Hf₀ Hf D o->t D σ H
def Ip(x i:Nat) (pf:MP) (m:List Nat->MS):MS:=fun S=>(pf S).bind fun y=>(cu y.2 i).bind fun avs=>(bL (.ow avs) y.1).bind fun _=>jj (x≠i/\x<y.2.length) (m y.1 (y.2.set x none))
theorem Ld{x i:Nat}{te:TE}{pf:MP}{t:TS}{m:List Nat->MS}(hp:Og K i te pf) (hm:EB K x i t m):SS K (FB (AN te (eZ x)) t) (Ip x i pf m):=by
 intro H₀ Hf₀ Hf S σ H Fs o R e D h;obtain⟨y,e1,e⟩:=oBq.mp e;obtain⟨avs,e2,e⟩:=oBq.mp e;obtain⟨as,e3,e⟩:=oBq.mp e;rcases bu e with ⟨⟨hne,hlt⟩,e⟩|e
 .refine hp R (path:=y.1) (S':=y.2) e1 _ fun Hf1 H1 Fs1 v w t1 R1 s1 a1=>?_
  obtain⟨p,vs,rfl,h1,h2⟩:=nV R1 (bx e2) s1 e3 a1;have R2:=(R1.kill x).any (V.ref p);refine hm R2 ⟨v,p,avs,as,?_,e3,?_,?_,a1⟩ e D (h.mono t1.sf)
  .rw [Ry hne];exact bx e2
  .exact Rz (by rw[←R1.len];exact hlt)
  .rw [Ry hne];exact s1
 .cases e
theorem Kc{x i:Nat}{t:TS}{m:MS}(h:SS K t m):EB K x i t (fun _=>m):=fun R _ e D o=>h R e D o
theorem L9{x i:Nat}{t u:TS}{a:List Nat->MS}{b:MS}(ha:EB K x i t a) (hb:SS K u b):EB K x i (FB t u) (fun path=>ao (a path) b):=by
 intro path H₀ Hf₀ Hf S σ H Fs o R A e D h;obtain⟨y,e1,e⟩:=oBq.mp e;refine ha R A e1 _ ?_;cases y with
 |nx S'=>exact fun Hf' σ' H' Fs' s R'=>hb R' e D (h.mono s)
 |rt a=>cases e;exact h
 |bk a=>cases e;exact h
 |ct a=>cases e;exact h
def xr(i:Nat) (c:MT) (a b:List Nat->MS):List Nat->MS:=fun path S=>(c S).bind fun y=>(cu y.2 i).bind fun avs=>(bL (.ow avs) path).bind fun _=>if y.1=true then a path y.2 else b path y.2
theorem FY{x i:Nat}{c:TT}{m:MT}{t u:TS}{a b:List Nat->MS}(hc:Ak K c m) (ha:EB K x i t a) (hb:EB K x i u b):EB K x i (HG c t u) (xr i m a b):=by
 intro path H₀ Hf₀ Hf S σ H Fs o R A e D h;obtain⟨y,e1,e⟩:=oBq.mp e;obtain⟨avs,e2,e⟩:=oBq.mp e;obtain⟨as,e3,e⟩:=oBq.mp e;obtain⟨v,p,_,_,_,_,s2,s1,at0⟩:=A;refine hc R (b:=y.1) (S':=y.2) e1 _ fun Hf1 H1 Fs1 t1 R1=>?_
 have A1:QE x i path y.2 σ H1:=⟨v,p,avs,as,bx e2,e3,s2,s1,at0.same t1.sh⟩;split at e
 .rename_i hx;rw[hx];exact Ah (ha R1 A1 e D (h.mono t1.sf))
 .rename_i hx;rw[Ub]at hx;rw[hx];exact zh (hb R1 A1 e D (h.mono t1.sf))
def B1(i:Nat) (k:MK):List Nat->MS:=fun path S=>(k S).bind fun y=>(cu y.2 i).bind fun avs=>(bL (.ow avs) path).bind fun as=>jj (as.length<cZ) (some (.nx (y.2.set i (some (putAt (.ow avs) path (as++[y.1]))))))
theorem LH{x i:Nat}{te:TE}{k:MK}(hk:SK K te k):EB K x i (qS (He K "list" mj (kQ x) (iF te mG))) (B1 i k):=by
 intro path H₀ Hf₀ Hf S σ H Fs o R A e D h;obtain⟨y,e4,e⟩:=oBq.mp e;obtain⟨avs,e5,e⟩:=oBq.mp e;obtain⟨as,e6,e⟩:=oBq.mp e;rcases bu e with ⟨hl,e⟩|e
 .cases e;obtain⟨v,p,a0,n0,e2,e3,s2,s1,at0⟩:=A;obtain⟨p',vs,hp,h1,h2⟩:=nV R e2 s1 e3 at0;cases hp;refine⟨.ref p,s2,.inl ⟨rfl,vs,dZ.of h1⟩,hk R (a:=y.1) (S':=y.2) e4 _ fun Hf2 H2 Fs2 u F t2 R2 r2 o2=>?_⟩
  obtain⟨vs',g1,g2,g3⟩:=R2.grow (bx e5) s1 e6 (at0.same t2.sh);obtain⟨Fs',R3⟩:=g3 [y.1] [u] [F] (bf.nil.snoc r2) (by rw[Sf];exact o2.nd) (fun q hq=>by rw[Sf]at hq;exact⟨o2.fr q hq,o2.out q hq⟩)
  exact⟨p,vs',u,rfl,rfl,g1,by rw[iK,←g2];exact hl,h _ _ _ _ t2.sf R3⟩
 .cases e
def QB(i:Nat) (l:ML):List Nat->MS:=fun path S=>(l S).bind fun y=>(cu y.2 i).bind fun avs=>(bL (.ow avs) path).bind fun as=>jj (as.length+y.1.length<=cZ) (some (.nx (y.2.set i (some (putAt (.ow avs) path (as++y.1.map .sh))))))
def vK(i:Nat) (mm:ME):List Nat->MS:=fun path S=>(cu S i).bind fun avs=>(bL (.ow avs) path).bind fun as=>(mm (S.set i none)).bind fun y=>jj (y.2[i]?=some none/\as.length<cZ) (some (.nx (y.2.set i (some (putAt (.ow avs) path (as++[.sh y.1]))))))
theorem HX{x i:Nat}{te:TE}{mm:ME}(hk:SM K te mm):EB K x i (qS (He K "list" mj (kQ x) (iF te mG))) (vK i mm):=by
 intro path H₀ Hf₀ Hf S σ H Fs o R A e D h;obtain⟨avs,e2,e⟩:=oBq.mp e;obtain⟨as,e3,e⟩:=oBq.mp e;obtain⟨y,e4,e⟩:=oBq.mp e;rcases bu e with ⟨⟨hn,hl⟩,e⟩|e
 .cases e;obtain⟨v,p,a0,n0,_,_,s2,s1,at0⟩:=A;have e2':=bx e2;obtain⟨p',vs,hp,h1,h2⟩:=nV R e2' s1 e3 at0;cases hp;obtain⟨v',F,t1,t2,r,nd,oo,_⟩:=R.move e2';rw[s1]at t1;cases t1;refine⟨.ref p,s2,.inl ⟨rfl,vs,dZ.of h1⟩,hk (R.frame t2) (d:=y.1) (S':=y.2) e4 _ fun Hf2 H2 Fs2 u t3 R2 r2=>?_⟩
  obtain⟨k1,k2,R3⟩:=R.unframe t2 r nd (fun q hq=>(oo q hq).1) R2 hn s1 t3
  have hlt:i<y.2.length:=(gSq.mp hn).1;have e5:(y.2.set i (some (.ow avs)))[i]?=some (some (.ow avs)):=Rz hlt;obtain⟨vs',g1,g2,g3⟩:=R3.grow e5 s1 e3 (at0.kept r e3 k1);obtain⟨Fs',R4⟩:=g3 [.sh y.1] [u] [[]] (bf.nil.snoc (.sh r2)) (by simp) (fun q hq=>by simp at hq)
  rw[Uc]at R4;exact⟨p,vs',u,rfl,rfl,g1,by rw[iK,←g2];exact hl,h _ _ _ _ t3 R4⟩
 .cases e
def Ll(K:W.Frag) (J:List Nat) (t:TS) (m:MS):Prop:=∀{H₀ Hf₀ Hf:Hp}{S:AS}{σ:St}{H:Hp}{Fs:List (List Addr)}{S':AS},bA K H₀ Hf₀ Hf S σ H Fs->m S=some (.nx S')->∀D:mV,(∀Hf' σ' H' Fs',bD Hf Hf'->bA K H₀ Hf₀ Hf' S' σ' H' Fs'->(∀j∈J,σ'[j]?=σ[j]?)->D.nx σ' H')->t D σ H
theorem E2{J:List Nat}{t:TS}(h:∀D σ H,D.nx σ H->t D σ H):Ll K J t bh:=by
 intro H₀ Hf₀ Hf S σ H Fs S' R e D q;cases e;exact h _ _ _ (q _ _ _ _ (.refl _) R fun _ _=>rfl)
theorem BD{J:List Nat}{y:Nat}{te:TE}{k:MK}(hk:SK K te k) (hJ:y∉J):Ll K J (AN te (eZ y)) (aC y k):=by
 intro H₀ Hf₀ Hf S σ H Fs S' R e D q;obtain⟨x,e1,e⟩:=oMq.mp e;cases e;refine hk R (a:=x.1) (S':=x.2) e1 _ fun Hf1 H1 Fs1 v F t1 R1 r1 o1=>?_
 exact q _ _ _ _ t1.sf (R1.set y r1 o1.nd fun q hq=>⟨o1.fr q hq,o1.out q hq⟩) fun j hj=>Ry (show y≠j from fun z=>hJ (by rw[z];exact hj))
theorem FE{J:List Nat}{y:Nat}{te:TE}{m:ME}(hk:SM K te m) (hJ:y∉J):Ll K J (AN te (eZ y)) (vd y m):=by
 intro H₀ Hf₀ Hf S σ H Fs S' R e D q;obtain⟨x,e1,e⟩:=oMq.mp e;cases e;refine hk R (d:=x.1) (S':=x.2) e1 _ fun Hf1 H1 Fs1 v t1 R1 r1=>?_
 exact q _ _ _ _ t1 (R1.setD y r1) fun j hj=>Ry (show y≠j from fun z=>hJ (by rw[z];exact hj))
theorem LO{J:List Nat}{c:TT}{m:MT}{t u:TS}{a b:MS}(hc:Ak K c m) (ha:Ll K J t a) (hb:Ll K J u b):Ll K J (HG c t u) (jt m a b):=by
 intro H₀ Hf₀ Hf S σ H Fs S' R e D q;obtain⟨x,e1,e⟩:=oBq.mp e;refine hc R (b:=x.1) (S':=x.2) e1 _ fun Hf1 H1 Fs1 t1 R1=>?_
 split at e
 .rename_i hx;rw[hx];exact Ah (ha R1 e D fun Hf' σ' H' Fs' s R' j=>q _ _ _ _ (t1.sf.trans s) R' j)
 .rename_i hx;rw[Ub]at hx;rw[hx];exact zh (hb R1 e D fun Hf' σ' H' Fs' s R' j=>q _ _ _ _ (t1.sf.trans s) R' j)
def wB(i:Nat) (a:MS) (m:List Nat->MS):List Nat->MS:=fun path S=>(cu S i).bind fun avs=>(a (S.set i none)).bind fun o=>match o with
 | .nx S1=>jj (S1[i]?=some none) (m path (S1.set i (some (.ow avs))))
 |_=>none
theorem A0{x i:Nat}{t u:TS}{a:MS}{m:List Nat->MS}(ha:Ll K [x,i] t a) (hm:EB K x i u m):EB K x i (FB t u) (wB i a m):=by
 intro path H₀ Hf₀ Hf S σ H Fs o R A e D h;obtain⟨avs,e2,e⟩:=oBq.mp e;obtain⟨oo,e3,e⟩:=oBq.mp e;cases oo with
 |nx S1 =>
  rcases bu (show jj (S1[i]?=some none) (m path (S1.set i (some (.ow avs))))=some o from e) with ⟨hn,e⟩|e
  .obtain ⟨v,p,a0,n0,e2',e4,s2,s1,at0⟩:=A;have e5:=bx e2;rw[e5]at e2';cases e2';obtain⟨v',F,t1,t2,r,nd,ow,_⟩:=R.move e5;rw[s1]at t1;cases t1;refine ha (R.frame t2) e3 _ fun Hf' σ' H' Fs' s R' hJ=>?_
   have j1:σ'[x]?=σ[x]?:=hJ x (by simp)
   have j2:σ'[i]?=σ[i]?:=hJ i (by simp)
   obtain⟨k1,k2,R3⟩:=R.unframe t2 r nd (fun q hq=>(ow q hq).1) R' hn (j2.trans s1) s
   have hlt:i<S1.length:=(gSq.mp hn).1;exact hm R3 ⟨v,p,avs,n0,Rz hlt,e4,j1.trans s2,j2.trans s1,at0.kept r e4 k1⟩ e D (h.mono s)
  .cases e
 |_=>cases e
end
theorem NS(S:AS) (i:Nat):G6 i S=(cu S i).map fun _=>([],S):=rfl
theorem Pr(S:AS) (i:Nat) (pf:MP) (b:ME):N2 i pf b S=(pf S).bind fun x=>(b x.2).bind fun y=>(intOf y.1).bind fun j=>(cu y.2 i).bind fun avs=>(bL (.ow avs) x.1).bind fun as=>(xo as.length j).map fun n=>(x.1++[n],y.2):=rfl
theorem Of(S:AS) (x i:Nat) (pf:MP) (m:List Nat->MS):Ip x i pf m S=(pf S).bind fun y=>(cu y.2 i).bind fun avs=>(bL (.ow avs) y.1).bind fun _=>jj (x≠i/\x<y.2.length) (m y.1 (y.2.set x none)):=rfl
theorem NH(S:AS) (i:Nat) (c:MT) (a b:List Nat->MS) (path:List Nat):xr i c a b path S=(c S).bind fun y=>(cu y.2 i).bind fun avs=>(bL (.ow avs) path).bind fun _=>if y.1=true then a path y.2 else b path y.2:=rfl
theorem KA(S:AS) (i:Nat) (k:MK) (path:List Nat):B1 i k path S=(k S).bind fun y=>(cu y.2 i).bind fun avs=>(bL (.ow avs) path).bind fun as=>jj (as.length<cZ) (some (.nx (y.2.set i (some (putAt (.ow avs) path (as++[y.1])))))):=rfl
theorem IA(S:AS) (i:Nat) (mm:ME) (path:List Nat):vK i mm path S=(cu S i).bind fun avs=>(bL (.ow avs) path).bind fun as=>(mm (S.set i none)).bind fun y=>jj (y.2[i]?=some none/\as.length<cZ) (some (.nx (y.2.set i (some (putAt (.ow avs) path (as++[.sh y.1])))))):=rfl
def NU(i:Nat) (avs:List AV) (m:List Nat->MS) (path:List Nat):BX->Option BX
 | .nx S1=>jj (S1[i]?=some none) (m path (S1.set i (some (.ow avs))))
 |_=>none
theorem M6(S:AS) (i:Nat) (a:MS) (m:List Nat->MS) (path:List Nat):wB i a m path S=(cu S i).bind fun avs=>(a (S.set i none)).bind (NU i avs m path):=by
 unfold wB;congr 1
theorem Hn(i:Nat) (avs:List AV) (m:List Nat->MS) (path:List Nat) (S1:AS):NU i avs m path (.nx S1)=jj (S1[i]?=some none) (m path (S1.set i (some (.ow avs)))):=rfl
theorem Ab(avs:List AV):bL (.ow avs) []=some avs:=rfl
theorem yU(avs:List AV) (j:Nat) (js:List Nat):bL (.ow avs) (j::js)=(avs[j]?).bind fun a=>bL a js:=rfl
theorem zH{avs:List AV}{j:Nat}{js:List Nat}{as:List AV}{a:AV}(h:avs[j]?=some a):putAt (.ow avs) (j::js) as = .ow (avs.set j (putAt a js as)):=by
 show (match avs[j]? with|some a=>_|none=>_)=_
 rw[h]
def QQ:=Rj @NS (Rj @Pr (Rj @Of (Rj @NH (Rj @KA (Rj @IA (Rj @M6 (Rj @Hn @Ab)))))))
section
variable {K:W.Frag}
def wx(m:ME):MS:=fun S=>(m S).map fun x=>.nx x.2
theorem G3{te:TE}{m:ME}(h:SM K te m):SS K (qS te) (wx m):=by
 intro H₀ Hf₀ Hf S σ H Fs o R e D hd;obtain⟨x,e1,e⟩:=oMq.mp e;cases e;exact h R (d:=x.1) (S':=x.2) e1 _ fun Hf1 H1 Fs1 v t1 R1 r1=>hd _ _ _ _ t1 R1
def Q6(i:Nat):MS:=fun S=>(cu S i).map fun avs=>.nx (S.set i (some (.ow avs.reverse)))
end
theorem HZ(S:AS) (m:ME):wx m S=(m S).map fun x=>.nx x.2:=rfl
def QX:=@HZ
section
variable {K:W.Frag}
theorem dk.fd_inv{H:Hp}{ds:List (aN×D)}{v:V}(h:dk K H (.fd ds) v):∃p o kvs,v = .ref p/\H p=some (.frz o (.dK kvs))/\eN K H ds kvs:=by
 cases h with
 |fd h l e=>exact⟨_,_,_,rfl,h,l,e⟩
def II:D->Option (List (aN×D))
 | .fd kvs=>some kvs
 |_=>none
theorem Im{d:D}{kvs:List (aN×D)}(h:II d=some kvs):d = .fd kvs:=by
 cases d <;> first|(cases h;rfl)|cases h
def sZ(a b:ME):ME:=fun S=>(a S).bind fun x=>(b x.2).bind fun y=>(II x.1).bind fun kvs=>(gH y.1).bind fun key=>(getD kvs key).map fun d=>(d,y.2)
theorem EC{ta tb:TE}{a b:ME}(ha:SR K ta a) (hb:SR K tb b):SR K (GU ta tb) (sZ a b):=by
 intro H₀ Hf₀ Hf S σ H Fs d S' R e Q q;obtain⟨x,e1,e⟩:=oBq.mp e;obtain⟨y,e2,e⟩:=oBq.mp e;obtain⟨kvs,e3,e⟩:=oBq.mp e;obtain⟨key,e4,e⟩:=oBq.mp e;obtain⟨d',e5,e⟩:=oMq.mp e;cases e;refine ha R (d:=x.1) (S':=x.2) e1 _ fun Hf1 H1 Fs1 v1 t1 R1 r1=>hb R1 (d:=y.1) (S':=y.2) e2 _ fun Hf2 H2 Fs2 v2 t2 R2 r2=>?_
 rw[Im e3]at r1;obtain⟨p,o,vs,rfl,h1,h2⟩:=(r1.mono t2.sh).fd_inv;have g:=pH (key:=key) h2;rw[e5]at g;obtain⟨v,g1,g2⟩:=g;exact⟨p,v,rfl,by rw[jB e4 r2,←g1];exact .inl ⟨vs,key,.inr ⟨o,h1⟩,rfl,rfl⟩,q _ _ _ _ (t1.trans t2) R2 g2⟩
theorem GN{ob:Obj}{d:Addr}{kvs:List (aN×V)}{i1:Nat}{tb:TS}{D:mV}{σ:St}{H:Hp}(Pv:Nat->St->Hp->Prop) (h0:Pv 0 σ H) (hl:∀i σ H,Pv i σ H->H d=some (.frz ob (.dK kvs)))
  (hs:∀i p σ H,kvs[i]?=some p->Pv i σ H->tb { D with nx:=Pv (i+1),ct:=Pv (i+1),bk:=D.nx } (σ.set i1 (some (kV p.1))) H) (hd:∀σ H,Pv kvs.length σ H->D.nx σ H) :
  ∃W:Nat->Nat->St->Hp->Prop,(∃m,W 0 m σ H)/\∀i m σ H,W i m σ H ->
   ((NW ob d kvs).stop i H/\D.nx σ H)∨((NW ob d kvs).go i H/\∃N:St->Hp->Prop,(∀σ' H',N σ' H'->∃m',m'<m/\W (i+1) m' σ' H')/\∀x H',(NW ob d kvs).yld i H x H'->eZ i1 x σ H' fun σ2 H2=>tb { D with nx:=N,ct:=N,bk:=D.nx } σ2 H2):=by
 refine⟨fun i m σ H=>m=kvs.length-i/\i<=kvs.length/\Pv i σ H,⟨kvs.length,by simp,Sl _,h0⟩,?_⟩
 rintro i m σ H ⟨rfl,hi,p⟩;have q:=hl i σ H p
 by_cases hlt:i<kvs.length
 .refine .inr ⟨⟨q,kvs[i],by simp[hlt]⟩,Pv (i+1),fun σ' H' p'=>⟨kvs.length-(i+1),by lia,rfl,hlt,p'⟩,fun v H' y=>?_⟩
  obtain⟨rfl,x,hx,rfl⟩:=y;exact hs i x σ H' hx p
 .have e:i=kvs.length:=by lia
  subst e;exact .inl ⟨⟨q,Rk _⟩,hd σ H p⟩
def yk(x i:Nat) (body:MS):MS:=fun S=>(ja S i).bind fun kvs=>jj (x≠i) (dE x body (kvs.map fun p=>kD p.1) (S.set i (some (.sh (.fd kvs)))))
theorem HR{x i:Nat}{tb:TS}{body:MS}(hb:SS K tb body):SS K (Gz (JR (kQ i)) (eZ x) tb) (yk x i body):=by
 intro H₀ Hf₀ Hf S σ H Fs o R e D h;obtain⟨ds,e1,e⟩:=oBq.mp e;rcases bu e with ⟨hne,e⟩|e
 .have e1':=ni e1;obtain⟨p,kvs,s1,s2,h1,h2,h3,h4,h5⟩:=R.owd e1';refine⟨_,s1,p,kvs,rfl,h1,fun ob=>?_⟩
  obtain⟨v,F,t1,t2,r,nd,oo,R1⟩:=R.move e1';rw[s2]at t2;cases t2;have R2:=bA.fix R1 (p:=p) (o:=.frz ob (.dK kvs)) h5 h2 h4;have s3:bD Hf (cI Hf p (.frz ob (.dK kvs))):=lV h2;have h3':eN K (cI Hf p (.frz ob (.dK kvs))) ds kvs:=⟨h3.1,fun i d v a b=>(h3.2 i d v a b).mono s3⟩
  have R3:bA K H₀ Hf₀ (cI Hf p (.frz ob (.dK kvs))) (S.set i (some (.sh (.fd ds)))) σ (cI H p (.frz ob (.dK kvs))) (Fs.set i []) :=
   R2.again (F:=[]) s1 (.sh (.fd aU h3'.1 h3'.2)) R7 fun q hq=>by cases hq
  have hlen:ds.length=kvs.length:=by have:=congrArg S6 h3.1;simpa using this
  refine GN (fun n σ' H'=>∃Hf' S' Fs',bA K H₀ Hf₀ Hf' S' σ' H' Fs'/\bD (cI Hf p (.frz ob (.dK kvs))) Hf'/\dE x body ((ds.map fun p=>kD p.1).drop n) S'=some o) ⟨_,_,_,R3,.refl _,e⟩
   (fun n σ' H' ⟨Hf',S',Fs',R',s',_⟩=>R'.sub _ _ (s' _ _ aU)) ?_ ?_
  .rintro n w σ' H' hw ⟨Hf',S',Fs',R',s',e'⟩;have hn:n<ds.length:=by rw[hlen];exact(gSq.mp hw).1
   have hk:(ds.map fun p=>kD p.1)[n]?=some (kD w.1):=by
    have:=congrArg (fun l=>l[n]?) h3.1
    simp only[gMq,hw,Td]at this;rw[gMq];cases hd:ds[n]? with
    |none=>rw[hd]at this;cases this
    |some dd =>
     rw[hd]at this;rw[Td,show dd.1=w.1 from RD.inj this]
   have hlt:n<(ds.map fun p=>kD p.1).length:=by rw[lMq];exact hn
   rw[RS hlt,(gSq.mp hk).2]at e';obtain⟨o2,e3,e4⟩:=oBq.mp e';refine hb (R'.setD x (HU w.1)) e3 _ ?_;cases o2 with
   |nx S2=>exact fun Hf2 σ2 H2 Fs2 s4 R4=>⟨Hf2,S2,Fs2,R4,s'.trans s4,e4⟩
   |ct S2=>exact fun Hf2 σ2 H2 Fs2 s4 R4=>⟨Hf2,S2,Fs2,R4,s'.trans s4,e4⟩
   |bk S2=>cases e4;exact fun Hf2 σ2 H2 Fs2 s4 R4=>h _ _ _ _ ((s3.trans s').trans s4) R4
   |rt a=>cases e4;exact h
  .rintro σ' H' ⟨Hf',S',Fs',R',s',e'⟩;rw[←hlen,show ds.length=(ds.map fun p=>kD p.1).length from (lMq _).symm,T9]at e'
   cases e';exact h _ _ _ _ (s3.trans s') R'
 .cases e
end
theorem HD(kvs:List (aN×D)):II (.fd kvs)=some kvs:=rfl
theorem Ju(S:AS) (a b:ME):sZ a b S=(a S).bind fun x=>(b x.2).bind fun y=>(II x.1).bind fun kvs=>(gH y.1).bind fun key=>(getD kvs key).map fun d=>(d,y.2):=rfl
theorem Lr(S:AS) (x i:Nat) (body:MS):yk x i body S=(ja S i).bind fun kvs=>jj (x≠i) (dE x body (kvs.map fun p=>kD p.1) (S.set i (some (.sh (.fd kvs))))):=rfl
def QO:=Rj @HD (Rj @Ju @Lr)
end Z
namespace Mr
open PySem PySem.Spec PyProof.Rows L2
end Mr
namespace Z
open PySem L2 Mr
def Ny(l:ML):MK:=fun S=>(l S).map fun x=>(.ow (x.1.reverse.map .sh),x.2)
mutual
def DX:AV->Bool
 | .sh d=>d.scal
 | .ow l=>ET l
 | .owd kvs=>kvs.all fun p=>p.2.scal
 | .owl _=>true
def ET:List AV->Bool
 | []=>true
 |a::l=>DX a && ET l
end
def KJ(f:MF) (a:ML):MK:=fun S=>(a S).bind fun x=>(f x.1).bind fun r=>if DX r=true then some (r,x.2) else none
end Z
namespace Xe
open PySem PySem.Spec PySem.W PyProof.Rows L2 Mr
end Xe
namespace Z
open PySem L2 Mr Xe
end Z
namespace HT
open PySem PyProof.Rows
open PySem.SeqAt
open PySem.AutoSeq1 (wpAny_loadPart')
open PySem.MeetsSeq PySem.MeetsSeq2 PySem.MeetsSeq3
end HT
namespace Mr
open PySem PySem.Spec PyProof.Rows L2
end Mr
namespace Z
open PySem L2 Mr
end Z
namespace Z
open PySem L2 Mr Xe
end Z
namespace Xe
open PySem PySem.Spec PySem.W PyProof.Rows L2 Mr
end Xe
namespace Z
open PySem L2 Mr Xe
end Z
namespace Mr
open PySem PySem.Spec PySem.W PyProof.Rows L2 HT
end Mr
namespace Z
open PySem L2 Mr Xe
end Z
namespace Z
open PySem PySem.Spec PySem.W PyProof.Rows L2 Mr Xe
end Z
namespace Mr
open PySem L2
open PySem.Spec PyProof.Rows
section
variable {X:Cx}
end
end Mr
namespace Z
open PySem L2 Mr Xe
def Ib(f:D->D->Option D) (m b:ME):ME:=fun S=>(m S).bind fun x=>(b x.2).bind fun y=>(f x.1 y.1).bind fun d=>if d.scal then some (d,y.2) else none
def Q2(i:Nat) (g:Int->Int->Int) (b:ME):MS:=fun S=>(af i S).bind fun x=>(intOf x.1).bind fun a=>(b x.2).bind fun y=>(intOf y.1).map fun c=>.nx (y.2.set i (some (.sh (.int (g a c)))))
def Ad(i:Nat) (pf:MP) (mm:ME):MS:=fun S=>(pf S).bind fun x=>(cu x.2 i).bind fun avs=>(bL (.ow avs) x.1).bind fun as=>(mm (x.2.set i none)).bind fun y=>jj (y.2[i]?=some none/\as.length<cZ) (some (.nx (y.2.set i (some (putAt (.ow avs) x.1 (as++[.sh y.1]))))))
def QG(g:MF) (f:Fz) (a:MA):MX:=fun S=>(a S).bind fun x=>(f (x.1.map aA)).bind (Gk fun r=>(g [aA r]).map fun z=>.ok (.rt z))
section
variable {K:W.Frag}
theorem Oq{r:R2}{f:D->D->Option D}{ta tb:TE}{m b:ME}(hr:xk K r f) (ha:SM K ta m) (hb:SR K tb b):SM K (IJ r ta tb) (Ib f m b):=by
 intro H₀ Hf₀ Hf S σ H Fs d S' R e Q q;obtain⟨x,e1,e⟩:=oBq.mp e;obtain⟨y,e2,e⟩:=oBq.mp e;obtain⟨z,e3,e⟩:=oBq.mp e;split at e
 .rename_i hs;cases e;refine ha R (d:=x.1) (S':=x.2) e1 _ fun Hf1 H1 Fs1 v1 t1 R1 r1=>hb R1 (d:=y.1) (S':=y.2) e2 _ fun Hf2 H2 Fs2 v2 t2 R2 r2=>?_
  exact hr ((r1.mono R1.sub).mono t2.sh) r2 e3 fun v rv=>q _ _ _ v (t1.trans t2.sf) R2 (rv.scal hs)
 .cases e
theorem ES{i:Nat}{tp te:TE}{pf:MP}{mm:ME}(hp:Og K i tp pf) (hk:SM K te mm):SS K (qS (He K "list" mj tp (iF te mG))) (Ad i pf mm):=by
 intro H₀ Hf₀ Hf S σ H Fs o R e D h;obtain⟨x,e1,e⟩:=oBq.mp e;obtain⟨avs,e2,e⟩:=oBq.mp e;obtain⟨as,e3,e⟩:=oBq.mp e;obtain⟨y,e4,e⟩:=oBq.mp e;rcases bu e with ⟨⟨hn,hl⟩,e⟩|e
 .cases e;refine hp R (path:=x.1) (S':=x.2) e1 _ fun Hf1 H1 Fs1 v w t1 R1 s1 at0=>?_
  have e2':=bx e2;obtain⟨p,vs,rfl,h1,h2⟩:=nV R1 e2' s1 e3 at0;obtain⟨v',F,u1,u2,r,nd,oo,_⟩:=R1.move e2';rw[s1]at u1;cases u1;refine⟨.inl ⟨rfl,vs,dZ.of h1⟩,hk (R1.frame u2) (d:=y.1) (S':=y.2) e4 _ fun Hf2 H2 Fs2 u t3 R2 r2=>?_⟩
  obtain⟨k1,k2,R3⟩:=R1.unframe u2 r nd (fun q hq=>(oo q hq).1) R2 hn s1 t3
  have hlt:i<y.2.length:=(gSq.mp hn).1;have e5:(y.2.set i (some (.ow avs)))[i]?=some (some (.ow avs)):=Rz hlt;obtain⟨vs',g1,g2,g3⟩:=R3.grow e5 s1 e3 (at0.kept r e3 k1);obtain⟨Fs',R4⟩:=g3 [.sh y.1] [u] [[]] (bf.nil.snoc (.sh r2)) (by simp) (fun q hq=>by simp at hq)
  rw[Uc]at R4;exact⟨p,vs',u,rfl,rfl,g1,by rw[iK,←g2];exact hl,h _ _ _ _ (t1.sf.trans t3) R4⟩
 .cases e
end
theorem NM(S:AS) (f:D->D->Option D) (m b:ME):Ib f m b S=(m S).bind fun x=>(b x.2).bind fun y=>(f x.1 y.1).bind fun d=>if d.scal then some (d,y.2) else none:=rfl
theorem HV(S:AS) (i:Nat) (pf:MP) (mm:ME):Ad i pf mm S=(pf S).bind fun x=>(cu x.2 i).bind fun avs=>(bL (.ow avs) x.1).bind fun as=>(mm (x.2.set i none)).bind fun y=>jj (y.2[i]?=some none/\as.length<cZ) (some (.nx (y.2.set i (some (putAt (.ow avs) x.1 (as++[.sh y.1])))))):=rfl
def QP:=Rj @NM @HV
def Hi:=Rj zq (Rj Rb (Rj Q9 (Rj QQ (Rj QX (Rj QO (QP))))))
end Z
local macro_rules | `(tactic| simp_arith [$ls,*]) => `(tactic| simp -implicitDefEqProofs only [Z.Hi,Th,Ti,SX,SY,Sw,↓reduceIte,reduceCtorEq,$ls,*])
namespace Z
open PySem PySem.Spec PySem.W PyProof.Rows L2 Mr Xe
end Z
namespace Z
open PySem L2 Mr Xe
end Z
namespace HT
open PySem PyProof.Rows
open PySem.SeqAt
open PySem.AutoSeq1 (wpAny_loadPart')
open PySem.MeetsSeq PySem.MeetsSeq2 PySem.MeetsSeq3
end HT
namespace Mr
open PySem L2
open PySem.Spec PyProof.Rows
end Mr
namespace Z
open PySem L2 Mr Xe
end Z
namespace Mr
open PySem PySem.Calls PySem.Spec PyProof.Rows L2
end Mr
namespace Z
open PySem L2 Mr Xe
end Z
namespace Mo
open PySem PyProof.Rows Mr
theorem DA:entryFor table "zip.__getattribute__" = some Builtin.«object.__getattribute__»:=entryFor_alias (id' := "object.__getattribute__") (by kernel_rfl) (by decide +kernel) (by decide +kernel) (by kernel_rfl)
theorem Eo:typeLookup (.type "zip") "__getattr__" = pure none:=by rw[typeLookup_type,builtinLookup_eq_fast];kernel_rfl
theorem AG:typeLookup (.type "zip") "keys" = pure none:=by rw[typeLookup_type,builtinLookup_eq_fast];kernel_rfl
section
variable {prog:Program}{w:World}{A:Around}{E:Value->Shared->Prop}{s:Shared}
theorem xw(z:Addr) (fs:Array Value) (u:Tok):Meets (Builtin.«object.__getattribute__» ⟨[.ref z,.str "keys" u],[]⟩) (fun A R s=>s.heap.get? z=some { cls:=.type "zip", dict:=none,data:=.fields fs,slots:=#[] }/\raisesAttr (.ref z) "keys" A R s) :=
 Meets.of_wp fun prog w A R s hs=>by
  obtain⟨hp,g,d,tk,os⟩:=s;obtain⟨hx,hs⟩:=hs;have hT:(⟨hp,g,d,tk,os⟩:Shared).TypeIs (.ref z) "zip" := ⟨_,hx,rfl⟩;have hm:=AG;have hname:(["__module__", "__name__", "__qualname__", "__doc__", "__annotations__"]:List Str).contains "keys" = false:=by decide +kernel
  unfold Builtin.«object.__getattribute__»
  repeat (any_goals (first|assumption|wp_step))
  exact wpAny_raiseAttrError hs.1 hs.2 (attrMsg_fits (by decide +kernel) (by size_fits))
end
section
variable {prog:Program}{w:World}{A:Around}{E:Value->Shared->Prop}{s:Shared}
theorem HF{z:Addr}{fs:Array Value}{u:Tok}{Q:Value->Shared->Prop}(hx:s.heap.get? z=some { cls:=.type "zip", dict:=none,data:=.fields fs,slots:=#[] }) (hA:A.handled=none)
  (h:∀h' tk e,Heap.NewExcOf s.heap h' e "AttributeError" -> E (.ref e) { s with heap:=h',toks:=tk }):wpAny (model prog w) A (getAttrBy (.ref z) (.str "keys" u) false) Q E s:=by
 obtain⟨hp,g,d,tk,os⟩:=s;have hT:∀tk',(⟨hp,g,d,tk',os⟩:Shared).TypeIs (.ref z) "zip" := fun _=>⟨_,hx,rfl⟩
 have f1:=sub_AttributeError;have f3:=F.slot_zip_getattribute.lookup;have f4:=F.slot_zip_getattribute.bind (.ref z);have f5:=Eo;unfold getAttrBy
 repeat (any_goals (first|assumption|exact hT _|((with_reducible show wpAny _ _ (call (Value.builtin "zip.__getattribute__") _ _) _ _ _);refine call_meets F.slot_zip_getattribute (hT _) DA (F.args_zip_getattribute_2 _ _) (xw z fs _) ⟨hx,hA,fun h' tk' e hx'=>?_⟩)|wp_step))
 obtain⟨t',u',he⟩:=hx'.there;show wpAny _ _ (getattributeRaised _ _ _ _ _ _ _) _ _ _;unfold getattributeRaised
 repeat (any_goals (first|assumption|wp_step))
 exact h _ _ _ hx'.of
theorem Hj{z:Addr}{fs:Array Value}{Q:Option Value->Shared->Prop}(hx:s.heap.get? z=some { cls:=.type "zip", dict:=none,data:=.fields fs,slots:=#[] }) (hA:A.handled=none)
  (h:∀h' tk,(∀b o,s.heap.get? b=some o->h'.get? b=some o)->Q none { s with heap:=h',toks:=tk }):wpAny (model prog w) A (getAttr? (.ref z) "keys") Q E s:=by
 unfold getAttr? getAttrBy?;obtain⟨hp,g,d,tk,os⟩:=s;have f1:=sub_AttributeError
 repeat (any_goals (first|assumption|(with_reducible refine HF (fs:=fs) ?_ ?_ ?_)|wp_step))
 intro h' tk' e q;obtain⟨o,k,he,hc,_⟩:=q.there;refine wpAny_bind (wpAny_isInstance (T := "AttributeError") (b:=true) ⟨_,he,hc⟩ f1 ?_);exact wpAny_pure (h h' tk' q.keeps)
end
abbrev L7(h:Heap) (z TI TO T:Addr) (b:Bool):Prop:=h.get? z=some { cls:=.type "zip", dict:=none,data:=.fields #[rawInt T,.bool b,.bool false,.ref TI,.ref TO],slots:=#[] }
section
variable {prog:Program}{w:World}{A:Around}{E:Value->Shared->Prop}{s:Shared}
theorem xB{a:Addr}{o:Obj}{Q:Option Obj->Shared->Prop}(ho:s.heap.get? a=some o) (h:Q (some o) s):wpAny (model prog w) A (loadIfAlive a) Q E s:=fun Γ p hΓ=>by
 unfold loadIfAlive;rw[Sem.wp_loadIfAlive,ho];exact h
theorem xH{z TI TO T:Addr}{b:Bool}{o:Obj}{Q:Bool->Shared->Prop}(hz:L7 s.heap z TI TO T b) (ho:s.heap.get? T=some o)
  (h:∀h',L7 h' z TI TO T true->U1 z s.heap h'->Q false { s with heap:=h' }):wpAny (model prog w) A (Builtin.SmallTypes.ownedTupleIsFree (.ref z)) Q E s:=by
 unfold Builtin.SmallTypes.ownedTupleIsFree;refine wpAny_bind (wpAny_field hz rfl (x:=rawInt T) rfl ?_);refine wpAny_bind (xB (a:=T) ho ?_);refine wpAny_bind (wpAny_field hz rfl (x:=.bool b) rfl ?_);cases b with
 |true=>exact wpAny_bind (wpAny_pure (wpAny_pure (h s.heap hz ⟨rfl,fun _ _=>rfl⟩)))
 |false =>
  refine wpAny_bind ?_;exact wpAny_setField_rec hz (by simp) fun h1 hz1 hs1=>wpAny_pure (h h1 hz1 hs1)
theorem Ou{z TI TO i1 i2 l1 l2 T:Addr}{b:Bool}{o:Obj}{k:Nat}{xs ys:Array Value}{x y:Value}{Q:Value->Shared->Prop}(D:ZipApart z TI TO i1 i2 l1 l2) (hz:L7 s.heap z TI TO T b) (ho:s.heap.get? T=some o)
  (hTI:IsPair s.heap TI (.ref i1) (.ref i2)) (h1:s.heap.IsListIter i1 l1 k) (h2:s.heap.IsListIter i2 l2 k) (hl1:s.heap.IsList l1 xs) (hl2:s.heap.IsList l2 ys) (hx:xs[k]?=some x) (hy:ys[k]?=some y)
  (hQ:∀h',L7 h' z TI TO T true->h'.IsListIter i1 l1 (k+1)->h'.IsListIter i2 l2 (k+1)->IsPair h' s.heap.objs.size x y->h'.objs.size=s.heap.objs.size+1->(∀c o,c≠z->c≠i1->c≠i2->s.heap.get? c=some o->h'.get? c=some o)->Q (.ref s.heap.objs.size) { s with heap:=h' }) :
  wpAny (model prog w) A (Builtin.«zip.__next__» ⟨[.ref z],[]⟩) (fun fin s'=>∃v,fin = .done (.ret v)/\Q v s') E s:=by
 show wpAny _ _ (field (.ref z) 2 >>= _) _ _ _;refine wpAny_bind (wpAny_field hz rfl (x:=.bool false) rfl ?_);show wpAny _ _ (field (.ref z) 3 >>= _) _ _ _;refine wpAny_bind (wpAny_field hz rfl (x:=.ref TI) rfl ?_);refine wpAny_bind (wpAny_seqItems hTI rfl ?_);show wpAny _ _ (Builtin.SmallTypes.ownedTupleIsFree (.ref z) >>= _) _ _ _;refine wpAny_bind (xH hz ho fun g1 hz1 s1=>?_)
 simp only[Uz,if_false];refine wpAny_bind ?_;rw[V0];simp only[Wp,Wu];refine wpAny_bind (wpAny_bind (wpAny_holding ?_));show wpAny _ _ (Builtin.SmallTypes.nextOf (.ref i1) >>= _) _ _ _;refine wpAny_bind (wpAny_nextOf_list_item (h1.extBut s1.extBut D.i1z) (hl1.extBut s1.extBut D.l1z) hx fun g2 q2 s2=>wpAny_pure ?_)
 refine wpAny_pure ?_;refine wpAny_bind (wpAny_bind (wpAny_holding ?_));show wpAny _ _ (Builtin.SmallTypes.nextOf (.ref i2) >>= _) _ _ _;refine wpAny_bind (wpAny_nextOf_list_item ((h2.extBut s1.extBut D.i2z).extBut s2.extBut D.i12.symm) ((hl2.extBut s1.extBut D.l2z).extBut s2.extBut D.l2i1) hy fun g3 q3 s3=>wpAny_pure ?_)
 refine wpAny_pure (wpAny_pure ?_);refine wpAny_bind (wpAny_newTuple ?_ (by show 2<=sizeLine;rw[sizeLine_eq];decide))
 have hsz:g3.objs.size=s.heap.objs.size:=by rw[s3.1,s2.1,s1.1]
 have hz3:L7 g3 z TI TO T true:=s3.extBut _ _ D.i2z.symm (s2.extBut _ _ D.i1z.symm hz1);have h13:g3.IsListIter i1 l1 (k+1):=q2.extBut s3.extBut D.i12;have kp:∀c o,c≠z->c≠i1->c≠i2->s.heap.get? c=some o->g3.get? c=some o:=fun c o c1 c2 c3 e=>s3.extBut _ _ c3 (s2.extBut _ _ c2 (s1.extBut _ _ c1 e))
 refine wpAny_pure ⟨_,rfl,?_⟩;show Q (.ref g3.objs.size) _;rw[hsz];exact hQ _ (Rr _ hz3) (h13.at fun o e=>Rr _ e) (q3.at fun o e=>Rr _ e) (by rw[←hsz];exact Sk _ rfl) (by rw[Ws,hsz]) fun c o c1 c2 c3 e=>Rr _ (kp c o c1 c2 c3 e)
end
section
variable {prog:Program}{w:World}{A:Around}{E:Value->Shared->Prop}{s:Shared}
theorem Ng{z TI TO i1 i2 l1 l2 T:Addr}{b:Bool}{o:Obj}{k:Nat}{xs:Array Value}{Q:Fin->Shared->Prop}(hh:A.handled=none) (D:ZipApart z TI TO i1 i2 l1 l2) (hz:L7 s.heap z TI TO T b) (ho:s.heap.get? T=some o)
  (hTI:IsPair s.heap TI (.ref i1) (.ref i2)) (h1:s.heap.IsListIter i1 l1 k) (hl1:s.heap.IsList l1 xs) (hx:xs[k]?=none)
  (hE:∀h' e,(∀c o,c≠z->c≠i1->s.heap.get? c=some o->h'.get? c=some o)->(∃o,h'.get? e=some o/\o.cls = .type "StopIteration")->E (.ref e) { s with heap:=h' }) :
  wpAny (model prog w) A (Builtin.«zip.__next__» ⟨[.ref z],[]⟩) Q E s:=by
 show wpAny _ _ (field (.ref z) 2 >>= _) _ _ _;refine wpAny_bind (wpAny_field hz rfl (x:=.bool false) rfl ?_);show wpAny _ _ (field (.ref z) 3 >>= _) _ _ _;refine wpAny_bind (wpAny_field hz rfl (x:=.ref TI) rfl ?_);refine wpAny_bind (wpAny_seqItems hTI rfl ?_);show wpAny _ _ (Builtin.SmallTypes.ownedTupleIsFree (.ref z) >>= _) _ _ _;refine wpAny_bind (xH hz ho fun g1 hz1 s1=>?_)
 simp only[Uz,if_false];refine wpAny_bind ?_;rw[V0];simp only[Wp,Wu];refine wpAny_bind (wpAny_bind (wpAny_holding ?_));show wpAny _ _ (Builtin.SmallTypes.nextOf (.ref i1) >>= _) _ _ _;refine wpAny_bind (wpAny_nextOf_list_end hh (h1.extBut s1.extBut D.i1z) (hl1.extBut s1.extBut D.l1z) hx fun g2 e s2 he=>?_)
 exact hE g2 e (fun c o c1 c2 q=>s2 _ _ c2 (s1.extBut _ _ c1 q)) he
structure JH (h:Heap) (z TI TO i1 i2 l1 l2 d:Addr) (k:Nat) (xs ys:Array Value):Prop where
 f:IsZip h z TI TO .none∨∃T b o,L7 h z TI TO T b/\h.get? T=some o/\T≠z/\T≠TO/\T≠i1/\T≠i2/\T≠d
 ti:IsPair h TI (.ref i1) (.ref i2)
 to:∃a b,IsPair h TO a b
 h1:h.IsListIter i1 l1 k
 h2:h.IsListIter i2 l2 k
 l1:h.IsList l1 xs
 l2:h.IsList l2 ys
theorem JH.ty{z TI TO i1 i2 l1 l2 d:Addr}{k:Nat}{xs ys:Array Value}(S:JH s.heap z TI TO i1 i2 l1 l2 d k xs ys):s.TypeIs (.ref z) "zip" := by
 rcases S.f with h|⟨_,_,_,h,_⟩
 .exact ⟨_,h,rfl⟩
 .exact ⟨_,h,rfl⟩
theorem Nq{z TI TO i1 i2 l1 l2 d:Addr}{k:Nat}{xs ys:Array Value}{x y:Value}{Q:Option Value->Shared->Prop}(D:ZipApart z TI TO i1 i2 l1 l2) (hd:d<s.heap.objs.size) (S:JH s.heap z TI TO i1 i2 l1 l2 d k xs ys) (hx:xs[k]?=some x) (hy:ys[k]?=some y)
  (hQ:∀h' T,JH h' z TI TO i1 i2 l1 l2 d (k+1) xs ys->IsPair h' T x y->(∀c o,c≠z->c≠TO->c≠i1->c≠i2->s.heap.get? c=some o->h'.get? c=some o)->Q (some (.ref T)) { s with heap:=h' }) :
  wpAny (model prog w) A (pyNext (.ref z)) Q E s:=by
 obtain⟨a,b,hTO⟩:=S.to;have l1ne:l1≠z/\l1≠TO/\l1≠i1/\l1≠i2:=⟨D.l1z,D.l1TO,D.l1i1,D.l1i2⟩;have zl:z<s.heap.objs.size:=by
  rcases S.f with h|⟨_,_,_,h,_⟩
  .exact Ro h
  .exact Ro h
 have i1l:i1<s.heap.objs.size:=by obtain⟨_,q,_⟩:=S.h1;exact Ro q
 have i2l:i2<s.heap.objs.size:=by obtain⟨_,q,_⟩:=S.h2;exact Ro q
 have TOl:TO<s.heap.objs.size:=Ro hTO;rcases S.f with hz|⟨T,f1,o,hz,ho,n1,n2,n3,n4,n5⟩
 .refine wpAny_pyNext_zip_item D hz S.ti hTO S.h1 S.h2 S.l1 S.l2 hx hy fun h' a1 a2 a3 a4 a5 a6 a7=>hQ h' _ ⟨.inr ⟨_,_,_,a1,a5,Tf zl,Tf TOl,Tf i1l,Tf i2l,Tf hd⟩,a7 _ _ D.TIz D.TITO D.TIi1 D.TIi2 S.ti,⟨_,_,a2⟩,a3,a4,S.l1.at fun o q=>a7 _ _ D.l1z D.l1TO D.l1i1 D.l1i2 q,S.l2.at fun o q=>a7 _ _ D.l2z D.l2TO D.l2i1 D.l2i2 q⟩ a5 a7
 .have hT:=S.ty;unfold pyNext;refine wpAny_bind (wpAny_attempt (wpAny_callSpecial?_slot (name:=Str.ofString "__next__") hT F.slot_zip_next (wpAny_call_entry F.slot_zip_next hT F.entry_zip_next (Ou D hz ho S.ti S.h1 S.h2 S.l1 S.l2 hx hy fun h' a1 a3 a4 a5 a6 a7=>wpAny_pure (hQ h' _ ?_ a5 fun c o c1 _ c3 c4 q=>a7 c o c1 c3 c4 q)) (F.args_zip_next_1 _))))
  exact⟨.inr ⟨T,true,o,a1,a7 _ _ n1 n3 n4 ho,n1,n2,n3,n4,n5⟩,a7 _ _ D.TIz D.TIi1 D.TIi2 S.ti,⟨a,b,a7 _ _ D.TOz D.TOi1 D.TOi2 hTO⟩,a3,a4,S.l1.at fun o q=>a7 _ _ D.l1z D.l1i1 D.l1i2 q,S.l2.at fun o q=>a7 _ _ D.l2z D.l2i1 D.l2i2 q⟩
theorem N8{z TI TO i1 i2 l1 l2 d:Addr}{k:Nat}{xs ys:Array Value}{Q:Option Value->Shared->Prop}(hh:A.handled=none) (D:ZipApart z TI TO i1 i2 l1 l2) (S:JH s.heap z TI TO i1 i2 l1 l2 d k xs ys) (hx:xs[k]?=none)
  (hQ:∀h',(∀c o,c≠z->c≠TO->c≠i1->c≠i2->s.heap.get? c=some o->h'.get? c=some o)->Q none { s with heap:=h' }) :
  wpAny (model prog w) A (pyNext (.ref z)) Q E s:=by
 obtain⟨a,b,hTO⟩:=S.to;rcases S.f with hz|⟨T,f1,o,hz,ho,_⟩
 .exact wpAny_pyNext_zip_end hh D hz S.ti hTO S.h1 S.h2 S.l1 S.l2 (.inl hx) hQ
 .have hT:=S.ty;unfold pyNext;refine wpAny_bind (wpAny_attempt (wpAny_callSpecial?_slot (name:=Str.ofString "__next__") hT F.slot_zip_next (wpAny_call_entry F.slot_zip_next hT F.entry_zip_next (Ng hh D hz ho S.ti S.h1 S.l1 hx fun h' e hk he=>?_) (F.args_zip_next_1 _))))
  obtain⟨oe,h3,h4⟩:=he;refine wpAny_bind (wpAny_isInstance (T := "StopIteration") (b:=true) ⟨oe,h3,h4⟩ isSubtype_stop ?_);exact wpAny_pure (hQ _ fun c o c1 _ c3 _ q=>hk c o c1 c3 q)
theorem vI:entryFor table "dict.update.loop" = some Builtin.«dict.update.loop»:=entryFor_of_tree (by kernel_rfl)
theorem mB:plainId "dict.update.loop" = true:=by decide +kernel
end
section
variable {K:Type} [DecidableEq K]
def fz(ks:List K) (ws:List Value) (j:Nat):List (K×Value):=((ks.zip ws).take j).foldl (fun m p=>stored m p.1 p.2) []
theorem HY{ks:List K}{ws:List Value}{j:Nat}{k:K}{v:Value}(h1:ks[j]?=some k) (h2:ws[j]?=some v):fz ks ws (j+1)=stored (fz ks ws j) k v:=by
 unfold fz;have:(ks.zip ws)[j]?=some (k,v):=T4.mpr ⟨h1,h2⟩;rw[TZ,this,Option.toList_some,UI];rfl
theorem A6(m:List (K×Value)) (k:K) (v:Value):(stored m k v).length<=m.length+1:=by
 unfold stored;split
 .rw [lMq];lia
 .rw [lAq];exact Rk _
theorem fold_len:∀(l:List (K×Value)) (m:List (K×Value)),(l.foldl (fun m p=>stored m p.1 p.2) m).length<=m.length+l.length
 | [],m=>Rk _
 |p::l,m=>by
  have:=fold_len l (stored m p.1 p.2);have:=A6 m p.1 p.2;rw[Ss,lCq];lia
theorem Lu(ks:List K) (ws:List Value) (j:Nat):(fz ks ws j).length<=j:=by
 have:=fold_len ((ks.zip ws).take j) [];have h2:((ks.zip ws).take j).length<=j:=by rw[lTq];lia
 unfold fz;rw[TU]at this;lia
end
section
variable {prog:Program}{w:World}{A:Around}{E:Value->Shared->Prop}{s:Shared}{K:Type} [DecidableEq K] {knd:KeyKind prog w K}{R:Result->Shared->Prop}{z TI TO i1 i2 l1 l2 d:Addr}{us ws:List Value}{ks:List K}
theorem JH.keep{h h':Heap}{k:Nat}{xs ys:Array Value}(S:JH h z TI TO i1 i2 l1 l2 d k xs ys) (nd:∀c∈[z,TI,TO,i1,i2,l1,l2],c≠d) (kp:Heap.ExtBut d h h'):JH h' z TI TO i1 i2 l1 l2 d k xs ys:=by
 have q:=fun c hc o=>kp c o (nd c hc)
 obtain⟨a,b,hTO⟩:=S.to;refine⟨?_,q TI (by simp) _ S.ti,⟨a,b,q TO (by simp) _ hTO⟩,S.h1.at fun o e=>q i1 (by simp) o e,S.h2.at fun o e=>q i2 (by simp) o e,S.l1.at fun o e=>q l1 (by simp) o e,S.l2.at fun o e=>q l2 (by simp) o e⟩
 rcases S.f with hz|⟨T,f1,o,hz,ho,n1,n2,n3,n4,n5⟩
 .exact .inl (q z (by simp) _ hz)
 .exact .inr ⟨T,f1,o,q z (by simp) _ hz,kp _ _ n5 ho,n1,n2,n3,n4,n5⟩
theorem Iw(hh:A.handled=none) (D:ZipApart z TI TO i1 i2 l1 l2) (nd:∀c∈[z,TI,TO,i1,i2,l1,l2],c≠d) (hk:∀(j:Nat) (u:Value),us[j]?=some u->∃k,ks[j]?=some k/\knd.is k u=true) (hlen:us.length=ws.length) (hsz:us.length<=sizeLine) :
  ∀(m j:Nat) (i:Int) (s:Shared),us.length-j=m->j<=us.length->JH s.heap z TI TO i1 i2 l1 l2 d j us.toArray ws.toArray->s.heap.DictOf knd d (fz ks ws j) ->
   (∀h' tk,h'.DictOf knd d (fz ks ws us.length)->(∀b o,b≠z->b≠TO->b≠i1->b≠i2->b≠d->s.heap.get? b=some o->h'.get? b=some o)->R (.ok (.ret .none)) { s with heap:=h',toks:=tk }) ->
   codeAny (model prog w) A (.builtin "dict.update.loop" ⟨[.ref d,.ref z,.int i 0,.none],[]⟩) R s:=by
 have vl:us.toArray.size=us.length:=RH ..;intro m
 induction m with
 |zero =>
  intro j i s hm hj S dd hR;have hjn:j=us.length:=by lia
  refine codeAny_builtin vI ?_;rw[Around.under_plainId mB _];show wpAny _ A.in1 (pyNext (.ref z) >>= _) _ _ s;refine wpAny_bind (N8 hh D S (by simp;lia) fun h' kp=>?_)
  show wpAny _ A.in1 (Builtin.Dict.addKeywords d [] >>= _) _ _ _;refine wpAny_bind (wpAny_pure (wpAny_pure (hR h' s.toks ?_ fun b o b1 b2 b3 b4 _ e=>kp b o b1 b2 b3 b4 e)))
  subst hjn;obtain⟨o,es,ep,ho,r⟩:=dd;exact⟨o,es,ep,kp d o (nd z (by simp)).symm (nd TO (by simp)).symm (nd i1 (by simp)).symm (nd i2 (by simp)).symm ho,r⟩
 |succ m ih =>
  intro j i s hm hj S dd hR;obtain⟨u,hu⟩:∃u,us[j]?=some u:=⟨_,gEg (by lia)⟩
  obtain⟨v,hv⟩:∃v,ws[j]?=some v:=⟨_,gEg (by lia)⟩
  obtain⟨k,hk1,hk2⟩:=hk j u hu;refine codeAny_builtin vI ?_;rw[Around.under_plainId mB _];show wpAny _ A.in1 (pyNext (.ref z) >>= _) _ _ s;have hdl:d<s.heap.objs.size:=by obtain⟨_,_,_,ho,_⟩:=dd;exact Ro ho
  refine wpAny_bind (Nq D hdl S (x:=u) (y:=v) (by simpa using hu) (by simpa using hv) fun h' T S' hT kp=>?_)
  have dd':h'.DictOf knd d (fz ks ws j):=by
   obtain⟨o,es,ep,ho,r⟩:=dd;exact⟨o,es,ep,kp d o (nd z (by simp)).symm (nd TO (by simp)).symm (nd i1 (by simp)).symm (nd i2 (by simp)).symm ho,r⟩
  refine wpAny_bind (wpAny_holding ?_);have tT:Shared.TypeIs { s with heap:=h' } (.ref T) "tuple" := ⟨_,hT,rfl⟩
  refine wpAny_bind (wpAny_tryCatch ?_);unfold Builtin.Dict.pairItems;refine wpAny_bind (wpAny_typeOf tT ?_);rw[if_pos (by decide)]
  refine wpAny_bind (wpAny_seqItems hT rfl ?_);refine wpAny_pure ?_;refine wpAny_holding ?_;refine wpAny_dictSet_pairs (hsz:=by have:=Lu ks ws j;lia) hk2 dd' fun h2 dd2 sb=>?_
  rw[←HY hk1 hv]at dd2;refine wpAny_pure ⟨plainId_quiet mB _,ih (j+1) (i+1) _ (by lia) (by lia) (S'.keep nd sb.extBut) dd2 fun h3 tk3 dd3 kp3=>?_⟩
  exact hR h3 tk3 dd3 fun b o b1 b2 b3 b4 b5 e=>kp3 b o b1 b2 b3 b4 b5 (sb.extBut b o b5 (kp b o b1 b2 b3 b4 e))
end
section
variable {prog:Program}{w:World}{A:Around}{E:Value->Shared->Prop}{s:Shared}{K:Type} [DecidableEq K] {knd:KeyKind prog w K}{z TI TO i1 i2 l1 l2:Addr}{us ws:List Value}{ks:List K}
theorem Ij{Q:Value->Shared->Prop}(hh:A.handled=none) (D:ZipApart z TI TO i1 i2 l1 l2) (hz:IsZip s.heap z TI TO .none) (hTI:IsPair s.heap TI (.ref i1) (.ref i2)) (hTO:∃a b,IsPair s.heap TO a b) (h1:s.heap.IsListIter i1 l1 0) (h2:s.heap.IsListIter i2 l2 0) (hl1:s.heap.IsList l1 us.toArray) (hl2:s.heap.IsList l2 ws.toArray)
  (hk:∀(j:Nat) (u:Value),us[j]?=some u->∃k,ks[j]?=some k/\knd.is k u=true) (hlen:us.length=ws.length) (hsz:us.length<=sizeLine)
  (h:∀h' tk,h'.DictOf knd s.heap.objs.size (fz ks ws us.length)->(∀b o,b≠z->b≠TO->b≠i1->b≠i2->s.heap.get? b=some o->h'.get? b=some o)->Q (.ref s.heap.objs.size) { s with heap:=h',toks:=tk }) :
  wpAny (model prog w) A (call (.type "dict") [.ref z]) Q E s:=by
 refine callType_codes (Q₁:=fun obj s₁=>obj = .ref s.heap.objs.size/\s₁={ s with heap:=s.heap.push { cls:=.type "dict", data:=.dict #[] } }) F.kt_called_dict (F.kt_typeCall_dict_1 _) F.entry_dict_init (kt_code_dict_new _ ⟨rfl,rfl⟩) ?_
 rintro obj s₁ ⟨rfl,rfl⟩;have hnew:(s.heap.push { cls:=.type "dict", data:=.dict #[] }).DictOf knd s.heap.objs.size []:=WE.new s.heap;refine⟨hnew.typeIs,F.args_dict_init_2 _ _,?_⟩;have up:∀b o,s.heap.get? b=some o->(s.heap.push { cls:=.type "dict", data:=.dict #[] }).get? b=some o:=fun b o e=>Rr _ e
 have hT:Shared.TypeIs { s with heap:=s.heap.push { cls:=.type "dict", data:=.dict #[] } } (.ref z) "zip" := ⟨_,up _ _ hz,rfl⟩
 unfold Builtin.«dict.__init__»;refine wpAny_bind ?_;unfold Builtin.Dict.selfAndRest;refine wpAny_bind (wpAny_notOrdered_dict hnew.typeIs ?_);show wpAny _ _ (pure (s.heap.objs.size,[S8 z])) _ _ _;refine wpAny_pure ?_;show wpAny _ _ (Builtin.Dict.updateFrom "dict.__init__" s.heap.objs.size (.ref z) [] .none) _ _ _;unfold Builtin.Dict.updateFrom;refine wpAny_bind (wpAny_typeOf hT ?_);rw[if_pos (by decide)]
 refine wpAny_bind (Hj (up _ _ hz) (by simp[hh]) fun h3 tk3 kp3=>?_)
 rw[if_pos (by rfl)]
 refine wpAny_bind (wpAny_rule ?_);have kp:∀b o,s.heap.get? b=some o->h3.get? b=some o:=fun b o e=>kp3 b o (up b o e)
 refine wpAny_bind (wpAny_pyIter_zip (kp _ _ hz) ?_);obtain⟨ta,tb,hTO⟩:=hTO;have lt:∀c∈[z,TI,TO,i1,i2,l1,l2],c≠s.heap.objs.size:=fun c hc=>by
  refine RI ?_;simp only[Rl,Vs,or_false]at hc;rcases hc with rfl|rfl|rfl|rfl|rfl|rfl|rfl
  .exact Ro hz
  .exact Ro hTI
  .exact Ro hTO
  .obtain ⟨_,q,_⟩:=h1;exact Ro q
  .obtain ⟨_,q,_⟩:=h2;exact Ro q
  .obtain ⟨_,q,_⟩:=hl1;exact Ro q
  .obtain ⟨_,q,_⟩:=hl2;exact Ro q
 have dd3:h3.DictOf knd s.heap.objs.size (fz ks ws 0):=by
  obtain⟨o,es,ep,ho,r⟩:=hnew;exact⟨o,es,ep,kp3 _ _ ho,r⟩
 refine wpAny_pure ⟨plainId_quiet mB _,Iw (by simp[hh]) D lt hk hlen hsz us.length 0 0 _ (WB _) (Sl _) ⟨.inl (kp _ _ hz),kp _ _ hTI,⟨_,_,kp _ _ hTO⟩,h1.at fun o e=>kp _ o e,h2.at fun o e=>kp _ o e,hl1.at fun o e=>kp _ o e,hl2.at fun o e=>kp _ o e⟩ dd3 fun h4 tk4 dd4 kp4=>⟨rfl,h h4 tk4 dd4 fun b o b1 b2 b3 b4 e=>kp4 b o b1 b2 b3 b4 (RI (Ro e)) (kp b o e)⟩⟩
end
end Mo
namespace Mr
open PySem PySem.W PySem.Spec PyProof.Rows L2 Mo
def fv(ns ms:List Int):List (aN×V):=(ns.zip ms).foldl (fun m p=>iN m (.inl p.1) (.int p.2)) []
theorem Bc:∀(ns ms:List Int) (ws:List Value) (m:List (aN×V)) (m':List (aN×Value)),bo (ms.map V.int) ws->KV m m'->KV ((ns.zip ms).foldl (fun m p=>iN m (.inl p.1) (.int p.2)) m) (((ns.map RF).zip ws).foldl (fun(m:List (aN×Value)) p=>stored m p.1 p.2) m')
 | [],ms,ws,m,m',_,h=>by simpa using h
 |n::ns,[],ws,m,m',hv,h=>by
  cases hv;simpa using h
 |n::ns,k::ms,ws,m,m',hv,h=>by
  cases hv with
  |cons r t =>
   rw[Ru,Vd,Vd,Ss,Ss];exact Bc ns ms _ _ _ t (h.put _ r)
theorem Mb(ns ms:List Int):(fv ns ms).length<=ns.length:=by
 have key:∀(l:List (Int×Int)) (m:List (aN×V)),(l.foldl (fun m p=>iN m (.inl p.1) (.int p.2)) m).length<=m.length+l.length:=by
  intro l
  induction l with
  |nil=>exact fun m=>Rk _
  |cons p l ih =>
   intro m;have:=ih (iN m (.inl p.1) (.int p.2));have:=iW m (RF p.1) (V.int p.2);rw[Ss,lCq];lia
 have:=key (ns.zip ms) [];rw[TU,VC]at this;unfold fv;lia
section
variable {X:Cx}
def Qu(K:W.Frag) (xs:List V) (H:Hp) (Q:VK):Prop:=∃a b ns ms,xs=[.ref a,.ref b]/\dZ K H a (ns.map V.int)/\dZ K H b (ms.map V.int)/\ns.length=ms.length/\∀l,H l=none->Q (.ref l) (cI H l (.dK (fv ns ms)))
theorem N4{e f:Expr}{ta:TA}{p0 p pos0 pos:Pos}(hc:X.calm=true) (gl:Gl X "dict") (ml:X.mg "dict" = none) (hg:Gl X "zip") (hm:X.mg "zip" = none) (ha:PA X [e,f] ta)
  (he:starEach [.Call (.Name "zip" p) [e,f] [] pos] X.env=(false,eval (.Call (.Name "zip" p) [e,f] [] pos) X.env)::starEach [] X.env:=by rfl) (hs:starEach [e,f] X.env=[(false,eval e X.env),(false,eval f X.env)]:=by rfl) (hs2:starEach [f] X.env=[(false,eval f X.env)]:=by rfl) :
  PE X (.Call (.Name "dict" p0) [.Call (.Name "zip" p) [e,f] [] pos] [] pos0) (Jj (Qu X.K) ta):=by
 intro aa s σ H Q I h;refine wpAny_Call_Name_kw (nq I gl ml boot_dict ?_ (by decide) (by decide))
 refine Ta ?_ he (by rfl)
 rw[he];show wpAny _ _ (spliced ((false,eval (.Call (.Name "zip" p) [e,f] [] pos) X.env)::backTo pos0 (starEach [] X.env))) _ _ s;refine Calls.spliced_cons ?_;refine Call_ (nq I hg hm boot_zip (Ta (dY (ha pos aa s σ H _ I h) fun us s1 hz1=>?_) (by rw[hs,hs2]) (by rw[hs2];rfl)))
 obtain⟨vs,H1,I1,r1,q1⟩:=hz1;obtain⟨a,b,ns,ms,e1,hq1,hq2,hl,q⟩:=q1;subst e1;obtain⟨u,v,rfl,ru,rv⟩:=JP r1;cases ru;cases rv;obtain⟨its1,v1,p1,z1⟩:=I1.list hq1;obtain⟨its2,v2,p2,z2⟩:=I1.list hq2;have n1:=v1.length;have n2:=v2.length;rw[lMq]at n1 n2 z1;have al:a<s1.heap.objs.size:=let ⟨_,ho,_⟩:=p1.isList;Ro ho
 have bl:b<s1.heap.objs.size:=let ⟨_,ho,_⟩:=p2.isList;Ro ho
 refine call_zip_2 p1.isList p2.isList fun g hz hTI hTO h1 h2 hsz hk=>Calls.spliced_nil ?_
 have zD:=MY s1.heap.objs.size;have D:ZipApart (s1.heap.objs.size+4) (s1.heap.objs.size+2) (s1.heap.objs.size+3) s1.heap.objs.size (s1.heap.objs.size+1) a b:=zipApart_new al bl;refine Ij (s:={ s1 with heap:=g }) (knd:=bZ X.prog X.w) (ks:=ns.map RF) (I1.ok.hd hc) D hz hTI ⟨_,_,hTO⟩ h1 h2 (p1.isList.at fun o e=>hk _ o e) (p2.isList.at fun o e=>hk _ o e) (fun j u hu=>?_) (by lia) (by lia) fun h' tk dd kp=>?_
 .have hj:j<ns.length:=by have:=(gSq.mp hu).1;lia
  obtain⟨u',hu',ru⟩:=v1.get (i:=j) (x:=.int ns[j]) (by rw[gMq,gEg hj];rfl)
  rw[hu]at hu';cases hu';obtain⟨t,rfl⟩:=ru;exact⟨.inl ns[j],by rw[gMq,gEg hj];rfl,vh _ t⟩
 .have hsz':({ s1 with heap:=g }:Shared).heap.objs.size=s1.heap.objs.size+5:=hsz
  rw[hsz']at dd;have kv:KV (fv ns ms) (fz (ns.map RF) its2 its1.length):=by
   have:=Bc ns ms its2 [] [] v2 .nil;unfold fz;rw[S0 (by rw[VC,lMq];lia)]
   exact this
  refine⟨.ref (s1.heap.objs.size+5),cI H1 (s1.heap.objs.size+5) (.dK (fv ns ms)),I1.laid (t':=tk) (fun b o e=>?_) (Wi _ _) (Ar (by have:=Mb ns ms;lia) (beq_eq_false_iff_ne.mpr (Tf (US 5 I1.big))) kv dd),by rw[hsz'];rfl,q _ (I1.hok.fresh (Wi _ _))⟩
  have lt:b<s1.heap.objs.size:=Ro e;exact kp b o (RI (US 4 lt)) (RI (US 3 lt)) (RI lt) (RI (US 1 lt)) (hk b o e)
end
end Mr
namespace Z
open PySem L2 Mr
def dz(ns ms:List Int):List (aN×D):=(ns.zip ms).foldl (fun m p=>jL m (.inl p.1) (.int p.2)) []
def Ik:List D->Option (List (aN×D))
 | [.list as,.list bs]=>(dA as).bind fun ns=>(dA bs).bind fun ms=>if ns.length=ms.length then some (dz ns ms) else none
 |_=>none
def Pb(m:ML):MK:=fun S=>(m S).bind fun x=>(Ik x.1).map fun kvs=>(.owd kvs,x.2)
theorem PQ(m:ML) (S:AS):Pb m S=(m S).bind fun x=>(Ik x.1).map fun kvs=>(.owd kvs,x.2):=rfl
theorem DG{ns ms:List Int}(h:ns.length=ms.length):Ik [.list (ns.map D.int),.list (ms.map D.int)]=some (dz ns ms):=by
 show ((dA (ns.map D.int)).bind fun ns=>(dA (ms.map D.int)).bind fun ms=>if ns.length=ms.length then some (dz ns ms) else none)=_
 rw[fS,fS];simp[h]
section
variable {K:W.Frag}{ta:TA}{m:ML}
theorem Km{Hf:Hp}(ns ms:List Int):eN K Hf (dz ns ms) (fv ns ms):=by
 have key:∀(l:List (Int×Int)) (d:List (aN×D)) (k:List (aN×V)),eN K Hf d k->eN K Hf (l.foldl (fun m p=>jL m (.inl p.1) (.int p.2)) d) (l.foldl (fun m p=>iN m (.inl p.1) (.int p.2)) k):=by
  intro l
  induction l with
  |nil=>exact fun d k h=>h
  |cons p l ih=>exact fun d k h=>ih _ _ (yG h .int)
 exact key _ _ _ ⟨rfl,fun i d v h=>by simp at h⟩
theorem NO(hm:Il K ta m):SK K (Jj (Qu K) ta) (Pb m):=by
 intro H₀ Hf₀ Hf S σ H Fs av S' R e Q q;obtain⟨x,e1,e⟩:=oBq.mp e;obtain⟨kvs,e2,e⟩:=oMq.mp e;cases e;refine hm R (ds:=x.1) (S':=x.2) e1 _ fun Hf1 H1 Fs1 vs t1 R1 r1=>?_
 have sh:∃ns ms,x.1=[.list (ns.map D.int),.list (ms.map D.int)]/\ns.length=ms.length/\kvs=dz ns ms:=by
  unfold Ik at e2;split at e2
  .rename_i as bs hx;obtain⟨ns,f1,f2⟩:=oBq.mp e2;obtain⟨ms,f3,f4⟩:=oBq.mp f2;split at f4
   .rename_i hl;cases f4;exact⟨ns,ms,by rw[hx,gT f1,gT f3],hl,rfl⟩
   .cases f4
  .cases e2
 obtain⟨ns,ms,hx,hl,rfl⟩:=sh;rw[hx]at r1;obtain⟨va,w1,rfl,ra,r2⟩:=r1.cons_inv;obtain⟨vb,w2,rfl,rb,r3⟩:=r2.cons_inv;have:=r3.nil_inv;subst this;obtain⟨a,us1,rfl,g1,g2⟩:=ra.list_inv;obtain⟨b,us2,rfl,g3,g4⟩:=rb.list_inv;have u1:=dN g2;have u2:=dN g4;subst u1;subst u2;refine⟨a,b,ns,ms,rfl,dZ.of g1,dZ.of g3,hl,fun l hn=>?_⟩
 obtain⟨t4,R4,n1,n2,n3⟩:=R1.new (o:=.dK (fv ns ms)) hn;exact q _ _ _ (.ref l) [l] (t1.trans t4) R4 (.owd aU n1 (Km ns ms)) ((kR.one R1 hn).back t1)
end
end Z
namespace Mr
open PySem PySem.Calls PySem.Spec PyProof.Rows L2
open PySem.MeetsSeq (size_erased plain_remove_loop entry_remove_loop)
end Mr
namespace Z
open PySem L2 Mr Xe
def Np(i:Nat) (b:ME):MS:=fun S=>(cu S i).bind fun _=>(b S).bind fun y=>(Ov y.1).bind fun es=>(dA es).bind fun r=>(cu y.2 i).bind fun avs=>(wg (avs.map aA)).bind fun rs=>(avs[rs.idxOf r]?.bind J3).bind fun _=>if r∈rs then some (.nx (y.2.set i (some (.ow (avs.eraseIdx (rs.idxOf r)))))) else none
def P8:AV->Option (List D)
 | .sh (.tup ds)=>some ds
 |_=>none
def Pz(k:MK) (lo hi:MO):MK:=fun S=>(k S).bind fun x=>(P8 x.1).bind fun ds=>(lo x.2).bind fun y=>(hi y.2).bind fun z=>if HT.uD ds.length 0 y.1=0/\HT.uD ds.length ds.length z.1=ds.length then none else some (.sh (.tup (lg ds y.1 z.1)),z.2)
def Nl(i:Nat) (m:ME):MS:=fun S=>(m S).map fun x=>.nx (x.2.set i (some (.ow [.sh x.1])))
end Z
namespace Mr
open PySem L2
end Mr
namespace Mr
open PySem PySem.Spec PyProof.Rows L2
end Mr
namespace Z
open PySem L2 Mr Xe
end Z
namespace Xe
open PySem PySem.Spec PySem.W PyProof.Rows L2 Mr
end Xe
namespace Z
open PySem L2 Mr Xe
end Z
namespace Mr
open PySem PySem.Spec PyProof.Rows L2
end Mr
namespace Ms
open PySem
end Ms
namespace Ms
open PySem PyProof.Rows Mr
def Pq(F:List Int) (k:Int):List Int:=if k∈F then F else F++[k]
def dd(ns:List Int):List Int:=ns.foldl Pq []
def SA(h:Heap) (a:Addr) (es:Array (Int×Value)) (ep:Nat) (t:SetTable):Prop:=∃o,h.get? a=some o/\o.ExactSet/\o.data = .set es ep t
end Ms
namespace Ms
open PySem PySem.W PyProof.Rows Mr MrS
end Ms
namespace Z
open PySem L2 Mr Xe
def pairsOf:List D->Option (List (D×D))
 | []=>some []
 | .tup [a,b]::r=>(pairsOf r).map ((a,b) :: ·)
 |_=>none
end Z
namespace Mr
open PySem PySem.Spec PyProof.Rows L2
end Mr
namespace Z
open PySem L2 Mr
end Z
namespace Mr
open PySem PySem.Spec PyProof.Rows L2
end Mr
namespace Z
open PySem L2 Mr
end Z
namespace Z
open PySem L2 Mr Xe
variable {K:W.Frag}{t u:TS}{m m':MS}{te:TE}{k:MK}{J:List Nat}
variable {K:W.Frag}{t v:TS}
end Z
namespace Mr
open PySem L2
variable {K:W.Frag}{h:Heap}{mg:Str->Option Value}{x z:Str}{st:Stmt}{f O:Addr}{fd:FuncData}
structure At (K:W.Frag) (x:Str) (st:Stmt) (f:Addr) (fd:FuncData):Prop where
 a:W.nsIn K mainGlobals x=some (some (.ref f))
 F:Kh K x x st f fd
section
variable {oc kV doc pm gm ct:Value}{od an:Option Addr}{osl:Array (Option Value)}
theorem MW(a:W.nsIn K mainGlobals x=some (some (.ref f))) (l:K.lookup f=some ⟨oc,od,.func (W.fnOf x x (gR st) (gi st) (aF st) .none kV doc pm an gm ct),osl⟩)
  (c:W.codeIn K gm x=true) (k:W.keepIn K (.ref f)=true):At K x st f (W.fnOf x x (gR st) (gi st) (aF st) .none kV doc pm an gm ct):=⟨a,Ae l c k⟩
end
abbrev BA(x q:Str) (st:Stmt) (ps:List Str) (us:List Value):Prop:=∀(kV doc pm:Value) (an:Option Addr) (gm ct:Value),bindArgs (W.fnOf x q (gR st) (gi st) (aF st) .none kV doc pm an gm ct) ⟨us,[]⟩=pure (ps.zip us)
section
variable {q a b c d:Str}(F:Kh K x q st f fd)
include F
theorem b1(h:∀u,BA x q st [a] [u]):mP K fd [a] []:=F.binds fun _ _ _ _ _ _ us hl=>by
 obtain - | ⟨u, - | ⟨v,l⟩⟩:=us <;> cases hl
 apply h
theorem b2(h:∀u v,BA x q st [a,b] [u,v]):mP K fd [a,b] []:=F.binds fun _ _ _ _ _ _ us hl=>by
 obtain - | ⟨u, - | ⟨v, - | ⟨w,l⟩⟩⟩:=us <;> cases hl
 apply h
theorem b3(h:∀u v w,BA x q st [a,b,c] [u,v,w]):mP K fd [a,b,c] []:=F.binds fun _ _ _ _ _ _ us hl=>by
 obtain - | ⟨u, - | ⟨v, - | ⟨w, - | ⟨y,l⟩⟩⟩⟩:=us <;> cases hl
 apply h
end
theorem tq{ps:List Str}(X:K.In h) (G:h.Ns mainGlobals mg) (a:At K x st f fd) (b:mP K fd ps []):pK K mg x st ps f fd:=⟨a.F,W.mg_of X G a.a,b⟩
end Mr
namespace Zl
open PySem L2 Mr Z
def CB:MS:=(bw (kSc (uA (aR Dy (af 0) (rC (.int 0))) (aR Kv (dD PV (ae (af 0) ak)) (aR qX (rC (.int 10)) (rC (.int 60)))))))
def FZ:MF:=cL 1 1 CB
def qk:MS:=(ao (jt (cD (aR qA (dD bS (ae (af 0) ak)) (rC (.int 0)))) (bw (dW aG)) bh)
 (ao (aC 1 (kSc (OV "list" tU (af 0) (ae (dD GS (ae (af 0) ak)) ak))))
 (bw (AL (lOf (Fe (eU 0) (jd (af 1)) mS)) (lOf (Fe (eU 0) mS (jd (af 1))))))))
def iG:MF:=cL 1 2 qk
def ik:MS:=(C0 1 (uF 2))
def pB:MS:=(ao (aC 1 (dW aG))
 (ao (jF 2 (ay 0) ik)
 (bw (mE 1))))
def cR:MF:=cL 1 3 pB
def kr:MS:=(ao (jt (cD (aR Kv (af 1) (dD bS (ae (af 0) ak)))) (bw (kSc (aR zB (af 0) (af 1)))) bh)
 (bw (kSc (rC (.int 0)))))
def aB:MF:=cL 2 2 kr
def jG:MS:=(bw (rO (dg (iJ (ay 0)) [] cX (aM Zl.iG (ar (ay 0) aG)))))
def aT:MF:=cL 1 1 jG
def mC:MX:=(NA (fJ (cD (bE Zl.FZ (ae (af 1) ak)))) (zK "NoEnd" "end" (ae (af 1) ak)) (Dh bh))
def ou:MX:=(LU 1 (ay 0) mC)
def qa:Fz:=Ck 1 2 ou
def mW:MX:=(qZ (NA (cD (PD (af 2) (af 1))) (zK "Twice" "end" (ae (af 2) ak)) (Dh bh)) (Dh (il 1 (af 2) (kSc (rC (.bl true))))))
def pT:MX:=(qZ (Dh (aC 1 hX))
 (LU 2 (ay 0) mW))
def qU:Fz:=Ck 1 3 pT
def ox:MS:=(il 1 (af 2) (kSc (rC (.bl true))))
def oD:MX:=(NA (cD (cY (qD gD (af 2)) (af 1))) (zK "Lone" "end" (ae (af 2) ak)) (Dh bh))
def ri:MX:=(qZ (Dh (aC 1 hX))
 (qZ (Dh (jF 2 (ay 0) ox))
 (LU 2 (ay 0) oD)))
def uy:Fz:=Ck 1 3 ri
def mF:MX:=(qZ (NA (cD (aR uE (dD bS (ae (rOf (aM Zl.cR (ar (ay 0) aG))) ak)) (rC (.int 128)))) (Bf "TooMany") (Dh bh))
 (NA (cD (aR uE (Nd (af 0)) (rC (.int 128)))) (Bf "TooMany") (Dh bh)))
def nS:Fz:=Ck 1 1 mF
def yI:MX:=(qZ (Dh (aC 1 (aM Zl.cR (ar (ay 0) aG))))
 (qZ (Bx Zl.qa (ar (ay 1) aG))
 (qZ (Bx Zl.qU (ar (ay 1) aG))
 (qZ (Bx Zl.uy (ar (ay 1) aG))
 (qZ (Bx Zl.nS (ar (ay 0) aG))
 (Dh (bw (aM Zl.aT (ar (ay 0) aG)))))))))
def AZ:Fz:=Ck 1 2 yI
def sN:MS:=(bw (tS (lOf (aM Zl.cR (ar (ay 0) aG)))))
def gZ:MF:=cL 1 1 sN
def qI:MS:=(bw (dg (iJ (aM Zl.gZ (ar (ay 0) aG))) [] (cD (aR uE (af 0) (rC (.int 0)))) (ay 0)))
def eW:MF:=cL 1 1 qI
def iH:MS:=(il 1 (af 4) (ay 2))
def iq:MS:=(jF 4 (ay 3) iH)
def oa:MS:=(ao (aC 1 hX)
 (ao (EJ 2 3 (ay 0) iq)
 (bw (mE 1))))
def dU:MF:=cL 1 5 oa
theorem kC(ns:List Int) {k:Int}(h:0<=k):aB [.scr ns,.int k]=some (.sh (.int (cell ns k.toNat))):=by
 by_cases c:k<(ns.length:Int)
 .have hk:k.toNat<ns.length:=by lia
  have e:ns.getD k.toNat 0=ns[k.toNat]:=iS hk
  simp_arith [aB,kr,c,Bb h,gEg hk,cell,e]
 .have hk:ns.length<=k.toNat:=by lia
  have e:ns.getD k.toNat 0=0:=by rw[gDq,Se hk];rfl
  simp_arith [aB,kr,c,cell,e]
theorem Dp{n:Int}{ns:List Int}:ns.foldl min n∈n::ns/\∀x∈n::ns,ns.foldl min n<=x:=⟨jn ns n,fun x hx=>(Rl.mp hx).elim (fun e=>e ▸ (gQ ns n).1) ((gQ ns n).2 x)⟩
theorem Dc{ns:List Int}(hl:ns.length<=500000):iG [dI ns]=some (aI (good ns)):=by
 cases ns with
 |nil =>
  have h1:((0:Nat):Int)=0:=rfl
  simp_arith [iG,qk,h1]
  rfl
 |cons n ns =>
  obtain⟨h1,h2⟩:=Dp (n:=n) (ns:=ns);have e:=qQ h1 h2;have hle:=zg (n::ns);have hne:¬ ((n::ns).length:Int)=0:=by simp only[lCq];lia
  have hm:GS [dI (n::ns)]=some (.int (ns.foldl min n)):=by
   show (dA ((n::ns).map D.int)).bind (fun ns=>(Be ns).map D.int)=_
   rw[fS];rfl
  have hx:tU (dI (n::ns)) [.int (ns.foldl min n)]=some (.int (bC (n::ns) (n::ns).length:Nat)):=by
   show (dA ((n::ns).map D.int)).bind _=_;rw[fS];show (if _ then _ else _)=_
   rw[if_pos h1,e]
  generalize hN:n::ns=N at *;have hlen:(N.drop (bC N N.length)).length+(N.take (bC N N.length)).length<=cZ:=by rw[RL,lTq];show _<=16777216;lia
  simp_arith [iG,qk,hne,hm,hx,jQ,vX N _ hle,vp N _ hle,hlen,←mBq,wZ]
  rfl
theorem cS{rs:List (List Int)}{i:Nat}{r:List Int}(h:rs[i]?=some r):(rs.take (i+1)).flatten=(rs.take i).flatten++r:=by
 rw[TZ,h,fAq];simp
theorem eT(rs:List (List Int)) (i:Nat):(rs.take i).flatten.length<=rs.flatten.length:=by
 have:=congrArg S6 (congrArg List.flatten (R5 i rs));rw[fAq,lAq]at this;lia
theorem rp{rs:List (List Int)}{i:Nat}{d:D}(h:(rs.map dI)[i]?=some d):∃r,rs[i]?=some r/\d=dI r:=by
 rw[gMq]at h;obtain⟨r,h1,h2⟩:=oMq.mp h;exact⟨r,h1,h2.symm⟩
theorem wH{ns:List Int}{i:Nat}{d:D}(h:(ns.map D.int)[i]?=some d):∃z,ns[i]?=some z/\d = .int z:=by
 rw[gMq]at h;obtain⟨r,h1,h2⟩:=oMq.mp h;exact⟨r,h1,h2.symm⟩
theorem Jg{rs:List (List Int)}(hl:rs.flatten.length<=500000):cR [dM rs]=some (aI rs.flatten):=by
 have key:=fk (x:=2) (body:=ik) (fun i S=>∃v,S=[some (.sh (dM rs)),some (aI (rs.take i).flatten),v]) (ds:=rs.map dI) (S:=[some (.sh (dM rs)),some (.ow []),none]) ⟨none,by simp⟩ (by
  rintro i d S hd ⟨v,rfl⟩;obtain⟨r,hr,rfl⟩:=rp hd;have h1:=cS hr;have h2:=eT rs (i+1);rw[h1,lAq]at h2;have h3:(rs.take i).flatten.length+r.length<=cZ:=by show _<=16777216;lia
  refine⟨_,?_,some (.sh (dI r)),rfl⟩;rw[h1]
  simp_arith [ik,h3,wZ,←mBq])
 obtain⟨S',e,v,rfl⟩:=key;rw[lMq,RY]at e
 simp_arith [cR,pB,e]
theorem wK{rs:List (List Int)}{d:D}(h:d∈rs.map dI):∃r∈rs,d=dI r:=by
 obtain⟨r,h1,h2⟩:=mMq.mp h;exact⟨r,h1,h2.symm⟩
def nJ:D->List Int
 | .list ds=>(dA ds).getD []
 |_=>[]
theorem iZ(r:List Int):nJ (dI r)=r:=by
 show (dA (r.map D.int)).getD []=r;rw[fS];rfl
theorem tE{β:Type}(g:List Int->β) (rs:List (List Int)):(rs.map dI).map (fun d=>g (nJ d))=rs.map g:=by
 rw[mPq];exact mCq fun r _=>by show g (nJ (dI r))=g r;rw[iZ]
theorem xK{rs:List (List Int)}(hl:∀r∈rs,r.length<=500000):cE cX (aM iG (ar (ay 0) aG)) [] (rs.map dI)=some ((rs.map good).map aI):=by
 rw[fi (fun d=>aI (good (nJ d)))]
 .rw [tE (fun r=>aI (good r)),mPq]
  rfl
 .intro d hd;obtain⟨r,hr,rfl⟩:=wK hd;refine⟨[some (.sh (dI r))],?_⟩
  simp_arith [Dc (hl r hr),iZ]
theorem NG{ts:List (List Int)}{a:Nat}(h:a<ts.length):atI (ts.map dI) (a:Int)=some (dI (ts.getD a [])):=by
 rw[Jo,Bb (by lia),Tv,gDq,gEg h]
 rfl
theorem jH{rs:List (List Int)}(hl:∀r∈rs,r.length<=500000) (h7:rs.length<=cZ):aT [dM rs]=some (.ow ((dw (rs.map good)).map aI)):=by
 have h6:=xK (rs:=rs) hl
 simp_arith [aT,jG,h6,h7]
end Zl
--ZQ3 --ZQ4
namespace Zl
open PySem L2 Mr Z Xe
def bare(rs:List (List Int)):Nat:=rs.countP (·=([]:List Int))
section
variable {rs:List (List Int)}(hl:rs.flatten.length<=500000)
include hl
end
theorem vw(rs:List (List Int)):(dw (rs.map good)).flatten.Perm rs.flatten:=(dq (aV _)).trans (bI aY rs)
theorem Dk(r:List Int) (h:r.Nodup):good (good r)=good r:=xq h _
theorem nA{T:List (List Int)}(h:T.flatten.Nodup):dw ((dw (T.map good)).map good)=dw (T.map good):=by
 have q:(dw (T.map good)).map good=dw (T.map good):=by
  have:∀r∈dw (T.map good),good r=r:=fun r hr=>by
   obtain⟨s,hs,rfl⟩:=mMq.mp ((aV _).mem_iff.mp hr);exact Dk s (DN h hs)
  exact(mCq this).trans (TR _)
 rw[q];exact(AU (.refl _) (nI _)).symm
end Zl
namespace Zl
open PySem L2 Mr Z
theorem Bj{rs:List (List Int)}(hl:rs.flatten.length<=500000):gZ [dM rs]=some (aI (bV rs.flatten)):=by
 simp_arith [gZ,sN,Jg hl]
theorem FI(ns:List Int):cE (cD (aR uE (af 0) (rC (.int 0)))) (ay 0) [] (ns.map D.int)=some ((ns.filter fun z=>decide (0<z)).map fun n=>.sh (.int n)):=by
 rw[Z.eY (fun d=>match d with|.int z=>decide (0<z)|_=>false) (fun d=>.sh d)]
 .rw [Uw,mPq];rfl
 .intro d hd;obtain⟨z,hz,rfl⟩:=mMq.mp hd;refine⟨[some (.sh (.int z))],?_,fun _=>⟨[some (.sh (.int z))],?_⟩⟩
  .simp_arith []
  .simp_arith []
theorem G9{rs:List (List Int)}(hl:rs.flatten.length<=500000):eW [dM rs]=some (aI ((bV rs.flatten).filter fun z=>decide (0<z))):=by
 have h1:(bV rs.flatten).length<=cZ:=kx (by rw[(cJ _).length_eq];lia)
 simp_arith [eW,qI,Bj hl,h1,FI]
def gv(p:Nat) (r:List Int):List (aN×D):=r.map fun e=>(.inl e,.int (p:Int))
def bW:Nat->List (List Int)->List (aN×D)
 |_,[]=>[]
 |p,r::rs=>gv p r++bW (p+1) rs
theorem qG(r:List Int):∀(rs:List (List Int)) (p:Nat),bW p (rs++[r])=bW p rs++gv (p+rs.length) r
 | [],p=>by simp[bW]
 |s::rs,p=>by
  show gv p s++bW (p+1) (rs++[r])=(gv p s++bW (p+1) rs)++_;rw[qG r rs (p+1),Rn,lCq,show p+1+rs.length=p+(rs.length+1) by lia]
theorem ly:∀(rs:List (List Int)) (p:Nat),(bW p rs).map (·.1)=rs.flatten.map RF
 | [],p=>rfl
 |r::rs,p=>by
  show (gv p r++bW (p+1) rs).map (·.1)=_;rw[mBq,ly rs (p+1),fCq,mBq];congr 1;unfold gv;rw[mPq];rfl
theorem Ac(rs:List (List Int)) (p:Nat):(bW p rs).length=rs.flatten.length:=by
 have:=congrArg S6 (ly rs p)
 rwa [lMq,lMq]at this
theorem oE{kvs:List (aN×D)}{k:aN}{d:D}(h:k∉kvs.map (·.1)):jL kvs k d=kvs++[(k,d)]:=by
 unfold jL;rw[if_neg];intro e;obtain⟨kv,hk,e⟩:=Vu.mp e;exact h (mMq.mpr ⟨kv,hk,of_decide_eq_true e⟩)
theorem getD_app{k:aN}:∀{a b:List (aN×D)},k∉a.map (·.1)->Z.getD (a++b) k=Z.getD b k
 | [],b,_=>rfl
 |x::a,b,h=>by
  unfold Z.getD;rw[TK,TL (by
   intro e;exact h (by rw[←of_decide_eq_true e];simp))]
  exact getD_app (k:=k) (a:=a) (b:=b) fun m=>h (by simp only[Ru,Rl];exact .inr m)
theorem yg{p:Nat}{e:Int}{b:List (aN×D)}:∀{r:List Int},e∈r->Z.getD (gv p r++b) (.inl e)=some (.int p)
 | [],h=>by cases h
 |x::r,h=>by
  unfold Z.getD;show ((((RF x:aN),D.int (p:Int))::(gv p r++b)).find? _).map _=_
  by_cases c:x=e
  .subst c;rw[Uh (by simp)]
   rfl
  .rw [TL (by simp[c])]
   exact yg (r:=r) ((Rl.mp h).resolve_left fun z=>c z.symm)
theorem ki{e:Int}{r:List Int}:∀{rs:List (List Int)}{i:Nat}(p:Nat),rs.flatten.Nodup->rs[i]?=some r->e∈r->Z.getD (bW p rs) (.inl e)=some (.int ((p+i:Nat):Int))
 | [],i,p,_,h,_=>by simp at h
 |s::rs,0,p,hn,h,he=>by
  simp at h;subst h;exact yg he
 |s::rs,i+1,p,hn,h,he=>by
  rw[fCq,nAq]at hn;have h':rs[i]?=some r:=by simpa using h
  have:=ki (rs:=rs) (i:=i) (p+1) hn.2.1 h' he;rw[show p+1+i=p+(i+1) by lia]at this
  rw[←this];refine getD_app ?_;unfold gv;rw[mPq];intro m;obtain⟨x,hx,e2⟩:=mMq.mp m;cases e2;exact hn.2.2 _ hx _ (mFq.mpr ⟨r,mGq h',he⟩) rfl
theorem om{rs:List (List Int)}(hn:rs.flatten.Nodup) (hl:rs.flatten.length<=500000):dU [dM rs]=some (.owd (bW 0 rs)):=by
 have key:=Kb (x:=2) (y:=3) (k:=0) (body:=iq) (fun i S=>∃v2 v3 v4,S=[some (.sh (dM rs)),some (.owd (bW 0 (rs.take i))),v2,v3,v4]) (ds:=rs.map dI) (S:=[some (.sh (dM rs)),some (.owd []),none,none,none]) ⟨none,none,none,rfl⟩ (by
  rintro i d S hd ⟨v2,v3,v4,rfl⟩;rw[SB];obtain⟨r,hr,rfl⟩:=rp hd;have hfl:=cS hr;have hle:=eT rs (i+1);have hi:i<rs.length:=(gSq.mp hr).1;have hnd:((rs.take i).flatten++r).Nodup:=by
   rw[←hfl];have e0:rs.flatten=(rs.take (i+1)).flatten++(rs.drop (i+1)).flatten:=by rw[←fAq,R5]
   rw[e0]at hn;exact(nAq.mp hn).1
  rw[hfl,lAq]at hle;have k2:=fk (x:=4) (body:=iH) (fun j S=>∃v4,S=[some (.sh (dM rs)),some (.owd (bW 0 (rs.take i)++gv i (r.take j))),some (.sh (.int i)),some (.sh (dI r)),v4]) (ds:=r.map D.int) (S:=[some (.sh (dM rs)),some (.owd (bW 0 (rs.take i))),some (.sh (.int i)),some (.sh (dI r)),v4]) ⟨v4,by simp[gv]⟩ (by
   rintro j d S hd ⟨v4,rfl⟩;obtain⟨z,hz,rfl⟩:=wH hd;have hj:j<r.length:=(gSq.mp hz).1;have h3:(bW 0 (rs.take i)++gv i (r.take j)).length<cZ:=Fq (by
    rw[lAq,Ac];unfold gv;rw[lMq,lTq];lia)
   have hput:jL (bW 0 (rs.take i)++gv i (r.take j)) (.inl z) (.int (i:Int))=bW 0 (rs.take i)++gv i (r.take (j+1)):=by
    rw[oE]
    .unfold gv;rw[bz hz,mBq,Rn];rfl
    .rw [mBq,ly];intro m;have e1:r.take (j+1)=r.take j++[z]:=bz hz;rcases mAq.mp m with m|m
     .obtain ⟨x,hx,e2⟩:=mMq.mp m;cases e2;exact(nAq.mp hnd).2.2 _ hx _ (mGq hz) rfl
     .unfold gv at m;rw[mPq]at m;obtain⟨x,hx,e2⟩:=mMq.mp m;cases e2;have:=RC.sublist (Sa (j+1) r) (nAq.mp hnd).2.1;rw[e1]at this;exact(nAq.mp this).2.2 _ hx _ (by simp) rfl
   refine⟨_,?_,some (.sh (.int z)),rfl⟩
   simp_arith [iH,h3,hput])
  obtain⟨S2,e2,w4,rfl⟩:=k2;rw[lMq,RY]at e2;refine⟨_,?_,some (.sh (.int i)),some (.sh (dI r)),w4,rfl⟩;rw[bz hr,qG,lTq,Ug (by lia),SB]
  simp_arith [iq,e2])
 obtain⟨S',e,v2,v3,v4,rfl⟩:=key;rw[SB,lMq,RY]at e
 simp_arith [dU,oa,e]
theorem hZ{c:MT}{body:MS}(P:AS->Prop) (μ:AS->Nat) (Qf:AS->Prop) (h:∀S,P S->∃b S1,c S=some (b,S1)/\(b=true->∃S2,body S1=some (.nx S2)/\P S2/\μ S2<μ S)/\(b=false->Qf S1)) :
  ∀(fuel:Nat) (S:AS),P S->μ S<fuel->∃S',cv c body fuel S=some (.nx S')/\Qf S'
 |0,S,_,hm=>absurd hm (Tb _)
 |n+1,S,hp,hm=>by
  obtain⟨b,S1,e1,h1,h2⟩:=h S hp;rw[Hq,e1,Option.bind_some];cases b with
  |true =>
   obtain⟨S2,e2,p2,m2⟩:=h1 rfl;rw[if_pos rfl,e2];exact hZ P μ Qf h n S2 p2 (by lia)
  |false =>
   rw[if_neg (by simp)]
   exact⟨S1,rfl,h2 rfl⟩
end Zl
--ZQ3 --ZQ4 --ZQ5 --ZQ6 --ZQ8 --ZQ9 --ZQB
namespace Zl
open PySem L2 Mr Z Xe
def addN(kn:List Nat) (t:Nat):List Nat:=if t∈kn then kn else kn++[t]
def plc(rs:List (List Int)) (e:Int):Nat:=rs.findIdx fun r=>decide (e∈r)
theorem same_place{rs:List (List Int)}(hn:rs.flatten.Nodup) {i j:Nat}{r s:List Int}{e:Int}(hi:rs[i]?=some r) (hj:rs[j]?=some s) (h1:e∈r) (h2:e∈s):i=j:=by
 have a:=ki 0 hn hi h1;have b:=ki 0 hn hj h2;rw[a]at b;have:=D.int.inj (RD.inj b);lia
theorem plc_eq{rs:List (List Int)}(hn:rs.flatten.Nodup) {i:Nat}{r:List Int}{e:Int}(hi:rs[i]?=some r) (h1:e∈r):plc rs e=i:=by
 have hl:rs.findIdx (fun r=>decide (e∈r))<rs.length:=T5 ⟨r,mGq hi,decide_eq_true h1⟩
 have h2:=UX (xs:=rs) (p:=fun r=>decide (e∈r)) (w:=hl)
 exact same_place hn (gEg hl) hi (of_decide_eq_true h2) h1
structure Mp (rs:List (List Int)):Prop where
 hn:rs.flatten.Nodup
 hl:rs.flatten.length<=1000
 hr:rs.length<=1000
 hneg:∀e∈rs.flatten, -e∈rs.flatten
theorem Mp.at{rs:List (List Int)}(h:Mp rs) {e:Int}(he:e∈rs.flatten):∃r,rs[plc rs e]?=some r/\e∈r:=by
 obtain⟨r,h1,h2⟩:=mFq.mp he;obtain⟨i,h3⟩:=Rv.mp h1;exact⟨r,by rw[plc_eq h.hn h3 h2];exact h3,h2⟩
theorem Mp.kv{rs:List (List Int)}(h:Mp rs) {e:Int}(he:e∈rs.flatten):Z.getD (bW 0 rs) (RF e)=some (.int (plc rs e:Int)):=by
 obtain⟨r,h1,h2⟩:=h.at he;have:=ki 0 h.hn h1 h2
 rwa [SB]at this
theorem Mp.lt{rs:List (List Int)}(h:Mp rs) {e:Int}(he:e∈rs.flatten):plc rs e<rs.length:=by
 obtain⟨r,h1,_⟩:=h.at he;exact(gSq.mp h1).1
theorem Mp.row{rs:List (List Int)}(h:Mp rs) {k:Nat}{r:List Int}(hk:rs[k]?=some r):r.length<=1000:=by
 have:=S5.length_le (RE (mGq hk));have:=h.hl;lia
def QN(rs:List (List Int)) (k:Nat) (ks:List Nat) (e:Int):List Nat:=if plc rs (-e)=k then ks else addN ks (plc rs (-e))
def nb(rs:List (List Int)) (k:Nat) (r:List Int):List Nat:=r.foldl (QN rs k) []
theorem CQ{α β:Type}{f:α->β->α}{a:α}{r:List β}{i:Nat}{e:β}(he:r[i]?=some e):(r.take (i+1)).foldl f a=f ((r.take i).foldl f a) e:=by
 obtain⟨hi,h2⟩:=gSq.mp he;rw[T6 hi,UI,h2];rfl
def itr(f:Int->Int):Nat->Int->Int
 |0,e=>e
 |n+1,e=>f (itr f n e)
theorem ku(f:Int->Int) (m:Nat) (e:Int):∀n:Nat,itr f (n+m) e=itr f n (itr f m e)
 |0=>by rw[SB];rfl
 |n+1=>by rw[Nat.add_right_comm];show f (itr f (n+m) e)=f (itr f n (itr f m e));rw[ku f m e n]
theorem Du:∀(l E:List Int),l.Nodup->(∀x∈l,x∈E)->l.length<=E.length
 | [],E,_,_=>Sl _
 |x::l,E,hn,h=>by
  have hn':=Rp.mp hn;have hx:=h x (Rq ..);have h2:=Du l (E.erase x) hn'.2 (fun y hy=>by
   refine(List.mem_erase_of_ne ?_).mpr (h y (mCo _ hy));intro e;exact hn'.1 (e ▸ hy))
  rw[Vo hx]at h2;have:=UK hx;rw[lCq];lia
theorem E4{p:Nat->Prop}:∀n,p n->∃m,m<=n/\p m/\∀j,j<m->¬ p j:=by
 intro n
 induction n using U0 with
 |_ n ih =>
  intro h
  by_cases c:∃j,j<n/\p j
  .obtain ⟨j,hj,pj⟩:=c;obtain⟨m,h1,h2,h3⟩:=ih j hj pj;exact⟨m,by lia,h2,h3⟩
  .exact ⟨n,Rk _,h,fun j hj pj=>c ⟨j,hj,pj⟩⟩
structure xN (f:Int->Int) (E:List Int):Prop where
 nd:E.Nodup
 to:∀e∈E,f e∈E
 inj:∀a∈E,∀b∈E,f a=f b->a=b
section
variable {f:Int->Int}{E:List Int}
theorem xN.itr_mem(h:xN f E) {e:Int}(he:e∈E):∀n,itr f n e∈E
 |0=>he
 |n+1=>h.to _ (h.itr_mem he n)
theorem xN.itr_inj(h:xN f E) {a b:Int}(ha:a∈E) (hb:b∈E):∀n,itr f n a=itr f n b->a=b
 |0,e=>e
 |n+1,e=>h.itr_inj ha hb n (h.inj _ (h.itr_mem ha n) _ (h.itr_mem hb n) e)
theorem xN.cut(h:xN f E) {e:Int}(he:e∈E) {i j:Nat}(hij:i<=j) (q:itr f i e=itr f j e):itr f (j-i) e=e:=by
 have e1:itr f j e=itr f i (itr f (j-i) e):=by rw[←ku];congr 1;lia
 rw[e1]at q;exact(h.itr_inj he (h.itr_mem he _) i q).symm
structure Cy (f:Int->Int) (e:Int) (l:List Int):Prop where
 len:1<=l.length
 get:l=(Sg l.length).map fun n=>itr f n e
 back:itr f l.length e=e
 nd:l.Nodup
theorem xN.cy(h:xN f E) {e:Int}(he:e∈E):∃l,Cy f e l/\l.length<=E.length/\∀j,0<j->j<l.length->itr f j e≠e:=by
 have hex:∃k,1<=k/\k<=E.length/\itr f k e=e:=by
  by_cases c:((Sg (E.length+1)).map fun n=>itr f n e).Nodup
  .have:=Du _ E c (fun x hx=>by obtain⟨n,_,rfl⟩:=mMq.mp hx;exact h.itr_mem he n)
   rw[lMq,R6]at this;lia
  .rw [Rw,RW]at c;have:∃i j,i<j/\j<E.length+1/\itr f i e=itr f j e:=by
    by_cases d:∃i j,i<j/\j<E.length+1/\itr f i e=itr f j e
    .exact d
    .exfalso;refine c ?_;refine RC.imp_of_mem (R:=fun a b=>a<b) (fun {a b} ha hb hab q=>d ⟨a,b,hab,Tq.mp hb,q⟩) VD
   obtain⟨i,j,hij,hj,q⟩:=this;exact⟨j-i,by lia,by lia,h.cut he (Te hij) q⟩
 obtain⟨k,h1,h2,h3⟩:=hex;obtain⟨m,m1,⟨m2,m3⟩,m4⟩:=E4 (p:=fun k=>1<=k/\itr f k e=e) k ⟨h1,h3⟩
 refine⟨(Sg m).map fun n=>itr f n e,⟨by rw[lMq,R6];exact m2,by rw[lMq,R6],by rw[lMq,R6];exact m3,?_⟩,by rw[lMq,R6];lia,fun j hj hjm q=>?_⟩
 .rw [Rw,RW];refine RC.imp_of_mem (R:=fun a b=>a<b) (fun {a b} ha hb hab q=>?_) VD
  have hb':=Tq.mp hb;exact m4 (b-a) (by lia) ⟨by lia,h.cut he (Te hab) q⟩
 .rw [lMq,R6]at hjm;exact m4 j hjm ⟨hj,q⟩
theorem Cy.at{e:Int}{l:List Int}(h:Cy f e l) {i:Nat}(hi:i<l.length):l[i]?=some (itr f i e):=by
 have e1:l[i]?=((Sg l.length).map fun n=>itr f n e)[i]?:=congrArg (fun x:List Int=>x[i]?) h.get
 rw[e1,gMq,TF hi];rfl
theorem Cy.one{e:Int}{l l':List Int}(h:Cy f e l) (h':Cy f e l'):l=l':=by
 have key:∀{l l':List Int},Cy f e l->Cy f e l'->¬ l.length<l'.length:=fun {l l'} h h' hlt=>by
  have a0:=h'.at (i:=0) (by lia)
  have a1:=h'.at (i:=l.length) hlt;rw[h.back]at a1;have:=h'.nd;have e2:=(V8 (i:=0) (j:=l.length) (by lia) this).mp (by rw[a0,a1];rfl)
  have:=h.len;lia
 have h1:=key h h';have h2:=key h' h;have hl:l.length=l'.length:=by lia
 rw[h.get,h'.get,hl]
theorem Cy.self{e:Int}{l:List Int}(h:Cy f e l):e∈l:=mGq (h.at (i:=0) (by have:=h.len;lia))
theorem Cy.rot{e:Int}{l:List Int}(h:Cy f e l) {j:Nat}(hj:j<l.length):Cy f (itr f j e) (l.drop j++l.take j):=by
 have hlen:(l.drop j++l.take j).length=l.length:=by rw[lAq,RL,lTq];lia
 refine⟨by rw[hlen];exact h.len,?_,?_,?_⟩
 .refine T1 fun i=>?_
  rw[hlen,gMq]
  by_cases hi:i<l.length
  .rw [TF hi,Td,←ku]
   by_cases hi2:i<l.length-j
   .rw [gZq (by rw[RL];exact hi2),Ud,h.at (by lia),Vy j i]
   .rw [gYq (by rw[RL];lia),RL,T7 (by lia),h.at (by lia)]
    congr 1;have e1:i+j=(i-(l.length-j))+l.length:=by lia
    rw[e1,ku,h.back]
  .rw [Se (by rw[hlen];lia),Se (by rw[R6];lia)]
   rfl
 .rw [hlen,←ku,Vy,ku,h.back]
 .exact Sb.nodup_iff.mpr (by rw[R5];exact h.nd)
theorem Cy.good{e x:Int}{l l':List Int}(h:Cy f e l) (hx:x∈l) (h':Cy f x l'):Mr.good l'=Mr.good l:=by
 obtain⟨j,hj⟩:=Rv.mp hx;have hlt:=(gSq.mp hj).1;rw[h.at hlt]at hj;have r:=h.rot hlt;rw[RD.inj hj]at r;rw[h'.one r];exact xq h.nd j
structure pE (f:Int->Int) (E:List Int) (L:List (List Int)):Prop where
 cy:∀l∈L,∃e,Cy f e l
 dj:L.flatten.Nodup
 all:∀x,x∈L.flatten↔x∈E
theorem B3:∀{L:List (List Int)},L.flatten.Nodup->L.Pairwise fun a b=>∀x∈a,∀y∈b,x≠y
 | [],_=>RC.nil
 |a::L,h=>by
  rw[fCq,nAq]at h;exact To.mpr ⟨fun b hb x hx y hy=>h.2.2 x hx y (mFq.mpr ⟨b,hb,hy⟩),B3 h.2.1⟩
theorem pE.nd{L:List (List Int)}(h:pE f E L):(L.map Mr.good).Nodup:=by
 rw[Rw,RW];have hd:=B3 h.dj;refine RC.imp_of_mem (fun {a b} ha hb hab q=>?_) hd
 obtain⟨e,c⟩:=h.cy a ha;have h1:e∈Mr.good a:=(aY a).mem_iff.mpr c.self;rw[q]at h1;exact hab e c.self e ((aY b).mem_iff.mp h1) rfl
theorem pE.sub(hf:xN f E) {L M:List (List Int)}(h:pE f E L) (h':pE f E M) {y:List Int}(hy:y∈L.map Mr.good):y∈M.map Mr.good:=by
 obtain⟨l,hl,rfl⟩:=mMq.mp hy;obtain⟨e,c⟩:=h.cy l hl;have hE:e∈E:=(h.all e).mp (mFq.mpr ⟨l,hl,c.self⟩);obtain⟨m,hm,hem⟩:=mFq.mp ((h'.all e).mpr hE);obtain⟨e',c'⟩:=h'.cy m hm;exact mMq.mpr ⟨m,hm,(c'.good hem c).symm⟩
theorem pE.perm(hf:xN f E) {L M:List (List Int)}(h:pE f E L) (h':pE f E M):(L.map Mr.good).Perm (M.map Mr.good) :=
 (Si h.nd h'.nd).mpr fun y=>⟨h.sub hf h',h'.sub hf h⟩
end
end Zl
namespace K13
open PySem L2 Mr Z Xe
def yr:MS:=(C0 1 (uF 2))
def Dt:MX:=(qZ (Dh (aC 1 (dW aG)))
 (qZ (Dh (jF 2 (ay 0) yr))
 (Qa Zl.AZ (ar (ay 1) aG))))
def uu:Fz:=Ck 1 3 Dt
def CT:MS:=(ao (jt (fJ (HM (af 0))) (bw (dW aG)) bh)
 (ao (aC 1 (kSc (OV "list" tU (af 0) (ae (dD GS (ae (af 0) ak)) ak))))
 (bw (AL (lOf (Fe (eU 0) (jd (af 1)) mS)) (lOf (Fe (eU 0) mS (jd (af 1))))))))
def DZ:MF:=cL 1 2 CT
def EV:MS:=(bw (rO (dg (iJ (ay 0)) [] cX (aM K13.DZ (ar (ay 0) aG)))))
def BZ:MF:=cL 1 1 EV
def vR(fm:MF):MS:=(jt (fJ (cD (bE fm (ae (aR MN (af 0) (af 2)) (ae (aR MN (af 1) (af 2)) ak))))) (bw (kSc (rC (.bl false)))) bh)
def zA(fm:MF):MS:=(ao (jt (AQ (cD (dD uK (ae (af 1) (ae (rC (.ty "list")) ak)))) (cD (dD uK (ae (af 1) (ae (rC (.ty "tuple")) ak))))) (ao (jt (AQ (cD (aR Dy (dD uK (ae (af 0) (ae (rC (.ty "list")) ak))) (dD uK (ae (af 1) (ae (rC (.ty "list")) ak))))) (cD (aR Dy (dD uK (ae (af 0) (ae (rC (.ty "tuple")) ak))) (dD uK (ae (af 1) (ae (rC (.ty "tuple")) ak)))))) (bw (kSc (rC (.bl false)))) bh) (ao (jt (cD (aR Dy (dD bS (ae (af 0) ak)) (dD bS (ae (af 1) ak)))) (bw (kSc (rC (.bl false)))) bh) (ao (kF 2 (ae (dD bS (ae (af 1) ak)) ak) (vR fm)) (bw (kSc (rC (.bl true))))))) bh)
 (ao (jt (cD (aR N7 (af 1) (rC .non))) (bw (kSc (aR N7 (af 0) (rC .non)))) bh)
 (ao (jt (cD (dD uK (ae (af 1) (ae (rC (.ty "str")) ak)))) (bw (kSc (uA (dD uK (ae (af 0) (ae (rC (.ty "str")) ak))) (aR qA (af 0) (af 1))))) bh)
 (bw (kSc (uA (dD uK (ae (af 0) (ae (rC (.ty "int")) ak))) (uA (E6 (dD uK (ae (af 0) (ae (rC (.ty "bool")) ak)))) (aR qA (af 0) (af 1)))))))))
def iI(fm:MF):MF:=cL 2 3 (zA fm)
def cH:MF:=(iI (iI (iI (iI Z.JX))))
end K13
namespace K51
open PySem L2 Mr Z Xe
def nP:MS:=(il 1 (af 3) (ay 4))
def nR:MS:=(Ka 3 4 (ay 2) (AL (lOf (Fe (eU 2) (jd (rC (.int 1))) mS)) (lOf (Fe (eU 2) mS (jd (rC (.int 1)))))) nP)
def yu:MS:=(ao (aC 1 hX)
 (ao (jF 2 (ay 0) nR)
 (bw (mE 1))))
def wY:MF:=cL 1 5 yu
def eD:MS:=(ao (aC 7 (kSc (fO (af 2) (qD gD (af 6))))) (jt (cD (cY (af 7) (af 3))) (ao (il 3 (af 7) (kSc (rC (.bl true)))) (gJ 4 (ay 7))) bh))
def gN:MS:=(ao (vd 5 (rW 4)) (jF 6 (KI (eU 0) (af 5)) eD))
def uv:MS:=(ao (aC 2 (aM Zl.dU (ar (ay 0) aG)))
 (ao (aC 3 (AM (af 1) (kSc (rC (.bl true)))))
 (ao (aC 4 (dW (ar (ay 1) aG)))
 (ao (cv (cD (aR uE (dD bS (ae (af 4) ak)) (rC (.int 0)))) gN 100000)
 (bw (qo (af 3)))))))
def fY:MF:=cL 2 8 uv
def jb:MS:=(il 1 (af 5) (kSc (rC (.bl true))))
def iP:MS:=(jt (cD (cY (af 3) (af 1))) (ao (aC 4 (aM K51.fY (ar (ay 0) (ar (ay 3) aG)))) (ao (jF 5 (ay 4) jb) (gJ 2 (dg (iJ (ay 4)) [0] cX (iM (lOf (KI (eU 1) (af 0)))))))) bh)
def vF:MS:=(ao (aC 1 hX)
 (ao (aC 2 (dW aG))
 (ao (kF 3 (ae (dD bS (ae (af 0) ak)) ak) iP)
 (bw (mE 2)))))
def oY:MF:=cL 1 6 vF
def uT:MS:=(bw (dg (iJ (ay 0)) [] cX (iM (eU 0))))
def jM:MF:=cL 1 1 uT
end K51
namespace K12
open PySem L2 Mr Z Xe
end K12
namespace K15
open PySem L2 Mr Z
def kJ:MS:=(il 2 (af 3) (kSc (sZ (af 1) (qD gD (af 3)))))
def uj:MS:=(ao (aC 1 (aM K51.wY (ar (ay 0) aG)))
 (ao (aC 2 hX)
 (ao (yk 3 1 kJ)
 (bw (mE 2)))))
def qc:MF:=cL 1 4 uj
def gF:MS:=(ao (gJ 2 (ay 3)) (aC 3 (kSc (fO (af 0) (af 3)))))
def mM:MS:=(ao (aC 2 (dW (ar (ay 1) aG)))
 (ao (aC 3 (kSc (fO (af 0) (af 1))))
 (ao (cv (cD (aR Dy (af 3) (af 1))) gF 100000)
 (bw (mE 2)))))
def jV:MF:=cL 2 4 mM
def jS:MS:=(il 2 (af 6) (kSc (rC (.bl true))))
def ie:MS:=(jt (cD (cY (af 4) (af 2))) (ao (aC 5 (aM K15.jV (ar (ay 1) (ar (ay 4) aG)))) (ao (jF 6 (ay 5) jS) (gJ 3 (ay 5)))) bh)
def xO:MS:=(ao (aC 1 (aM K15.qc (ar (ay 0) aG)))
 (ao (aC 2 hX)
 (ao (aC 3 (dg (iJ (ay 0)) [] (cD (aR qA (dD bS (ae (af 0) ak)) (rC (.int 0)))) (dW aG)))
 (ao (jF 4 (aM Zl.gZ (ar (ay 0) aG)) ie)
 (bw (aM Zl.aT (ar (ay 3) aG)))))))
def cP:MF:=cL 1 7 xO
def jX:MS:=(il 1 (aR zB (af 2) (af 3)) (kSc (aR zB (af 2) (aR ee (aR jv (af 3) (rC (.int 1))) (dD bS (ae (af 2) ak))))))
def kK:MS:=(kF 3 (ae (dD bS (ae (af 2) ak)) ak) jX)
def tK:MS:=(ao (aC 1 hX)
 (ao (jF 2 (ay 0) kK)
 (bw (mE 1))))
def gY:MF:=cL 1 4 tK
def mb_L_lands_0:MS:=(ao (il 2 (af 6) (kSc (rC (.bl true)))) (ao (gJ 5 (ay 6)) (aC 6 (kSc (sZ (af 1) (qD gD (af 6)))))))
def mb_L_lands_1:MS:=(jt (cD (cY (af 4) (af 2))) (ao (aC 5 (dW aG)) (ao (aC 6 (ay 4)) (ao (cv (cD (cY (af 6) (af 2))) mb_L_lands_0 100000) (gJ 3 (ay 5))))) bh)
def mf_L_lands:MS:=(ao (aC 1 (aM K15.gY (ar (ay 0) aG)))
 (ao (aC 2 hX)
 (ao (aC 3 (dg (iJ (ay 0)) [] (fJ (HM (af 0))) (dW aG)))
 (ao (yk 4 1 mb_L_lands_1)
 (bw (aM K13.BZ (ar (ay 3) aG)))))))
def f_L_lands:MF:=cL 1 7 mf_L_lands
end K15
namespace K23
open PySem L2 Mr Z Xe
def tN:MS:=(bw (dg (iJ (ay 0)) [1] (cD (aR (uL true) (af 0) (af 1))) (ay 0)))
def gV:MF:=cL 2 2 tN
end K23
namespace K31
open PySem L2 Mr Z Xe
def qi:MS:=(ao (aC 3 (kSc (rC (.int 1))))
 (ao (aC 4 (kSc (rC (.int 0))))
 (ao (jt (cD (aR uE (aR ee (af 0) (rC (.int 3))) (rC (.int 0)))) (ao (aC 3 (kSc (aR jv (rC (.int 1)) (aR ee (aR mD (af 0) (rC (.int 3))) (aR qX (rC (.int 10)) (rC (.int 40))))))) (aC 4 (kSc (aR ee (aR mD (af 1) (rC (.int 66))) (aR qX (rC (.int 10)) (rC (.int 40))))))) bh)
 (bw (kSc (aR jv (aR pX (af 3) (aR jv (aR ee (aR jv (aR pX (aR jv (rC (.int 1)) (aR ee (af 1) (rC (.int 66)))) (af 2)) (af 0)) (rC (.int 67))) (rC (.int 1)))) (af 4)))))))
def eO:MF:=cL 3 5 qi
def dr:MS:=(Ip 8 3 (N2 3 (G6 3) (aR zB (af 4) (aR kX (dD bS (ae (af 4) ak)) (rC (.int 1))))) (xr 3 (nY (cD (aR qA (aR ee (af 7) (rC (.int 4))) (rC (.int 1)))) (cD (aR uE (dD bS (ae (af 4) ak)) (rC (.int 1))))) (fun _=>(wx (rW 4))) (xr 3 (nY (cD (aR qA (aR ee (af 7) (rC (.int 4))) (rC (.int 2)))) (cD (aR uE (dD bS (ae (af 5) ak)) (rC (.int 0))))) (wB 3 (aC 9 (kSc (aR kX (dD bS (ae (af 5) ak)) (rC (.int 1))))) (wB 3 (jt (cD (af 2)) (aC 9 (kSc (aR ee (aR mD (af 7) (rC (.int 8))) (dD bS (ae (af 5) ak))))) bh) (vK 3 (gM 5 (af 9))))) (xr 3 (cD (aR uE (dD bS (ae (af 6) ak)) (rC (.int 0)))) (wB 3 (vd 10 (Ib pX (gM 6 (rC (.int 0))) (aR kX (rC (.int 1)) (aR pX (rC (.int 2)) (aR ee (aR mD (af 7) (rC (.int 4))) (rC (.int 2))))))) (fun path=>ao ((B1 3 (ay 10)) path) (jt (cD (aR qA (aR ee (af 7) (rC (.int 4))) (rC (.int 0)))) (ao (gJ 3 (dW (ar (kSc (qD gD (af 10))) aG))) (gJ 4 (kSc (aR kX (dD bS (ae (af 3) ak)) (rC (.int 1)))))) (gJ 5 (kSc (qD gD (af 10))))))) (fun _=>bh)))))
def gP:MS:=(Ad 3 (N2 3 (G6 3) (aR zB (af 4) (aR kX (dD bS (ae (af 4) ak)) (rC (.int 1))))) (rW 5))
def ud:MS:=(ao (aC 3 (dW (ar (dW aG) aG)))
 (ao (aC 4 (dW (ar (kSc (rC (.int 0))) aG)))
 (ao (aC 5 (dW aG))
 (ao (aC 6 (iM (eU 1)))
 (ao (jF 7 (ay 0) dr)
 (ao (cv (cD (aR uE (dD bS (ae (af 5) ak)) (rC (.int 0)))) gP 100000)
 (bw (mE 3))))))))
def ez:MF:=cL 3 11 ud
def qu:MS:=(ao (jt (fJ (cD (dD nO (ae (af 0) (ae (rC (.ty "list")) ak))))) (bw (kSc (rC (.bl false)))) bh)
 (bw (kSc (dD yX (ae (rOf (dg (iJ (ay 0)) [] cX (kSc (uA (dD nO (ae (af 0) (ae (rC (.ty "int")) ak))) (E6 (dD nO (ae (af 0) (ae (rC (.ty "bool")) ak)))))))) ak)))))
def fU:MF:=cL 1 1 qu
end K31
namespace K43
open PySem L2 Mr Z Xe
def jD:MS:=(ao (aC 2 (AL (uF 1) (lOf (dg (iJ (ay 1)) [] cX (kSc (qD gD (af 0)))))))
 (bw (dg (iJ (ay 0)) [2] cX (aM K23.gV (ar (ay 0) (ar (ay 1) aG))))))
def dF:MF:=cL 2 3 jD
def oN:MS:=(ao (aC 2 (aM Zl.dU (ar (ay 0) aG)))
 (bw (kSc (aR (uL true) (fO (af 2) (qD gD (af 1))) (rOf (aM K51.fY (ar (aM K43.dF (ar (ay 0) (ar (dW (ar (ay 1) aG)) aG))) (ar (kSc (fO (af 2) (af 1))) aG))))))))
def fc:MF:=cL 2 3 oN
def uC:MS:=(bw (dg (iJ (aM Zl.eW (ar (ay 0) aG))) [0] (cD (bE K43.fc (ae (af 1) (ae (af 0) ak)))) (ay 0)))
def gS:MF:=cL 1 1 uC
def DM:MS:=(ao (aC 1 (kSc (dD bS (ae (af 0) ak))))
 (ao (aC 2 (kSc (dD bS (ae (rOf (aM Zl.eW (ar (ay 0) aG))) ak))))
 (ao (aC 3 (kSc (dD bS (ae (rOf (aM K15.cP (ar (ay 0) aG))) ak))))
 (ao (aC 4 (kSc (dD bS (ae (rOf (aM K51.oY (ar (ay 0) aG))) ak))))
 (ao (aC 5 (kSc (aR mD (aR kX (aR jv (aR kX (aR pX (rC (.int 2)) (af 4)) (af 1)) (af 2)) (af 3)) (rC (.int 2)))))
 (bw (Jw (ar (ay 1) (ar (ay 2) (ar (ay 3) (ar (ay 4) (ar (ay 5) aG))))))))))))
def pD:MF:=cL 1 6 DM
end K43
namespace K44
open PySem L2 Mr Z
def mb_L_lands_0:MS:=(ao (il 2 (af 4) (ay 3)) (aC 4 (kSc (sZ (af 1) (qD gD (af 4))))))
def mb_L_lands_1:MS:=(ao (aC 4 (ay 3)) (cv (cD (cY (af 4) (af 2))) mb_L_lands_0 100000))
def mf_L_lands:MS:=(ao (aC 1 (aM K15.gY (ar (ay 0) aG)))
 (ao (aC 2 hX)
 (ao (yk 3 1 mb_L_lands_1)
 (bw (mE 2)))))
def f_L_lands:MF:=cL 1 5 mf_L_lands
def fW:MS:=(ao (aC 2 (kSc (aR jv (aR jv (af 2) (rC (.int 1))) (aR ee (af 0) (aR qX (rC (.int 10)) (rC (.int 57))))))) (ao (aC 0 (kSc (aR Bg (af 0) (aR qX (rC (.int 10)) (rC (.int 57)))))) (gJ 3 (ay 2))))
def lC:MS:=(ao (aC 2 (kSc (rC (.int 0))))
 (ao (aC 3 (dW aG))
 (ao (kF 4 (ae (af 1) ak) fW)
 (bw (mE 3)))))
def dG:MF:=cL 2 5 lC
def kH:MS:=(ao (Ek 3 (gM 2 (aR ee (af 0) (dD bS (ae (af 2) ak))))) (aC 0 (kSc (aR mD (af 0) (aR jv (dD bS (ae (af 2) ak)) (rC (.int 1)))))))
def tx:MS:=(ao (aC 2 (iM (eU 1)))
 (ao (aC 3 (dW aG))
 (ao (kF 4 (ae (dD bS (ae (af 1) ak)) ak) kH)
 (bw (mE 3)))))
def fV:MF:=cL 2 5 tx
def fg:MS:=(C0 2 (lOf (dW (ar (ay 3) (ar (kSc (qD gD (af 3))) aG)))))
def fK:MS:=(gJ 8 (kSc (fO (af 4) (aR zB (af 8) (qD gD (rC (.int 1)))))))
def ft:MS:=(il 6 (af 9) (kSc (rC (.bl true))))
def dX:MS:=(jt (cD (cY (af 7) (af 6))) (ao (aC 8 (dW (ar (ay 7) aG))) (ao (cv (cD (aR Dy (fO (af 4) (aR zB (af 8) (qD gD (rC (.int 1))))) (af 7))) fK 100000) (ao (jF 9 (ay 8) ft) (gJ 5 (ay 8))))) bh)
def oA:MS:=(ao (aC 2 (dW aG))
 (ao (jF 3 (ay 1) fg)
 (ao (aC 4 (Pb (ae (af 2) (ae (rOf (aM K44.fV (ar (ay 0) (ar (ay 2) aG)))) ak))))
 (ao (aC 5 (dW aG))
 (ao (aC 6 hX)
 (ao (jF 7 (ay 2) dX)
 (bw (mE 5))))))))
def gq:MF:=cL 2 10 oA
def jr:MS:=(ao (gJ 1 (kSc (aR ee (af 0) (rC (.int 8))))) (aC 0 (kSc (aR mD (af 0) (rC (.int 8))))))
def qM:MS:=(ao (aC 1 (dW aG))
 (ao (kF 2 (ae (rC (.int 60)) ak) jr)
 (bw (mE 1))))
def iD:MF:=cL 1 3 qM
def mf_L_any:MS:=(ao (aC 1 (kSc (bE Zl.aB (ae (af 0) (ae (rC (.int 2)) ak)))))
 (ao (aC 2 (aM K44.fV (ar (kSc (bE Zl.aB (ae (af 0) (ae (rC (.int 1)) ak)))) (ar (aM K44.dG (ar (kSc (bE Zl.aB (ae (af 0) (ae (rC (.int 0)) ak)))) (ar (kSc (rC (.int 30))) aG))) aG))))
 (ao (jt (cD (aR qA (aR ee (af 1) (rC (.int 2))) (rC (.int 1)))) (bw (aM K44.gq (ar (kSc (bE Zl.aB (ae (af 0) (ae (rC (.int 3)) ak)))) (ar (Fe (eU 2) mS (jd (aR ee (aR mD (af 1) (rC (.int 2))) (rC (.int 31))))) aG)))) bh)
 (bw (aM K31.ez (ar (aM K44.iD (ar (kSc (bE Zl.aB (ae (af 0) (ae (rC (.int 3)) ak)))) aG)) (ar (ay 2) (ar (kSc (rC (.bl false))) aG))))))))
def f_L_any:MF:=cL 1 3 mf_L_any
def G7:MS:=(ao (aC 1 (kSc (bE Zl.aB (ae (af 0) (ae (rC (.int 0)) ak)))))
 (ao (aC 2 (kSc (bE Zl.aB (ae (af 0) (ae (rC (.int 1)) ak)))))
 (ao (aC 3 (kSc (bE Zl.aB (ae (af 0) (ae (rC (.int 2)) ak)))))
 (ao (aC 4 (dg (Nb (ae (rC (.int 30)) ak)) [1,2] cX (kSc (bE K31.eO (ae (af 1) (ae (af 2) (ae (af 0) ak)))))))
 (ao (aC 5 (aM Zl.aT (ar (aM K31.ez (ar (Fe (eU 0) (jd (rC (.int 3))) (jd (rC (.int 66)))) (ar (ay 4) (ar (kSc (aR qA (aR ee (af 3) (rC (.int 2))) (rC (.int 1)))) aG)))) aG)))
 (ao (jt (cD (aR qA (aR ee (dD bS (ae (af 0) ak)) (rC (.int 2))) (rC (.int 0)))) (aC 5 (aM Zl.aT (ar (aM K44.f_L_any (ar (ay 0) aG)) aG))) bh)
 (ao (aC 6 (aM K43.gS (ar (aM K51.jM (ar (ay 5) aG)) aG)))
 (ao (aC 7 (aM K44.f_L_lands (ar (ay 5) aG)))
 (ao (aC 8 (dg (iJ (qo (af 7))) [7] (nY (cD (aR uE (af 0) (rC (.int 0)))) (cD (aR qA (fO (af 1) (af 0)) (fO (af 1) (qD gD (af 0)))))) (ay 0)))
 (ao (jt (fJ (cD (bE K31.fU (ae (af 6) ak)))) (bw (kSc (rC (.bl false)))) bh)
 (ao (jt (cD (aR qA (aR ee (af 3) (rC (.int 2))) (rC (.int 0)))) (bw (kSc (aR uJ (af 6) (af 8)))) bh)
 (bw (kSc (uA (aR uJ (af 6) (rOf (tS (eU 6)))) (dD yX (ae (rOf (dg (iJ (ay 6)) [8] cX (kSc (aR (uL false) (af 0) (af 1))))) ak))))))))))))))))
def BF:MF:=cL 1 9 G7
def rE(i:Nat):Stmt:=PySem.Challenge.pw_mapround_k44_whole_bridges_and_lands.main.body.getD i (.Pass ⟨0,0,0,0⟩)
section
variable {P:Program}{w:World}{K:W.Frag}{mg:Str->Option Value}{base:Heap}
abbrev gw:Stmt:=rE 1
theorem ko:bq ["turns", "told", "turn"] ["turns"] (aF gw):=⟨rfl,rfl,rfl,by decide +kernel,rfl,by decide +kernel,by decide +kernel⟩
theorem xa     (D:pK K mg "told_ends" gw ["turns"] f fd) (B:Bt mg)     : Fn P w K mg base 1 "told_ends" gw ["turns"] (bT K Zl.cR) f fd :=
 ⟨D,D.F.ok ko (fun _ _ _ _=>cw) fun gm A outer s H vs Q E hr h=>⟨_,
   (ai (aK (i:=1) ko.nd rfl (by first|exact RM rfl|exact RK rfl) (eI aj))
   (ai (fI PassesOwn.never rfl (cG (pv 0)) (cO (i:=2) ko.nd rfl (by first|exact RM rfl|exact RK rfl))
    (ax (du (fN Rx Vp Vq vk (pv 1) (ag (pv 2) aj)))))
   (ax (bJ (pv 1))))),
   bb ["turns", "told", "turn"] (K:=K) (az (aO (i:=1) (eG aW))
   (az (lu (aQ 0) (FC (i:=1) (wF 2)))
   (bK (kL 1)))) h⟩⟩
abbrev ju:Stmt:=rE 2
theorem zP:bq ["m"] ["m"] (aF ju):=⟨rfl,rfl,rfl,by decide +kernel,rfl,by decide +kernel,by decide +kernel⟩
theorem A8  (D:pK K mg "ends_of" ju ["m"] f fd) (B:Bt mg)   (yn:Fn P w K mg base 1 "told_ends" gw ["turns"] (bT K Zl.cR) ftold_ends fdtold_ends)  : Fn P w K mg base 2 "ends_of" ju ["m"] (bT K Zl.gZ) f fd :=
 ⟨D,D.F.ok zP (fun _ _ _ _=>cw) fun gm A outer s H vs Q E hr h=>⟨_,
   (ax (bJ (aS oX (by rfl) B.sorted Tr (ag (cg yn (hr.mono (by decide)) (ag (pv 0) aj)) aj)))),
   bb ["m"] (K:=K) (bK (yD (SL.q (SK.lOf (bQ (aH (aQ 0) aW)))))) h⟩⟩
abbrev iu:Stmt:=rE 3
theorem xU:bq ["m"] ["m"] (aF iu):=⟨rfl,rfl,rfl,by decide +kernel,rfl,by decide +kernel,by decide +kernel⟩
theorem yw  (D:pK K mg "roads_of" iu ["m"] f fd) (B:Bt mg)   (Ds:Fn P w K mg base 2 "ends_of" ju ["m"] (bT K Zl.gZ) fends_of fdends_of)  : Fn P w K mg base 3 "roads_of" iu ["m"] (bT K Zl.eW) f fd :=
 ⟨D,D.F.ok xU (fun _ _ _ _=>cw) fun gm A outer s H vs Q E hr h=>⟨_,
   (ax (bJ (gk (cl:=[]) (N:=["end"]) (fr:=[]) rfl rfl (by decide +kernel) rfl (by decide +kernel) rfl (fP.none (by decide +kernel)) (cG (cg Ds (hr.mono (by decide)) (ag (pv 0) aj))) (fun _ _ _ _=>vV (cA qE (pv 0) aw (cT _))) (fun _ _ _ _=>(pv 0))))),
   bb ["m"] (K:=K) (bK (eQ (bQ (aH (aQ 0) aW)) (cm (aD qN (ah 0) au)) (aQ 0))) h⟩⟩
abbrev eX:Stmt:=rE 4
theorem fh:bq ["m", "places", "place", "turn", "end"] ["m"] (aF eX):=⟨rfl,rfl,rfl,by decide +kernel,rfl,by decide +kernel,by decide +kernel⟩
theorem wj     (D:pK K mg "places_at" eX ["m"] f fd) (B:Bt mg)     : Fn P w K mg base 1 "places_at" eX ["m"] (bT K Zl.dU) f fd :=
 ⟨D,D.F.ok fh (fun _ _ _ _=>cw) fun gm A outer s H vs Q E hr h=>⟨_,
   (ai (aK (i:=1) fh.nd rfl (by first|exact RM rfl|exact RK rfl) oS)
   (ai (fI PassesOwn.never rfl (HL (by rfl) B.enum (ag (pv 0) aj)) (LY rfl (xF (cO (i:=2) fh.nd rfl (by first|exact RM rfl|exact RK rfl)) (xF (cO (i:=3) fh.nd rfl (by first|exact RM rfl|exact RK rfl)) IC)))
    (ax (fI PassesOwn.never rfl (cG (pv 3)) (cO (i:=4) fh.nd rfl (by first|exact RM rfl|exact RK rfl))
    (ax (pI (gG hr) (pv 1) (pv 4) (pv 2) rfl)))))
   (ax (bJ (pv 1))))),
   bb ["m", "places", "place", "turn", "end"] (K:=K) (az (aO (i:=1) rM)
   (az (IS (aQ 0) (lu (aQ 3) (oU (i:=1) (aQ 2) (ah 4))))
   (bK (kL 1)))) h⟩⟩
abbrev jE:Stmt:=rE 6
theorem AJ:bq ["turn", "gone"] ["turn", "gone"] (aF jE):=⟨rfl,rfl,rfl,by decide +kernel,rfl,by decide +kernel,by decide +kernel⟩
theorem AR     (D:pK K mg "thinned" jE ["turn", "gone"] f fd) (B:Bt mg)     : Fn P w K mg base 1 "thinned" jE ["turn", "gone"] (bT K K23.gV) f fd :=
 ⟨D,D.F.ok AJ (fun _ _ _ _=>cw) fun gm A outer s H vs Q E hr h=>⟨_,
   (ax (bJ (gk (N:=["end", "gone"]) (fr:=[1]) rfl rfl (by decide +kernel) rfl (by decide +kernel) rfl (fP.of (by decide +kernel) rfl rfl (by exact⟨rfl,trivial⟩) (by repeat (first|exact trivial|refine⟨(by first|exact fun _=>⟨_,rfl⟩|exact fun h=>(by rcases h with h|h <;> cases h)),?_⟩)) (by exact⟨⟨rfl,rfl,rfl⟩,trivial⟩)) (cG (pv 0)) (fun _ _ _ _=>vV (cA oP (pv 0) (pv 1) rfl)) (fun _ _ _ _=>(pv 0))))),
   bb ["turn", "gone"] (K:=K) (bK (eQ (aQ 0) (cm (aD (Aq true) (ah 0) (ah 1))) (aQ 0))) h⟩⟩
abbrev jC:Stmt:=rE 8
theorem eV:bq ["m", "start", "place_of", "known", "waiting", "here", "end", "there"] ["m", "start"] (aF jC):=⟨rfl,rfl,rfl,by decide +kernel,rfl,by decide +kernel,by decide +kernel⟩
theorem An  (D:pK K mg "reached" jC ["m", "start"] f fd) (B:Bt mg)   (lU:Fn P w K mg base 1 "places_at" eX ["m"] (bT K Zl.dU) fplaces_at fdplaces_at)  : Fn P w K mg base 2 "reached" jC ["m", "start"] (bT K K51.fY) f fd :=
 ⟨D,D.F.ok eV (fun _ _ _ _=>cw) fun gm A outer s H vs Q E hr h=>⟨_,
   (ai (aK (i:=2) eV.nd rfl (by first|exact RM rfl|exact RK rfl) (cg lU (hr.mono (by decide)) (ag (pv 0) aj)))
   (ai (aK (i:=3) eV.nd rfl (by first|exact RM rfl|exact RK rfl) (HH (G5 (pv 1) vq Jb) rfl rfl (by simp) (by decide)))
   (ai (aK (i:=4) eV.nd rfl (by first|exact RM rfl|exact RK rfl) (eI (ag (pv 1) aj)))
   (ai (oi PassesOwn.never (cA qE (aS bU (by rfl) B.len PySem.boot_len (ag (pv 4) aj)) aw (cT _)) (ai (aK (i:=5) eV.nd rfl (by first|exact RM rfl|exact RK rfl) (Aa Rx Tj Tn Af (pv 4))) (ax (fI PassesOwn.never rfl (cG (mT gc (pv 0) (pv 5) (fun _ _=>rfl))) (cO (i:=6) eV.nd rfl (by first|exact RM rfl|exact RK rfl))
    (ai (aK (i:=7) eV.nd rfl (by first|exact RM rfl|exact RK rfl) (jf (gG hr) (pv 2) (mO jk (pv 6)) (by first|rfl|exact trivial|(intro _ _;rfl)))) (ax (iw (Au (qf (gG hr) (pv 7) (pv 3))) (ai (pI (gG hr) (pv 3) (pv 7) vq rfl) (ax (du (fN Rx RT RU cC (pv 4) (ag (pv 7) aj))))) eR)))))))
   (ax (bJ (aS (og rfl) (by rfl) B.sorted Tr (ag (pv 3) aj)))))))),
   bb ["m", "start", "place_of", "known", "waiting", "here", "end", "there"] (K:=K) (az (aO (i:=2) (bQ (aH (aQ 0) aW)))
   (az (aO (i:=3) (Er (ah 1) (SR.kSc uS)))
   (az (aO (i:=4) (eG (aH (aQ 1) aW)))
   (az (pJ 100000 (cm (aD qN (dP dO (aq (ah 4) aJ)) au)) (az (Jl (i:=5) (wz (i:=4))) (lu (Na (jZ 0) (ah 5)) (az (aO (i:=7) (SR.kSc (jT (ah 2) (mN jg (ah 6))))) (lO (qO (pQ (ah 7) (ah 3))) (az (oU (i:=3) (SR.kSc uS) (ah 7)) (lZ (i:=4) (aQ 7))) fD)))))
   (bK (xR (ah 3))))))) h⟩⟩
abbrev dC:Stmt:=rE 10
theorem jJ:bq ["m", "roads", "gone"] ["m", "roads"] (aF dC):=⟨rfl,rfl,rfl,by decide +kernel,rfl,by decide +kernel,by decide +kernel⟩
theorem qg  (D:pK K mg "without_roads" dC ["m", "roads"] f fd) (B:Bt mg)   (CP:Fn P w K mg base 1 "thinned" jE ["turn", "gone"] (bT K K23.gV) fthinned fdthinned)  : Fn P w K mg base 2 "without_roads" dC ["m", "roads"] (bT K K43.dF) f fd :=
 ⟨D,D.F.ok jJ (fun _ _ _ _=>cw) fun gm A outer s H vs Q E hr h=>⟨_,
   (ai (aK (i:=2) jJ.nd rfl (by first|exact RM rfl|exact RK rfl) (aX Fx (pv 1) (gk (cl:=[]) (N:=["road"]) (fr:=[]) rfl rfl (by decide +kernel) rfl (by decide +kernel) rfl (fP.none (by decide +kernel)) (cG (pv 1)) (fun _ _ _ _=>nD) (fun _ _ _ _=>(mO jk (pv 0))))))
   (ax (bJ (gk (N:=["turn", "gone"]) (fr:=[2]) rfl rfl (by decide +kernel) rfl (by decide +kernel) rfl (fP.of (by decide +kernel) rfl rfl (by exact⟨rfl,trivial⟩) (by repeat (first|exact trivial|refine⟨(by first|exact fun _=>⟨_,rfl⟩|exact fun h=>(by rcases h with h|h <;> cases h)),?_⟩)) (by exact⟨⟨rfl,rfl,rfl⟩,trivial⟩)) (cG (pv 0)) (fun _ _ _ _=>nD) (fun _ _ _ _=>(cg CP (hr.mono (by decide)) (ag (pv 0) (ag (pv 1) aj)))))))),
   bb ["m", "roads", "gone"] (K:=K) (az (aO (i:=2) (E1 (wF 1) (SK.lOf (eQ (aQ 1) nK (SR.kSc (mN jg (ah 0)))))))
   (bK (eQ (aQ 0) nK (bQ (aH (aQ 0) (aH (aQ 1) aW)))))) h⟩⟩
abbrev gA:Stmt:=rE 11
theorem oj:bq ["m", "road", "place_of"] ["m", "road"] (aF gA):=⟨rfl,rfl,rfl,by decide +kernel,rfl,by decide +kernel,by decide +kernel⟩
theorem vS  (D:pK K mg "is_bridge" gA ["m", "road"] f fd) (B:Bt mg)   (lU:Fn P w K mg base 1 "places_at" eX ["m"] (bT K Zl.dU) fplaces_at fdplaces_at) (Dv:Fn P w K mg base 2 "reached" jC ["m", "start"] (bT K K51.fY) freached fdreached) (rh:Fn P w K mg base 2 "without_roads" dC ["m", "roads"] (bT K K43.dF) fwithout_roads fdwithout_roads)  : Fn P w K mg base 3 "is_bridge" gA ["m", "road"] (bT K K43.fc) f fd :=
 ⟨D,D.F.ok oj (fun _ _ _ _=>cw) fun gm A outer s H vs Q E hr h=>⟨_,
   (ai (aK (i:=2) oj.nd rfl (by first|exact RM rfl|exact RK rfl) (cg lU (hr.mono (by decide)) (ag (pv 0) aj)))
   (ax (bJ (oR oP (jf (gG hr) (pv 2) (mO jk (pv 1)) (by first|rfl|exact trivial|(intro _ _;rfl))) (cg Dv (hr.mono (by decide)) (ag (cg rh (hr.mono (by decide)) (ag (pv 0) (ag (eI (ag (pv 1) aj)) aj))) (ag (jf (gG hr) (pv 2) (pv 1) (by first|rfl|exact trivial|(intro _ _;rfl))) aj))) rfl)))),
   bb ["m", "road", "place_of"] (K:=K) (az (aO (i:=2) (bQ (aH (aQ 0) aW)))
   (bK (SR.kSc (aD (Aq true) (jT (ah 2) (mN jg (ah 1))) (SK.rOf (bQ (aH (bQ (aH (aQ 0) (aH (eG (aH (aQ 1) aW)) aW))) (aH (SR.kSc (jT (ah 2) (ah 1))) aW)))))))) h⟩⟩
abbrev jw:Stmt:=rE 12
theorem AE:bq ["m"] ["m"] (aF jw):=⟨rfl,rfl,rfl,by decide +kernel,rfl,by decide +kernel,by decide +kernel⟩
theorem zC  (D:pK K mg "bridges" jw ["m"] f fd) (B:Bt mg)   (Ag:Fn P w K mg base 3 "roads_of" iu ["m"] (bT K Zl.eW) froads_of fdroads_of) (xD:Fn P w K mg base 3 "is_bridge" gA ["m", "road"] (bT K K43.fc) fis_bridge fdis_bridge)  : Fn P w K mg base 4 "bridges" jw ["m"] (bT K K43.gS) f fd :=
 ⟨D,D.F.ok AE (fun _ _ _ _=>cw) fun gm A outer s H vs Q E hr h=>⟨_,
   (ax (bJ (gk (N:=["road", "m"]) (fr:=[0]) rfl rfl (by decide +kernel) rfl (by decide +kernel) rfl (fP.of (by decide +kernel) rfl rfl (by exact⟨rfl,trivial⟩) (by repeat (first|exact trivial|refine⟨(by first|exact fun _=>⟨_,rfl⟩|exact fun h=>(by rcases h with h|h <;> cases h)),?_⟩)) (by exact⟨⟨rfl,rfl,rfl⟩,trivial⟩)) (cG (cg Ag (hr.mono (by decide)) (ag (pv 0) aj))) (fun _ _ _ _=>vV (vW (cg xD (hr.mono (by decide)) (ag (pv 1) (ag (pv 0) aj))))) (fun _ _ _ _=>(pv 0))))),
   bb ["m"] (K:=K) (bK (eQ (bQ (aH (aQ 0) aW)) (qO (fq (aq (ah 1) (aq (ah 0) aJ)))) (aQ 0))) h⟩⟩
abbrev jx:Stmt:=rE 14
theorem Di:bq ["_law_script", "_law_k"] ["_law_script", "_law_k"] (aF jx):=⟨rfl,rfl,rfl,by decide +kernel,rfl,by decide +kernel,by decide +kernel⟩
theorem DP     (D:pK K mg "_law_cell" jx ["_law_script", "_law_k"] f fd) (B:Bt mg)     : Fn P w K mg base 1 "_law_cell" jx ["_law_script", "_law_k"] (bT K Zl.aB) f fd :=
 ⟨D,D.F.ok Di (fun _ _ _ _=>cw) fun gm A outer s H vs Q E hr h=>⟨_,
   (ai (iw (cA Ob (pv 1) (aS bU (by rfl) B.len PySem.boot_len (ag (pv 0) aj)) (cT _)) (ax (bJ (mT gc (pv 0) (pv 1) (fun _ _=>rfl)))) eR)
   (ax (bJ aw))),
   bb ["_law_script", "_law_k"] (K:=K) (az (lO (cm (aD Ol (ah 1) (dP dO (aq (ah 0) aJ)))) (bK (SR.kSc (aD uk (ah 0) (ah 1)))) fD)
   (bK (SR.kSc au))) h⟩⟩
abbrev kT:Stmt:=rE 15
theorem jP:bq ["_law_one", "_law_two", "_law_k", "_law_step", "_law_shift"] ["_law_one", "_law_two", "_law_k"] (aF kT):=⟨rfl,rfl,rfl,by decide +kernel,rfl,by decide +kernel,by decide +kernel⟩
theorem CF     (D:pK K mg "_law_name" kT ["_law_one", "_law_two", "_law_k"] f fd) (B:Bt mg)     : Fn P w K mg base 1 "_law_name" kT ["_law_one", "_law_two", "_law_k"] (bT K K31.eO) f fd :=
 ⟨D,D.F.ok jP (fun _ _ _ _=>cw) fun gm A outer s H vs Q E hr h=>⟨_,
   (ai (aK (i:=3) jP.nd rfl (by first|exact RM rfl|exact RK rfl) aw)
   (ai (aK (i:=4) jP.nd rfl (by first|exact RM rfl|exact RK rfl) aw)
   (ai (iw (cA qE (aX dv (pv 0) aw) aw (cT _)) (ai (aK (i:=3) jP.nd rfl (by first|exact RM rfl|exact RK rfl) (aX jY aw (aX dv (aX kj (pv 0) aw) (aX wO aw aw)))) (ax (aK (i:=4) jP.nd rfl (by first|exact RM rfl|exact RK rfl) (aX dv (aX kj (pv 1) aw) (aX wO aw aw))))) eR)
   (ax (bJ (aX jY (aX vT (pv 3) (aX jY (aX dv (aX jY (aX vT (aX jY aw (aX dv (pv 1) aw)) (pv 2)) (pv 0)) aw) aw)) (pv 4))))))),
   bb ["_law_one", "_law_two", "_law_k", "_law_step", "_law_shift"] (K:=K) (az (aO (i:=3) (SR.kSc au))
   (az (aO (i:=4) (SR.kSc au))
   (az (lO (cm (aD qN (aD dt (ah 0) au) au)) (az (aO (i:=3) (SR.kSc (aD kf au (aD dt (aD nQ (ah 0) au) (aD vO au au))))) (aO (i:=4) (SR.kSc (aD dt (aD nQ (ah 1) au) (aD vO au au))))) fD)
   (bK (SR.kSc (aD kf (aD wM (ah 3) (aD kf (aD dt (aD kf (aD wM (aD kf au (aD dt (ah 1) au)) (ah 2)) (ah 0)) au) au)) (ah 4))))))) h⟩⟩
abbrev gU:Stmt:=rE 16
theorem cU:bq ["_law_cells", "_law_names", "_law_wild", "_law_turns_here", "_law_way", "_law_loose", "_law_left", "_law_cell_here", "_law_here", "_law_at", "_law_end"] ["_law_cells", "_law_names", "_law_wild"] (aF gU):=⟨rfl,rfl,rfl,by decide +kernel,rfl,by decide +kernel,by decide +kernel⟩
theorem Aw     (D:pK K mg "_law_turns" gU ["_law_cells", "_law_names", "_law_wild"] f fd) (B:Bt mg)     : Fn P w K mg base 1 "_law_turns" gU ["_law_cells", "_law_names", "_law_wild"] (bT K K31.ez) f fd :=
 ⟨D,D.F.ok cU (fun _ _ _ _=>cw) fun gm A outer s H vs Q E hr h=>⟨_,
   (ai (aK (i:=3) cU.nd rfl (by first|exact RM rfl|exact RK rfl) (eI (ag (eI aj) aj)))
   (ai (aK (i:=4) cU.nd rfl (by first|exact RM rfl|exact RK rfl) (eI (ag aw aj)))
   (ai (aK (i:=5) cU.nd rfl (by first|exact RM rfl|exact RK rfl) (eI aj))
   (ai (aK (i:=6) cU.nd rfl (by first|exact RM rfl|exact RK rfl) (pY kM (by rfl) B.list Ui (ag (pv 1) aj)))
   (ai (fI PassesOwn.never rfl (cG (pv 0)) (cO (i:=7) cU.nd rfl (by first|exact RM rfl|exact RK rfl))
    (ai (aK (i:=8) cU.nd rfl (by first|exact RM rfl|exact RK rfl) (mT gc (pv 3) (mT gc (pv 4) (aX sq (aS bU (by rfl) B.len PySem.boot_len (ag (pv 4) aj)) aw) (fun _ _=>rfl)) (fun _ _=>rfl))) (ax (iw (PW.pt (zJ (cA ot (aX dv (pv 7) aw) aw (cT _)) (wm (cA qE (aS bU (by rfl) B.len PySem.boot_len (ag (pv 4) aj)) aw (cT _))))) (ax (du (Aa Rx Tj Tn Af (pv 4)))) (ax (iw (PW.pt (zJ (cA ot (aX dv (pv 7) aw) aw (cT _)) (wm (cA qE (aS bU (by rfl) B.len PySem.boot_len (ag (pv 5) aj)) aw (cT _))))) (ai (aK (i:=9) cU.nd rfl (by first|exact RM rfl|exact RK rfl) (aX sq (aS bU (by rfl) B.len PySem.boot_len (ag (pv 5) aj)) aw)) (ai (iw (vW (pv 2)) (ax (aK (i:=9) cU.nd rfl (by first|exact RM rfl|exact RK rfl) (aX dv (aX kj (pv 7) aw) (aS bU (by rfl) B.len PySem.boot_len (ag (pv 5) aj))))) eR) (ax (du (fN Rx RT RU cC (pv 8) (ag (fN Rx Tj Tn sA (pv 5) (ag (pv 9) aj)) aj)))))) (ax (iw (cA qE (aS bU (by rfl) B.len PySem.boot_len (ag (pv 6) aj)) aw (cT _)) (ai (aK (i:=10) cU.nd rfl (by first|exact RM rfl|exact RK rfl) (aX vT (fN Rx Tj Tn sA (pv 6) (ag aw aj)) (aX sq aw (aX vT aw (aX dv (aX kj (pv 7) aw) aw))))) (ai (du (fN Rx RT RU cC (pv 8) (ag (pv 10) aj))) (ax (iw (cA ot (aX dv (pv 7) aw) aw (cT _)) (ai (du (fN Rx RT RU cC (pv 3) (ag (eI (ag (mO jk (pv 10)) aj)) aj))) (ax (du (fN Rx RT RU cC (pv 4) (ag (aX sq (aS bU (by rfl) B.len PySem.boot_len (ag (pv 3) aj)) aw) aj))))) (ax (du (fN Rx RT RU cC (pv 5) (ag (mO jk (pv 10)) aj)))))))) eR))))))))
   (ai (oi PassesOwn.never (cA qE (aS bU (by rfl) B.len PySem.boot_len (ag (pv 5) aj)) aw (cT _)) (ax (du (fN Rx RT RU cC (mT gc (pv 3) (mT gc (pv 4) (aX sq (aS bU (by rfl) B.len PySem.boot_len (ag (pv 4) aj)) aw) (fun _ _=>rfl)) (fun _ _=>rfl)) (ag (Aa Rx Tj Tn Af (pv 5)) aj)))))
   (ax (bJ (pv 3))))))))),
   bb ["_law_cells", "_law_names", "_law_wild", "_law_turns_here", "_law_way", "_law_loose", "_law_left", "_law_cell_here", "_law_here", "_law_at", "_law_end"] (K:=K) (az (aO (i:=3) (eG (aH (eG aW) aW)))
   (az (aO (i:=4) (eG (aH (SR.kSc au) aW)))
   (az (aO (i:=5) (eG aW))
   (az (aO (i:=6) (wt (jZ 1)))
   (az (lu (aQ 0) (Ld (FG (Br 3) (aD uk (ah 4) (aD ue (dP dO (aq (ah 4) aJ)) au))) (FY (zV (cm (aD mU (aD dt (ah 7) au) au)) (cm (aD qN (dP dO (aq (ah 4) aJ)) au))) (Kc (G3 (wz (i:=4)))) (FY (zV (cm (aD mU (aD dt (ah 7) au) au)) (cm (aD qN (dP dO (aq (ah 5) aJ)) au))) (A0 (BD (SR.kSc (aD ue (dP dO (aq (ah 5) aJ)) au)) (by decide)) (A0 (LO (qO (ah 2)) (BD (SR.kSc (aD dt (aD nQ (ah 7) au) (dP dO (aq (ah 5) aJ)))) (by decide)) (E2 (fun _ _ _ h=>h))) (HX (tF (i:=5) (ah 9))))) (FY (cm (aD qN (dP dO (aq (ah 6) aJ)) au)) (A0 (FE (Oq wM (tF (i:=6) au) (aD ue au (aD wM au (aD dt (aD nQ (ah 7) au) au)))) (by decide)) (L9 (LH (aQ 10)) (lO (cm (aD mU (aD dt (ah 7) au) au)) (az (lZ (i:=3) (eG (aH (SR.kSc (mN jg (ah 10))) aW))) (lZ (i:=4) (SR.kSc (aD ue (dP dO (aq (ah 3) aJ)) au)))) (lZ (i:=5) (SR.kSc (mN jg (ah 10))))))) (Kc fD))))))
   (az (pJ 100000 (cm (aD qN (dP dO (aq (ah 5) aJ)) au)) (ES (FG (Br 3) (aD uk (ah 4) (aD ue (dP dO (aq (ah 4) aJ)) au))) (wz (i:=5))))
   (bK (kL 3)))))))) h⟩⟩
abbrev iC:Stmt:=rE 17
theorem qC:bq ["_law_turn", "_law_at"] ["_law_turn"] (aF iC):=⟨rfl,rfl,rfl,by decide +kernel,rfl,by decide +kernel,by decide +kernel⟩
theorem xX     (D:pK K mg "_law_turned" iC ["_law_turn"] f fd) (B:Bt mg)     : Fn P w K mg base 1 "_law_turned" iC ["_law_turn"] (bT K Zl.iG) f fd :=
 ⟨D,D.F.ok qC (fun _ _ _ _=>cw) fun gm A outer s H vs Q E hr h=>⟨_,
   (ai (iw (cA ot (aS bU (by rfl) B.len PySem.boot_len (ag (pv 0) aj)) aw (cT _)) (ax (bJ (eI aj))) eR)
   (ai (aK (i:=1) qC.nd rfl (by first|exact RM rfl|exact RK rfl) (fN Rx Vw PySem.F.type_list_index FK (pv 0) (ag (aS (CN rfl) (by rfl) B.min WH (ag (pv 0) aj)) aj)))
   (ax (bJ (aX Fx (oB rn (pv 0) (nW (pv 1)) wq) (oB rn (pv 0) wq (nW (pv 1)))))))),
   bb ["_law_turn", "_law_at"] (K:=K) (az (lO (cm (aD mU (dP dO (aq (ah 0) aJ)) au)) (bK (eG aW)) fD)
   (az (aO (i:=1) (SR.kSc (Oz (T := "list") EL (ah 0) (aq (dP LS (aq (ah 0) aJ)) aJ))))
   (bK (E1 (SK.lOf (BW (jZ 0) (oJ (ah 1)) wA)) (SK.lOf (BW (jZ 0) wA (oJ (ah 1)))))))) h⟩⟩
abbrev kZ:Stmt:=rE 18
theorem CL:bq ["_law_turns_here"] ["_law_turns_here"] (aF kZ):=⟨rfl,rfl,rfl,by decide +kernel,rfl,by decide +kernel,by decide +kernel⟩
theorem CK  (D:pK K mg "_law_good" kZ ["_law_turns_here"] f fd) (B:Bt mg)   (AK:Fn P w K mg base 1 "_law_turned" iC ["_law_turn"] (bT K Zl.iG) Mv Lw)  : Fn P w K mg base 2 "_law_good" kZ ["_law_turns_here"] (bT K Zl.aT) f fd :=
 ⟨D,D.F.ok CL (fun _ _ _ _=>cw) fun gm A outer s H vs Q E hr h=>have hu:=hr.units;⟨_,
   (ax (bJ (aS (vU hu) (by rfl) B.sorted Tr (ag (gk (cl:=[]) (N:=["_law_turn"]) (fr:=[]) rfl rfl (by decide +kernel) rfl (by decide +kernel) rfl (fP.none (by decide +kernel)) (cG (pv 0)) (fun _ _ _ _=>nD) (fun _ _ _ _=>(cg AK (hr.mono (by decide)) (ag (pv 0) aj)))) aj)))),
   bb ["_law_turns_here"] (K:=K) (bK (C1 (eQ (aQ 0) nK (bQ (aH (aQ 0) aW))))) h⟩⟩
abbrev kU:Stmt:=rE 19
theorem CM:bq ["_law_m"] ["_law_m"] (aF kU):=⟨rfl,rfl,rfl,by decide +kernel,rfl,by decide +kernel,by decide +kernel⟩
theorem De     (D:pK K mg "_law_copy" kU ["_law_m"] f fd) (B:Bt mg)     : Fn P w K mg base 1 "_law_copy" kU ["_law_m"] (bT K K51.jM) f fd :=
 ⟨D,D.F.ok CM (fun _ _ _ _=>cw) fun gm A outer s H vs Q E hr h=>⟨_,
   (ax (bJ (gk (cl:=[]) (N:=["_law_turn"]) (fr:=[]) rfl rfl (by decide +kernel) rfl (by decide +kernel) rfl (fP.none (by decide +kernel)) (cG (pv 0)) (fun _ _ _ _=>nD) (fun _ _ _ _=>(pY kM (by rfl) B.list Ui (ag (pv 0) aj)))))),
   bb ["_law_m"] (K:=K) (bK (eQ (aQ 0) nK (wt (jZ 0)))) h⟩⟩
abbrev ij:Stmt:=rE 20
theorem yc:bq ["_law_found"] ["_law_found"] (aF ij):=⟨rfl,rfl,rfl,by decide +kernel,rfl,by decide +kernel,by decide +kernel⟩
theorem yi     (D:pK K mg "_law_wholes" ij ["_law_found"] f fd) (B:Bt mg)     : Fn P w K mg base 1 "_law_wholes" ij ["_law_found"] (bT K K31.fU) f fd :=
 ⟨D,D.F.ok yc (fun _ _ _ _=>cw) fun gm A outer s H vs Q E hr h=>⟨_,
   (ai (iw (Gj (vW (aS tM (by rfl) B.isi Uk (ag (pv 0) (ag (xf (v:=.ty "list") (by rfl) B.list Ui rfl) aj))))) (ax (bJ vq)) eR)
   (ax (bJ (aS (xC rfl) (by rfl) B.all VJ (ag (gk (cl:=[]) (N:=["_law_one"]) (fr:=[]) rfl rfl (by decide +kernel) rfl (by decide +kernel) rfl (fP.none (by decide +kernel)) (cG (pv 0)) (fun _ _ _ _=>nD) (fun _ _ _ _=>(GW (aS tM (by rfl) B.isi Uk (ag (pv 0) (ag (xf (v:=.ty "int") (by rfl) B.int WI rfl) aj))) (Fy (Lf (aS tM (by rfl) B.isi Uk (ag (pv 0) (ag (xf (v:=.ty "bool") (by rfl) B.bool WC rfl) aj)))))))) aj))))),
   bb ["_law_found"] (K:=K) (az (lO (Gx (qO (dP Aj (aq (ah 0) (aq G4 aJ))))) (bK (SR.kSc uS)) fD)
   (bK (SR.kSc (dP GC (aq (SK.rOf (eQ (aQ 0) nK (SR.kSc (Ey (dP Aj (aq (ah 0) (aq G4 aJ))) (KU (dP Aj (aq (ah 0) (aq G4 aJ)))))))) aJ))))) h⟩⟩
abbrev iy:Stmt:=rE 21
theorem je:bq ["_law_m", "_law_follow_here", "_law_turn", "_law_k"] ["_law_m"] (aF iy):=⟨rfl,rfl,rfl,by decide +kernel,rfl,by decide +kernel,by decide +kernel⟩
theorem xA     (D:pK K mg "_law_follow" iy ["_law_m"] f fd) (B:Bt mg)     : Fn P w K mg base 1 "_law_follow" iy ["_law_m"] (bT K K15.gY) f fd :=
 ⟨D,D.F.ok je (fun _ _ _ _=>cw) fun gm A outer s H vs Q E hr h=>⟨_,
   (ai (aK (i:=1) je.nd rfl (by first|exact RM rfl|exact RK rfl) oS)
   (ai (fI PassesOwn.never rfl (cG (pv 0)) (cO (i:=2) je.nd rfl (by first|exact RM rfl|exact RK rfl))
    (ax (fI PassesOwn.never rfl (jR (by rfl) B.range (ag (aS bU (by rfl) B.len PySem.boot_len (ag (pv 2) aj)) aj)) (cO (i:=3) je.nd rfl (by first|exact RM rfl|exact RK rfl))
    (ax (pI (gG hr) (pv 1) (mT gc (pv 2) (pv 3) (fun _ _=>rfl)) (mT gc (pv 2) (aX dv (aX jY (pv 3) aw) (aS bU (by rfl) B.len PySem.boot_len (ag (pv 2) aj))) (fun _ _=>rfl)) rfl)))))
   (ax (bJ (pv 1))))),
   bb ["_law_m", "_law_follow_here", "_law_turn", "_law_k"] (K:=K) (az (aO (i:=1) rM)
   (az (lu (aQ 0) (oz (aq (dP dO (aq (ah 2) aJ)) aJ) (oU (i:=1) (SR.kSc (aD uk (ah 2) (aD dt (aD kf (ah 3) au) (dP dO (aq (ah 2) aJ))))) (aD uk (ah 2) (ah 3)))))
   (bK (kL 1)))) h⟩⟩
abbrev jN:Stmt:=rE 22
theorem fQ:bq ["_law_m", "_law_follow_here", "_law_number", "_law_end", "_law_at"] ["_law_m"] (aF jN):=⟨rfl,rfl,rfl,by decide +kernel,rfl,by decide +kernel,by decide +kernel⟩
theorem AA  (D:pK K mg "_law_lands" jN ["_law_m"] f fd) (B:Bt mg)   (zj:Fn P w K mg base 1 "_law_follow" iy ["_law_m"] (bT K K15.gY) Mu KL)  : Fn P w K mg base 2 "_law_lands" jN ["_law_m"] (bT K K44.f_L_lands) f fd :=
 ⟨D,D.F.ok fQ (fun _ _ _ _=>cw) fun gm A outer s H vs Q E hr h=>⟨_,
   (ai (aK (i:=1) fQ.nd rfl (by first|exact RM rfl|exact RK rfl) (cg zj (hr.mono (by decide)) (ag (pv 0) aj)))
   (ai (aK (i:=2) fQ.nd rfl (by first|exact RM rfl|exact RK rfl) oS)
   (ai (fI PassesOwn.never rfl (Xe.HC (pv 1)) (cO (i:=3) fQ.nd rfl (by first|exact RM rfl|exact RK rfl))
    (ai (aK (i:=4) fQ.nd rfl (by first|exact RM rfl|exact RK rfl) (pv 3)) (ax (oi PassesOwn.never (Au (qf (gG hr) (pv 4) (pv 2))) (ai (pI (gG hr) (pv 2) (pv 4) (pv 3) rfl) (ax (aK (i:=4) fQ.nd rfl (by first|exact RM rfl|exact RK rfl) (jf (gG hr) (pv 1) (mO jk (pv 4)) (by first|rfl|exact trivial|(intro _ _;rfl))))))))))
   (ax (bJ (pv 2)))))),
   bb ["_law_m", "_law_follow_here", "_law_number", "_law_end", "_law_at"] (K:=K) (az (aO (i:=1) (bQ (aH (aQ 0) aW)))
   (az (aO (i:=2) rM)
   (az (HR (x:=3) (i:=1) (az (aO (i:=4) (aQ 3)) (pJ 100000 (qO (pQ (ah 4) (ah 2))) (az (oU (i:=2) (aQ 3) (ah 4)) (aO (i:=4) (SR.kSc (EC (ah 1) (mN jg (ah 4)))))))))
   (bK (kL 2))))) h⟩⟩
abbrev eP:Stmt:=rE 23
theorem de:bq ["_law_cell_here", "_law_many", "_law_total", "_law_names", "_law_k"] ["_law_cell_here", "_law_many"] (aF eP):=⟨rfl,rfl,rfl,by decide +kernel,rfl,by decide +kernel,by decide +kernel⟩
theorem tL     (D:pK K mg "_law_gap_names" eP ["_law_cell_here", "_law_many"] f fd) (B:Bt mg)     : Fn P w K mg base 1 "_law_gap_names" eP ["_law_cell_here", "_law_many"] (bT K K44.dG) f fd :=
 ⟨D,D.F.ok de (fun _ _ _ _=>cw) fun gm A outer s H vs Q E hr h=>⟨_,
   (ai (aK (i:=2) de.nd rfl (by first|exact RM rfl|exact RK rfl) aw)
   (ai (aK (i:=3) de.nd rfl (by first|exact RM rfl|exact RK rfl) (eI aj))
   (ai (fI PassesOwn.never rfl (jR (by rfl) B.range (ag (pv 1) aj)) (cO (i:=4) de.nd rfl (by first|exact RM rfl|exact RK rfl))
    (ai (aK (i:=2) de.nd rfl (by first|exact RM rfl|exact RK rfl) (aX jY (aX jY (pv 2) aw) (aX dv (pv 0) (aX wO aw aw)))) (ai (aK (i:=0) de.nd rfl (by first|exact RM rfl|exact RK rfl) (aX Fw (pv 0) (aX wO aw aw))) (ax (du (fN Rx RT RU cC (pv 3) (ag (pv 2) aj)))))))
   (ax (bJ (pv 3)))))),
   bb ["_law_cell_here", "_law_many", "_law_total", "_law_names", "_law_k"] (K:=K) (az (aO (i:=2) (SR.kSc au))
   (az (aO (i:=3) (eG aW))
   (az (oz (aq (ah 1) aJ) (az (aO (i:=2) (SR.kSc (aD kf (aD kf (ah 2) au) (aD dt (ah 0) (aD vO au au))))) (az (aO (i:=0) (SR.kSc (aD HI (ah 0) (aD vO au au)))) (lZ (i:=3) (aQ 2)))))
   (bK (kL 3))))) h⟩⟩
abbrev hV:Stmt:=rE 24
theorem iz:bq ["_law_cell_here", "_law_things", "_law_left", "_law_found", "_law_k"] ["_law_cell_here", "_law_things"] (aF hV):=⟨rfl,rfl,rfl,by decide +kernel,rfl,by decide +kernel,by decide +kernel⟩
theorem zR     (D:pK K mg "_law_dealt" hV ["_law_cell_here", "_law_things"] f fd) (B:Bt mg)     : Fn P w K mg base 1 "_law_dealt" hV ["_law_cell_here", "_law_things"] (bT K K44.fV) f fd :=
 ⟨D,D.F.ok iz (fun _ _ _ _=>cw) fun gm A outer s H vs Q E hr h=>⟨_,
   (ai (aK (i:=2) iz.nd rfl (by first|exact RM rfl|exact RK rfl) (pY kM (by rfl) B.list Ui (ag (pv 1) aj)))
   (ai (aK (i:=3) iz.nd rfl (by first|exact RM rfl|exact RK rfl) (eI aj))
   (ai (fI PassesOwn.never rfl (jR (by rfl) B.range (ag (aS bU (by rfl) B.len PySem.boot_len (ag (pv 1) aj)) aj)) (cO (i:=4) iz.nd rfl (by first|exact RM rfl|exact RK rfl))
    (ai (du (fN Rx RT RU cC (pv 3) (ag (fN Rx Tj Tn sA (pv 2) (ag (aX dv (pv 0) (aS bU (by rfl) B.len PySem.boot_len (ag (pv 2) aj))) aj)) aj))) (ax (aK (i:=0) iz.nd rfl (by first|exact RM rfl|exact RK rfl) (aX kj (pv 0) (aX jY (aS bU (by rfl) B.len PySem.boot_len (ag (pv 2) aj)) aw))))))
   (ax (bJ (pv 3)))))),
   bb ["_law_cell_here", "_law_things", "_law_left", "_law_found", "_law_k"] (K:=K) (az (aO (i:=2) (wt (jZ 1)))
   (az (aO (i:=3) (eG aW))
   (az (oz (aq (dP dO (aq (ah 1) aJ)) aJ) (az (IR (i:=3) (tF (i:=2) (aD dt (ah 0) (dP dO (aq (ah 2) aJ))))) (aO (i:=0) (SR.kSc (aD nQ (ah 0) (aD kf (dP dO (aq (ah 2) aJ)) au))))))
   (bK (kL 3))))) h⟩⟩
abbrev gC:Stmt:=rE 25
theorem cB:bq ["_law_cell_here", "_law_names", "_law_ends", "_law_name_here", "_law_follow_here", "_law_turns_here", "_law_met", "_law_end", "_law_turn", "_law_each"] ["_law_cell_here", "_law_names"] (aF gC):=⟨rfl,rfl,rfl,by decide +kernel,rfl,by decide +kernel,by decide +kernel⟩
theorem wJ  (D:pK K mg "_law_any_map" gC ["_law_cell_here", "_law_names"] f fd) (B:Bt mg)   (pW:Fn P w K mg base 1 "_law_dealt" hV ["_law_cell_here", "_law_things"] (bT K K44.fV) FQ DJ)  : Fn P w K mg base 2 "_law_any_map" gC ["_law_cell_here", "_law_names"] (bT K K44.gq) f fd :=
 ⟨D,D.F.ok cB (fun _ _ _ _=>cw) fun gm A outer s H vs Q E hr h=>⟨_,
   (ai (aK (i:=2) cB.nd rfl (by first|exact RM rfl|exact RK rfl) (eI aj))
   (ai (fI PassesOwn.never rfl (cG (pv 1)) (cO (i:=3) cB.nd rfl (by first|exact RM rfl|exact RK rfl))
    (ax (du (fN Rx Vp Vq vk (pv 2) (ag (eI (ag (pv 3) (ag (mO jk (pv 3)) aj))) aj)))))
   (ai (aK (i:=4) cB.nd rfl (by first|exact RM rfl|exact RK rfl) (N4 rfl (by rfl) B.dict (by rfl) B.zip (ag (pv 2) (ag (cg pW (hr.mono (by decide)) (ag (pv 0) (ag (pv 2) aj))) aj))))
   (ai (aK (i:=5) cB.nd rfl (by first|exact RM rfl|exact RK rfl) (eI aj))
   (ai (aK (i:=6) cB.nd rfl (by first|exact RM rfl|exact RK rfl) oS)
   (ai (fI PassesOwn.never rfl (cG (pv 2)) (cO (i:=7) cB.nd rfl (by first|exact RM rfl|exact RK rfl))
    (ax (iw (Au (qf (gG hr) (pv 7) (pv 6))) (ai (aK (i:=8) cB.nd rfl (by first|exact RM rfl|exact RK rfl) (eI (ag (pv 7) aj))) (ai (oi PassesOwn.never (cA Nf (jf (gG hr) (pv 4) (mT gc (pv 8) (mO jk aw) (fun _ _=>rfl)) (by first|rfl|exact trivial|(intro _ _;rfl))) (pv 7) (cT _)) (ax (du (fN Rx RT RU cC (pv 8) (ag (jf (gG hr) (pv 4) (mT gc (pv 8) (mO jk aw) (fun _ _=>rfl)) (by first|rfl|exact trivial|(intro _ _;rfl))) aj))))) (ai (fI PassesOwn.never rfl (cG (pv 8)) (cO (i:=9) cB.nd rfl (by first|exact RM rfl|exact RK rfl))
    (ax (pI (gG hr) (pv 6) (pv 9) vq rfl))) (ax (du (fN Rx RT RU cC (pv 5) (ag (pv 8) aj))))))) eR)))
   (ax (bJ (pv 5))))))))),
   bb ["_law_cell_here", "_law_names", "_law_ends", "_law_name_here", "_law_follow_here", "_law_turns_here", "_law_met", "_law_end", "_law_turn", "_law_each"] (K:=K) (az (aO (i:=2) (eG aW))
   (az (lu (aQ 1) (FC (i:=2) (SK.lOf (eG (aH (aQ 3) (aH (SR.kSc (mN jg (ah 3))) aW))))))
   (az (aO (i:=4) (NO (aq (ah 2) (aq (SK.rOf (bQ (aH (aQ 0) (aH (aQ 2) aW)))) aJ))))
   (az (aO (i:=5) (eG aW))
   (az (aO (i:=6) rM)
   (az (lu (aQ 2) (lO (qO (pQ (ah 7) (ah 6))) (az (aO (i:=8) (eG (aH (aQ 7) aW))) (az (pJ 100000 (cm (aD N6 (jT (ah 4) (aD uk (ah 8) (mN jg au))) (ah 7))) (lZ (i:=8) (SR.kSc (jT (ah 4) (aD uk (ah 8) (mN jg au)))))) (az (lu (aQ 8) (oU (i:=6) (SR.kSc uS) (ah 9))) (lZ (i:=5) (aQ 8))))) fD))
   (bK (kL 5)))))))) h⟩⟩
abbrev iE:Stmt:=rE 26
theorem iX:bq ["_law_cell_here", "_law_found", "_law_k"] ["_law_cell_here"] (aF iE):=⟨rfl,rfl,rfl,by decide +kernel,rfl,by decide +kernel,by decide +kernel⟩
theorem yJ     (D:pK K mg "_law_eights" iE ["_law_cell_here"] f fd) (B:Bt mg)     : Fn P w K mg base 1 "_law_eights" iE ["_law_cell_here"] (bT K K44.iD) f fd :=
 ⟨D,D.F.ok iX (fun _ _ _ _=>cw) fun gm A outer s H vs Q E hr h=>⟨_,
   (ai (aK (i:=1) iX.nd rfl (by first|exact RM rfl|exact RK rfl) (eI aj))
   (ai (fI PassesOwn.never rfl (jR (by rfl) B.range (ag aw aj)) (cO (i:=2) iX.nd rfl (by first|exact RM rfl|exact RK rfl))
    (ai (du (fN Rx RT RU cC (pv 1) (ag (aX dv (pv 0) aw) aj))) (ax (aK (i:=0) iX.nd rfl (by first|exact RM rfl|exact RK rfl) (aX kj (pv 0) aw)))))
   (ax (bJ (pv 1))))),
   bb ["_law_cell_here", "_law_found", "_law_k"] (K:=K) (az (aO (i:=1) (eG aW))
   (az (oz (aq au aJ) (az (lZ (i:=1) (SR.kSc (aD dt (ah 0) au))) (aO (i:=0) (SR.kSc (aD nQ (ah 0) au)))))
   (bK (kL 1)))) h⟩⟩
abbrev nZ:Stmt:=rE 27
theorem uh:bq ["_law_script", "_law_pick", "_law_names"] ["_law_script"] (aF nZ):=⟨rfl,rfl,rfl,by decide +kernel,rfl,by decide +kernel,by decide +kernel⟩
theorem GK  (D:pK K mg "_law_any" nZ ["_law_script"] f fd) (B:Bt mg)   (fB:Fn P w K mg base 1 "_law_cell" jx ["_law_script", "_law_k"] (bT K Zl.aB) Hu D4) (pW:Fn P w K mg base 1 "_law_dealt" hV ["_law_cell_here", "_law_things"] (bT K K44.fV) FQ DJ) (pZ:Fn P w K mg base 1 "_law_turns" gU ["_law_cells", "_law_names", "_law_wild"] (bT K K31.ez) EO Cw) (uH:Fn P w K mg base 1 "_law_gap_names" eP ["_law_cell_here", "_law_many"] (bT K K44.dG) JI Hh) (xT:Fn P w K mg base 2 "_law_any_map" gC ["_law_cell_here", "_law_names"] (bT K K44.gq) Ml Kf) (zZ:Fn P w K mg base 1 "_law_eights" iE ["_law_cell_here"] (bT K K44.iD) Mq L8)  : Fn P w K mg base 3 "_law_any" nZ ["_law_script"] (bT K K44.f_L_any) f fd :=
 ⟨D,D.F.ok uh (fun _ _ _ _=>cw) fun gm A outer s H vs Q E hr h=>⟨_,
   (ai (aK (i:=1) uh.nd rfl (by first|exact RM rfl|exact RK rfl) (cg fB (hr.mono (by decide)) (ag (pv 0) (ag aw aj))))
   (ai (aK (i:=2) uh.nd rfl (by first|exact RM rfl|exact RK rfl) (cg pW (hr.mono (by decide)) (ag (cg fB (hr.mono (by decide)) (ag (pv 0) (ag aw aj))) (ag (cg uH (hr.mono (by decide)) (ag (cg fB (hr.mono (by decide)) (ag (pv 0) (ag aw aj))) (ag aw aj))) aj))))
   (ai (iw (cA ot (aX dv (pv 1) aw) aw (cT _)) (ax (bJ (cg xT (hr.mono (by decide)) (ag (cg fB (hr.mono (by decide)) (ag (pv 0) (ag aw aj))) (ag (oB rn (pv 2) wq (nW (aX dv (aX kj (pv 1) aw) aw))) aj))))) eR)
   (ax (bJ (cg pZ (hr.mono (by decide)) (ag (cg zZ (hr.mono (by decide)) (ag (cg fB (hr.mono (by decide)) (ag (pv 0) (ag aw aj))) aj)) (ag (pv 2) (ag vq aj))))))))),
   bb ["_law_script", "_law_pick", "_law_names"] (K:=K) (az (aO (i:=1) (SR.kSc (fq (aq (ah 0) (aq au aJ)))))
   (az (aO (i:=2) (bQ (aH (SR.kSc (fq (aq (ah 0) (aq au aJ)))) (aH (bQ (aH (SR.kSc (fq (aq (ah 0) (aq au aJ)))) (aH (SR.kSc au) aW))) aW))))
   (az (lO (cm (aD mU (aD dt (ah 1) au) au)) (bK (bQ (aH (SR.kSc (fq (aq (ah 0) (aq au aJ)))) (aH (BW (jZ 2) wA (oJ (aD dt (aD nQ (ah 1) au) au))) aW)))) fD)
   (bK (bQ (aH (bQ (aH (SR.kSc (fq (aq (ah 0) (aq au aJ)))) aW)) (aH (aQ 2) (aH (SR.kSc uS) aW)))))))) h⟩⟩
abbrev mH:Stmt:=rE 28
theorem jq:bq ["_law_script", "_law_one", "_law_two", "_law_pick", "_law_names", "_law_m", "_law_found", "_law_number", "_law_due"] ["_law_script"] (aF mH):=⟨rfl,rfl,rfl,by decide +kernel,rfl,by decide +kernel,by decide +kernel⟩
theorem Ma  (D:pK K mg "law" mH ["_law_script"] f fd) (B:Bt mg)   (fB:Fn P w K mg base 1 "_law_cell" jx ["_law_script", "_law_k"] (bT K Zl.aB) Hu D4) (yQ:Fn P w K mg base 2 "_law_good" kZ ["_law_turns_here"] (bT K Zl.aT) OL MU) (DF:Fn P w K mg base 4 "bridges" jw ["m"] (bT K K43.gS) fbridges fdbridges) (C8:Fn P w K mg base 2 "_law_lands" jN ["_law_m"] (bT K K44.f_L_lands) Nv Mx) (Gc:Fn P w K mg base 1 "_law_name" kT ["_law_one", "_law_two", "_law_k"] (bT K K31.eO) OQ OD) (pZ:Fn P w K mg base 1 "_law_turns" gU ["_law_cells", "_law_names", "_law_wild"] (bT K K31.ez) EO Cw) (EU:Fn P w K mg base 1 "_law_copy" kU ["_law_m"] (bT K K51.jM) OM Nk) (AY:Fn P w K mg base 1 "_law_wholes" ij ["_law_found"] (bT K K31.fU) My Li) (IL:Fn P w K mg base 3 "_law_any" nZ ["_law_script"] (bT K K44.f_L_any) Pj OP)  : Fn P w K mg base 5 "law" mH ["_law_script"] (bT K K44.BF) f fd :=
 ⟨D,D.F.ok jq (fun _ _ _ _=>cw) fun gm A outer s H vs Q E hr h=>have hu:=hr.units;⟨_,
   (ai (aK (i:=1) jq.nd rfl (by first|exact RM rfl|exact RK rfl) (cg fB (hr.mono (by decide)) (ag (pv 0) (ag aw aj))))
   (ai (aK (i:=2) jq.nd rfl (by first|exact RM rfl|exact RK rfl) (cg fB (hr.mono (by decide)) (ag (pv 0) (ag aw aj))))
   (ai (aK (i:=3) jq.nd rfl (by first|exact RM rfl|exact RK rfl) (cg fB (hr.mono (by decide)) (ag (pv 0) (ag aw aj))))
   (ai (Jn (i:=4) (N:=["_law_k", "_law_one", "_law_two"]) (fr:=[1,2]) rfl jq.nd rfl (by first|exact RM rfl|exact RK rfl) rfl (by decide +kernel) rfl (by decide +kernel) rfl (fP.of (by decide +kernel) rfl rfl (by exact⟨rfl,rfl,trivial⟩) (by repeat (first|exact trivial|refine⟨(by first|exact fun _=>⟨_,rfl⟩|exact fun h=>(by rcases h with h|h <;> cases h)),?_⟩)) (by exact⟨⟨rfl,rfl,rfl⟩,⟨rfl,rfl,rfl⟩,trivial⟩)) (jR (by rfl) B.range (ag aw aj)) (fun _ _ _ _=>nD) (fun _ _ _ _=>(cg Gc (hr.mono (by decide)) (ag (pv 1) (ag (pv 2) (ag (pv 0) aj))))))
   (ai (aK (i:=5) jq.nd rfl (by first|exact RM rfl|exact RK rfl) (cg yQ (hr.mono (by decide)) (ag (cg pZ (hr.mono (by decide)) (ag (oB rn (pv 0) (nW aw) (nW aw)) (ag (pv 4) (ag (oR ot (aX dv (pv 3) aw) aw (cT _)) aj)))) aj)))
   (ai (iw (cA ot (aX dv (aS bU (by rfl) B.len PySem.boot_len (ag (pv 0) aj)) aw) aw (cT _)) (ax (aK (i:=5) jq.nd rfl (by first|exact RM rfl|exact RK rfl) (cg yQ (hr.mono (by decide)) (ag (cg IL (hr.mono (by decide)) (ag (pv 0) aj)) aj)))) eR)
   (ai (aK (i:=6) jq.nd rfl (by first|exact RM rfl|exact RK rfl) (cg DF (hr.mono (by decide)) (ag (cg EU (hr.mono (by decide)) (ag (pv 5) aj)) aj)))
   (ai (aK (i:=7) jq.nd rfl (by first|exact RM rfl|exact RK rfl) (cg C8 (hr.mono (by decide)) (ag (pv 5) aj)))
   (ai (aK (i:=8) jq.nd rfl (by first|exact RM rfl|exact RK rfl) (gk (N:=["_law_end", "_law_number"]) (fr:=[7]) rfl rfl (by decide +kernel) rfl (by decide +kernel) rfl (fP.of (by decide +kernel) rfl rfl (by exact⟨rfl,trivial⟩) (by repeat (first|exact trivial|refine⟨(by first|exact fun _=>⟨_,rfl⟩|exact fun h=>(by rcases h with h|h <;> cases h)),?_⟩)) (by exact⟨⟨rfl,rfl,rfl⟩,trivial⟩)) (cG (aS (og rfl) (by rfl) B.sorted Tr (ag (pv 7) aj))) (fun _ _ _ _=>vV (PW.pt (zJ (cA qE (pv 0) aw (cT _)) (wm (cA ot (jf (gG hr) (pv 1) (pv 0) (by first|rfl|exact trivial|(intro _ _;rfl))) (jf (gG hr) (pv 1) (mO jk (pv 0)) (by first|rfl|exact trivial|(intro _ _;rfl))) (cT _)))))) (fun _ _ _ _=>(pv 0))))
   (ai (iw (Gj (vW (cg AY (hr.mono (by decide)) (ag (pv 6) aj)))) (ax (bJ vq)) eR)
   (ai (iw (cA ot (aX dv (pv 3) aw) aw (cT _)) (ax (bJ (oR (G2 hu) (pv 6) (pv 8) (cT _)))) eR)
   (ax (bJ (GW (oR (G2 hu) (pv 6) (aS oX (by rfl) B.sorted Tr (ag (pv 6) aj)) (cT _)) (Fy (aS (xC rfl) (by rfl) B.all VJ (ag (gk (N:=["_law_road", "_law_due"]) (fr:=[8]) rfl rfl (by decide +kernel) rfl (by decide +kernel) rfl (fP.of (by decide +kernel) rfl rfl (by exact⟨rfl,trivial⟩) (by repeat (first|exact trivial|refine⟨(by first|exact fun _=>⟨_,rfl⟩|exact fun h=>(by rcases h with h|h <;> cases h)),?_⟩)) (by exact⟨⟨rfl,rfl,rfl⟩,trivial⟩)) (cG (pv 6)) (fun _ _ _ _=>nD) (fun _ _ _ _=>(oR C4 (pv 0) (pv 1) rfl))) aj))))))))))))))))),
   bb ["_law_script", "_law_one", "_law_two", "_law_pick", "_law_names", "_law_m", "_law_found", "_law_number", "_law_due"] (K:=K) (az (aO (i:=1) (SR.kSc (fq (aq (ah 0) (aq au aJ)))))
   (az (aO (i:=2) (SR.kSc (fq (aq (ah 0) (aq au aJ)))))
   (az (aO (i:=3) (SR.kSc (fq (aq (ah 0) (aq au aJ)))))
   (az (aO (i:=4) (Co (aq au aJ) nK (SR.kSc (fq (aq (ah 1) (aq (ah 2) (aq (ah 0) aJ)))))))
   (az (aO (i:=5) (bQ (aH (bQ (aH (BW (jZ 0) (oJ au) (oJ au)) (aH (aQ 4) (aH (SR.kSc (aD mU (aD dt (ah 3) au) au)) aW)))) aW)))
   (az (lO (cm (aD mU (aD dt (dP dO (aq (ah 0) aJ)) au) au)) (aO (i:=5) (bQ (aH (bQ (aH (aQ 0) aW)) aW))) fD)
   (az (aO (i:=6) (bQ (aH (bQ (aH (aQ 5) aW)) aW)))
   (az (aO (i:=7) (bQ (aH (aQ 5) aW)))
   (az (aO (i:=8) (eQ (xR (ah 7)) (zV (cm (aD qN (ah 0) au)) (cm (aD mU (jT (ah 1) (ah 0)) (jT (ah 1) (mN jg (ah 0)))))) (aQ 0)))
   (az (lO (Gx (qO (fq (aq (ah 6) aJ)))) (bK (SR.kSc uS)) fD)
   (az (lO (cm (aD mU (aD dt (ah 3) au) au)) (bK (SR.kSc (aD FM (ah 6) (ah 8)))) fD)
   (bK (SR.kSc (Ey (aD FM (ah 6) (SK.rOf (yD (jZ 6)))) (dP GC (aq (SK.rOf (eQ (aQ 6) nK (SR.kSc (aD (Aq false) (ah 0) (ah 1))))) aJ)))))))))))))))) h⟩⟩
end
end K44
namespace K16
open PySem L2 Mr Z
def zt:MS:=(ao (aC 2 (kSc (aR jv (aR jv (af 2) (rC (.int 1))) (aR ee (af 3) (aR qX (rC (.int 10)) (rC (.int 57))))))) (ao (aC 3 (kSc (aR Bg (af 3) (aR qX (rC (.int 10)) (rC (.int 57)))))) (C0 4 (lOf (dW (ar (ay 2) (ar (kSc (qD gD (af 2))) aG)))))))
def AI:MS:=(ao (LN 7 (af 8) (gM 6 (aR ee (af 3) (dD bS (ae (af 6) ak))))) (aC 3 (kSc (aR mD (af 3) (aR jv (dD bS (ae (af 6) ak)) (rC (.int 1)))))))
def AO:MS:=(ao (il 10 (af 8) (kSc (rC (.bl true)))) (ao (gJ 11 (ay 8)) (aC 8 (kSc (fO (af 7) (af 8))))))
def Ay:MS:=(ao (aC 11 (dW aG)) (ao (cv (cD (cY (af 8) (af 10))) AO 100000) (jt (HM (af 11)) (gJ 9 (ay 11)) bh)))
def zQ:MS:=(ao (jt (cD (cY (af 2) (af 10))) (gJ 12 (ay 2)) bh) (aC 2 (kSc (aR jv (af 2) (rC (.int 1))))))
def mf_L_any:MS:=(ao (aC 1 (kSc (aR ee (bE Zl.aB (ae (af 0) (ae (rC (.int 1)) ak))) (rC (.int 31)))))
 (ao (aC 2 (kSc (rC (.int 0))))
 (ao (aC 3 (kSc (bE Zl.aB (ae (af 0) (ae (rC (.int 2)) ak)))))
 (ao (aC 4 (dW aG))
 (ao (kF 5 (ae (af 1) ak) zt)
 (ao (aC 6 (iM (eU 4)))
 (ao (aC 3 (kSc (bE Zl.aB (ae (af 0) (ae (rC (.int 3)) ak)))))
 (ao (aC 7 hX)
 (ao (jF 8 (ay 4) AI)
 (ao (aC 9 (dW aG))
 (ao (aC 10 hX)
 (ao (jF 8 (ay 4) Ay)
 (ao (aC 12 (dW aG))
 (ao (aC 2 (kSc (aR jv (rC (.int 1)) (aR ee (bE Zl.aB (ae (af 0) (ae (rC (.int 4)) ak))) (aR qX (rC (.int 10)) (rC (.int 59)))))))
 (ao (cv (cD (aR Kv (dD bS (ae (af 12) ak)) (rC (.int 66)))) zQ 100000)
 (bw (Jw (ar (AL (uF 9) (lOf (dg (Nb (ae (aR ee (aR mD (bE Zl.aB (ae (af 0) (ae (rC (.int 1)) ak))) (rC (.int 31))) (rC (.int 4))) ak)) [] cX (dW aG)))) (ar (ay 12) aG)))))))))))))))))))
def f_L_any:MF:=cL 1 13 mf_L_any
end K16
--ZQ3 --ZQ4 --ZQ5 --ZQ6 --ZQ8 --ZQ9
namespace K51
open PySem L2 Mr Z Xe Zl
def rd(st sh a b k:Int):Int:=st*(1+(a*k+b) % 67)+sh
def rds(st sh a b:Int):List Int:=(Sg 67).map fun k:Nat=>rd st sh a b k
end K51
--ZQ3 --ZQ4 --ZQ5 --ZQ6 --ZQ8 --ZQ9
namespace K51
open PySem L2 Mr Z Xe Zl
end K51
--ZQ3 --ZQ4 --ZQ5 --ZQ6 --ZQ8 --ZQ9
namespace K51
open PySem L2 Mr Z Xe Zl
end K51
--ZQ3 --ZQ4 --ZQ5 --ZQ6 --ZQ8 --ZQ9
namespace K51
open PySem L2 Mr Z Xe Zl
def kd(ks:List Nat):List (aN×D):=ks.map fun k:Nat=>((RF (k:Int):aN),D.bl true)
def wd(ws:List Nat):List AV:=ws.map fun k:Nat=>AV.sh (.int (k:Int))
theorem Ai(ks:List Nat) (t:Nat):(kd ks).any (fun kv=>decide (kv.1=(RF (t:Int):aN)))=decide (t∈ks):=by
 induction ks with
 |nil=>simp[kd]
 |cons k ks ih =>
  unfold kd at ih ⊢;rw[Ru,TX,ih]
  by_cases h:t=k
  .subst h;simp
  .have h':¬ (RF (k:Int):aN)=RF (t:Int):=fun q=>h (by have:=RF.inj q;lia)
   simp[h',h]
theorem FU(ks:List Nat) (t:Nat):(getD (kd ks) (RF (t:Int))).isSome=decide (t∈ks):=by
 unfold getD;rw[Ul,←Ai,RZ,Vj,Vu]
theorem E5{ks:List Nat}{t:Nat}(h:t∉ks):jL (kd ks) (RF (t:Int)) (.bl true)=kd (ks++[t]):=by
 unfold jL;rw[Ai,decide_eq_false h,if_neg (by simp)]
 simp[kd]
theorem zp{kvs:List (aN×D)}{ks ws:List Nat}{e:Int}{t:Nat}{v0 v1 v5 v7:Option AV}(hg:getD kvs (RF (-e))=some (.int (t:Int))) (hk:ks.length<500000) (hw:ws.length<500000) :
  eD [v0,v1,some (.owd kvs),some (.owd (kd ks)),some (.ow (wd ws)),v5,some (.sh (.int e)),v7]=some (.nx [v0,v1,some (.owd kvs),some (.owd (kd (if t∈ks then ks else ks++[t]))),some (.ow (wd (if t∈ks then ws else ws++[t]))),v5,some (.sh (.int e)),some (.sh (.int (t:Int)))]):=by
 have l1:(kd ks).length<cZ:=by unfold kd;rw[lMq];show _<16777216;lia
 have l2:(wd ws).length<cZ:=by unfold wd;rw[lMq];show _<16777216;lia
 have hg2:=FU ks t
 by_cases h:t∈ks
 .rw [decide_eq_true h]at hg2
  simp_arith [eD,hg,hg2,h]
 .rw [decide_eq_false h]at hg2;have hp:=E5 h;have hw2:wd ws++[.sh (.int (t:Int))]=wd (ws++[t]):=by simp[wd]
  simp_arith [eD,hg,hg2,h,hp,l1,l2,hw2]
def rG(pl:Int->Nat) (x:List Nat×List Nat) (e:Int):List Nat×List Nat:=if pl (-e)∈x.1 then x else (x.1++[pl (-e)],x.2++[pl (-e)])
theorem BE(pl:Int->Nat):∀(r:List Int) (x:List Nat×List Nat),(r.foldl (rG pl) x).1.length<=x.1.length+r.length/\(r.foldl (rG pl) x).2.length<=x.2.length+r.length
 | [],x=>⟨Rk _,Rk _⟩
 |e::r,x=>by
  obtain⟨h1,h2⟩:=BE pl r (rG pl x e);have h3:(rG pl x e).1.length<=x.1.length+1/\(rG pl x e).2.length<=x.2.length+1:=by
   unfold rG;split
   .exact ⟨Tz _,Tz _⟩
   .simp
  rw[Ss,lCq];lia
theorem CH{kvs:List (aN×D)}{ks ws:List Nat}{r:List Int}{pl:Int->Nat}{v0 v1 v5 v6 v7:Option AV}(hg:∀e∈r,getD kvs (RF (-e))=some (.int (pl (-e):Int))) (hk:ks.length+r.length<500000) (hw:ws.length+r.length<500000) :
  ∃v6' v7',dE 6 eD (r.map D.int) [v0,v1,some (.owd kvs),some (.owd (kd ks)),some (.ow (wd ws)),v5,v6,v7]=some (.nx [v0,v1,some (.owd kvs),some (.owd (kd (r.foldl (rG pl) (ks,ws)).1)),some (.ow (wd (r.foldl (rG pl) (ks,ws)).2)),v5,v6',v7']):=by
 have key:=fk (x:=6) (body:=eD) (fun i S=>∃v6' v7',S=[v0,v1,some (.owd kvs),some (.owd (kd ((r.take i).foldl (rG pl) (ks,ws)).1)),some (.ow (wd ((r.take i).foldl (rG pl) (ks,ws)).2)),v5,v6',v7']) (ds:=r.map D.int) (S:=[v0,v1,some (.owd kvs),some (.owd (kd ks)),some (.ow (wd ws)),v5,v6,v7])
  ⟨v6,v7,rfl⟩ (by
  rintro i d S hd ⟨v6',v7',rfl⟩;rw[gMq]at hd;obtain⟨e,he,rfl⟩:=oMq.mp hd;have hi:i<r.length:=(gSq.mp he).1;have hm:e∈r:=mGq he;obtain⟨n1,n2⟩:=BE pl (r.take i) (ks,ws);rw[lTq]at n1 n2;have n1':((r.take i).foldl (rG pl) (ks,ws)).1.length<=ks.length+min i r.length:=n1;have n2':((r.take i).foldl (rG pl) (ks,ws)).2.length<=ws.length+min i r.length:=n2;have step:=zp (v0:=v0) (v1:=v1) (v5:=v5) (v7:=v7') (hg e hm) (ks:=((r.take i).foldl (rG pl) (ks,ws)).1) (ws:=((r.take i).foldl (rG pl) (ks,ws)).2) (by lia) (by lia)
  have et:(r.take (i+1)).foldl (rG pl) (ks,ws)=rG pl ((r.take i).foldl (rG pl) (ks,ws)) e:=by
   have:r[i]'hi=e:=by rw[gEg hi]at he;exact RD.inj he
   rw[T6 hi,UI,this];rfl
  refine⟨_,step,some (.sh (.int e)),some (.sh (.int (pl (-e):Int))),?_⟩;rw[et];unfold rG;split <;> rfl)
 obtain⟨S',e,v6',v7',rfl⟩:=key;rw[lMq,RY]at e;exact⟨v6',v7',e⟩
end K51
--ZQ3 --ZQ4 --ZQ5 --ZQ6 --ZQ8 --ZQ9
namespace K51
open PySem L2 Mr Z Xe Zl
theorem Mn:∀(N:Nat) (l:List Nat),l.Nodup->(∀x∈l,x<N)->l.length<=N
 |0,l,_,h=>by
  cases l with
  |nil=>exact Rk _
  |cons x l=>exact absurd (h x (Rq ..)) (Tb _)
 |N+1,l,hn,h=>by
  have h2:=Mn N (l.erase N) (hn.erase N) (fun x hx=>by
   have:=(hn.mem_erase_iff).mp hx;have:=h x this.2;lia)
  rw[List.length_erase]at h2;split at h2 <;> lia
def plc(rs:List (List Int)) (e:Int):Nat:=rs.findIdx fun r=>decide (e∈r)
theorem same_place{rs:List (List Int)}(hn:rs.flatten.Nodup) {i j:Nat}{r s:List Int}{e:Int}(hi:rs[i]?=some r) (hj:rs[j]?=some s) (h1:e∈r) (h2:e∈s):i=j:=by
 have a:=ki 0 hn hi h1;have b:=ki 0 hn hj h2;rw[a]at b;have:=D.int.inj (RD.inj b);lia
theorem plc_eq{rs:List (List Int)}(hn:rs.flatten.Nodup) {i:Nat}{r:List Int}{e:Int}(hi:rs[i]?=some r) (h1:e∈r):plc rs e=i:=by
 have hl:rs.findIdx (fun r=>decide (e∈r))<rs.length:=T5 ⟨r,mGq hi,decide_eq_true h1⟩
 have h2:=UX (xs:=rs) (p:=fun r=>decide (e∈r)) (w:=hl)
 exact same_place hn (gEg hl) hi (of_decide_eq_true h2) h1
structure Mp (rs:List (List Int)):Prop where
 hn:rs.flatten.Nodup
 hl:rs.flatten.length<=1000
 hr:rs.length<=1000
 hneg:∀e∈rs.flatten, -e∈rs.flatten
theorem Mp.at{rs:List (List Int)}(h:Mp rs) {e:Int}(he:e∈rs.flatten):∃r,rs[plc rs e]?=some r/\e∈r:=by
 obtain⟨r,h1,h2⟩:=mFq.mp he;obtain⟨i,h3⟩:=Rv.mp h1;exact⟨r,by rw[plc_eq h.hn h3 h2];exact h3,h2⟩
theorem Mp.other{rs:List (List Int)}(h:Mp rs) {k:Nat}{r:List Int}{e:Int}(hk:rs[k]?=some r) (he:e∈r):-e∈rs.flatten:=h.hneg e (mFq.mpr ⟨r,mGq hk,he⟩)
theorem Mp.kv{rs:List (List Int)}(h:Mp rs) {e:Int}(he:e∈rs.flatten):getD (bW 0 rs) (RF e)=some (.int (plc rs e:Int)):=by
 obtain⟨r,h1,h2⟩:=h.at he;have:=ki 0 h.hn h1 h2
 rwa [SB]at this
theorem Mp.lt{rs:List (List Int)}(h:Mp rs) {e:Int}(he:e∈rs.flatten):plc rs e<rs.length:=by
 obtain⟨r,h1,_⟩:=h.at he;exact(gSq.mp h1).1
theorem Mp.row{rs:List (List Int)}(h:Mp rs) {k:Nat}{r:List Int}(hk:rs[k]?=some r):r.length<=1000:=by
 have:=S5.length_le (RE (mGq hk));have:=h.hl;lia
inductive eJ (rs:List (List Int)) (s:Nat):Nat->Prop
 |base:eJ rs s s
 |step {k:Nat}{r:List Int}{e:Int}:eJ rs s k->rs[k]?=some r->e∈r->eJ rs s (plc rs (-e))
theorem tP(pl:Int->Nat):∀(r:List Int) (ks ws:List Nat),∃a,r.foldl (rG pl) (ks,ws)=(ks++a,ws++a)/\(∀k∈a,∃e∈r,k=pl (-e))/\(∀e∈r,pl (-e)∈ks++a)/\(ks.Nodup->(ks++a).Nodup)
 | [],ks,ws=>⟨[],by simp,by simp,by simp,by simp⟩
 |e::r,ks,ws=>by
  rw[Ss]
  by_cases h:pl (-e)∈ks
  .have e1:rG pl (ks,ws) e=(ks,ws):=by unfold rG;rw[if_pos h]
   rw[e1];obtain⟨a,h1,h2,h3,h4⟩:=tP pl r ks ws;refine⟨a,h1,fun k hk=>?_,fun x hx=>?_,h4⟩
   .obtain ⟨x,hx,q⟩:=h2 k hk;exact⟨x,mCo _ hx,q⟩
   .rcases Rl.mp hx with rfl|hx
    .exact mAq.mpr (.inl h)
    .exact h3 x hx
  .have e1:rG pl (ks,ws) e=(ks++[pl (-e)],ws++[pl (-e)]):=by unfold rG;rw[if_neg h]
   rw[e1];obtain⟨a,h1,h2,h3,h4⟩:=tP pl r (ks++[pl (-e)]) (ws++[pl (-e)]);refine⟨pl (-e)::a,by rw[h1,Rn,Rn];rfl,fun k hk=>?_,fun x hx=>?_,fun hn=>?_⟩
   .rcases Rl.mp hk with rfl|hk
    .exact ⟨e,Rq ..,rfl⟩
    .obtain ⟨x,hx,q⟩:=h2 k hk;exact⟨x,mCo _ hx,q⟩
   .rcases Rl.mp hx with rfl|hx
    .exact mAq.mpr (.inr (Rq ..))
    .have:=h3 x hx
     rwa [Rn]at this
   .have:=h4 (by
     rw[nAq];exact⟨hn,by simp,fun x hx y hy q=>h (by rw[mSq.mp hy]at q;rw[←q];exact hx)⟩)
    rwa [Rn]at this
structure Inv (rs:List (List Int)) (s:Nat) (ks ws:List Nat):Prop where
 nd:ks.Nodup
 lt:∀k∈ks,k<rs.length
 st:s∈ks
 rc:∀k∈ks,eJ rs s k
 sub:∀w∈ws,w∈ks
 cl:∀k∈ks,k∉ws->∀r e,rs[k]?=some r->e∈r->plc rs (-e)∈ks
 few:2*(rs.length-ks.length)+ws.length<=2*rs.length+1
theorem Inv.go{rs:List (List Int)}(hm:Mp rs) {s h:Nat}{ks ws:List Nat}{r:List Int}(hi:Inv rs s ks (ws++[h])) (hr:rs[h]?=some r):∃a,r.foldl (rG (plc rs)) (ks,ws)=(ks++a,ws++a)/\Inv rs s (ks++a) (ws++a)/\2*(rs.length-(ks++a).length)+(ws++a).length<2*(rs.length-ks.length)+(ws++[h]).length:=by
 obtain⟨a,h1,h2,h3,h4⟩:=tP (plc rs) r ks ws;have hh:h∈ks:=hi.sub h (by simp)
 have nd:=h4 hi.nd;have lt:∀k∈ks++a,k<rs.length:=by
  intro k hk;rcases mAq.mp hk with q|q
  .exact hi.lt k q
  .obtain ⟨e,he,rfl⟩:=h2 k q;exact hm.lt (hm.other hr he)
 have pl:=Mn _ _ nd lt;have p0:=hi.few;rw[lAq]at pl;rw[lAq,lSq]at p0;have key:2*(rs.length-(ks++a).length)+(ws++a).length<2*(rs.length-ks.length)+(ws++[h]).length:=by
  rw[lAq,lAq,lAq,lSq];lia
 refine⟨a,h1,⟨nd,lt,mAq.mpr (.inl hi.st),fun k hk=>?_,fun w hw=>?_,fun k hk hw=>?_,?_⟩,key⟩
 .rcases mAq.mp hk with q|q
  .exact hi.rc k q
  .obtain ⟨e,he,rfl⟩:=h2 k q;exact .step (hi.rc h hh) hr he
 .rcases mAq.mp hw with q|q
  .exact mAq.mpr (.inl (hi.sub w (mAq.mpr (.inl q))))
  .exact mAq.mpr (.inr q)
 .intro r' e hr' he;have k1:k∈ks:=(mAq.mp hk).resolve_right fun q=>hw (mAq.mpr (.inr q))
  by_cases q:k=h
  .subst q;rw[hr]at hr';cases hr';exact h3 e he
  .exact mAq.mpr (.inl (hi.cl k k1 (fun z=>by
    rcases mAq.mp z with z|z
    .exact hw (mAq.mpr (.inl z))
    .exact q (mSq.mp z)) r' e hr' he))
 .rw [lAq,lAq]at key ⊢;rw[lAq,lSq]at key;lia
def mu(N:Nat):AS->Nat
 | [_,_,_,some (.owd kv),some (.ow w),_,_,_]=>2*(N-kv.length)+w.length
 |_=>0
theorem Ap{rs:List (List Int)}(hm:Mp rs) {s:Nat}(hs:s<rs.length):∃S',cv (cD (aR uE (dD bS (ae (af 4) ak)) (rC (.int 0)))) gN 100000 [some (.sh (dM rs)),some (.sh (.int (s:Int))),some (.owd (bW 0 rs)),some (.owd (kd [s])),some (.ow (wd [s])),none,none,none]=some (.nx S') /\
  ∃ks v5 v6 v7,S'=[some (.sh (dM rs)),some (.sh (.int (s:Int))),some (.owd (bW 0 rs)),some (.owd (kd ks)),some (.ow (wd [])),v5,v6,v7]/\Inv rs s ks []:=by
 have h1000:=hm.hr;refine hZ (c:=cD (aR uE (dD bS (ae (af 4) ak)) (rC (.int 0)))) (body:=gN) (fun S=>∃ks ws v5 v6 v7,S=[some (.sh (dM rs)),some (.sh (.int (s:Int))),some (.owd (bW 0 rs)),some (.owd (kd ks)),some (.ow (wd ws)),v5,v6,v7]/\Inv rs s ks ws) (mu rs.length) (fun S'=>∃ks v5 v6 v7,S'=[some (.sh (dM rs)),some (.sh (.int (s:Int))),some (.owd (bW 0 rs)),some (.owd (kd ks)),some (.ow (wd [])),v5,v6,v7]/\Inv rs s ks []) ?_ 100000 _ ⟨[s],[s],none,none,none,rfl,?_⟩ ?_
 .rintro S ⟨ks,ws,v5,v6,v7,rfl,hi⟩;rcases Uo ws with rfl|⟨ws,h,rfl⟩
  .refine ⟨false,_,?_,fun q=>(nomatch q),fun _=>⟨ks,v5,v6,v7,rfl,hi⟩⟩
   simp_arith [wd]
   rfl
  .rw [Up]at hi ⊢;have hlt:h<rs.length:=hi.lt h (hi.sub h (by simp))
   have hr:rs[h]?=some rs[h]:=gEg hlt;obtain⟨a,e1,hi2,mlt⟩:=hi.go hm hr;have few:=hi.few;have kl:=Mn _ _ hi.nd hi.lt;have rl:=hm.row hr;rw[lAq,lSq]at few;obtain⟨v6',v7',e2⟩:=CH (kvs:=bW 0 rs) (ks:=ks) (ws:=ws) (r:=rs[h]) (pl:=plc rs) (v0:=some (.sh (dM rs))) (v1:=some (.sh (.int (s:Int)))) (v5:=some (.sh (.int (h:Int)))) (v6:=v6) (v7:=v7) (fun e he=>hm.kv (hm.other hr he)) (by lia) (by lia)
   rw[e1]at e2;have hw:wd (ws++[h])=wd ws++[.sh (.int (h:Int))]:=by simp[wd]
   have wl:(wd ws).length=ws.length:=by simp[wd]
   have c1:(0:Int)<((wd ws++[AV.sh (.int (h:Int))]).length:Int):=by
    rw[lAq,lSq];lia
   have p1:(wd ws++[AV.sh (.int (h:Int))])[(wd ws++[AV.sh (.int (h:Int))]).length-1]?=some (.sh (.int (h:Int))):=by
    rw[lAq,lSq,gYq (by lia)]
    simp
   have p2:(wd ws++[AV.sh (.int (h:Int))]).dropLast=wd ws:=Tu;have at1:atI (rs.map dI) (h:Int)=some (dI rs[h]):=rJ (by rw[gMq,hr];rfl)
   refine⟨true,[some (.sh (dM rs)),some (.sh (.int (s:Int))),some (.owd (bW 0 rs)),some (.owd (kd ks)),some (.ow (wd ws++[.sh (.int (h:Int))])),v5,v6,v7],?_,fun _=>⟨[some (.sh (dM rs)),some (.sh (.int (s:Int))),some (.owd (bW 0 rs)),some (.owd (kd (ks++a))),some (.ow (wd (ws++a))),some (.sh (.int (h:Int))),v6',v7'],?_,⟨_,_,_,_,_,rfl,hi2⟩,?_⟩,fun q=>(nomatch q)⟩
   .simp_arith [hw,c1]
   .simp_arith [gN,p1,p2,dM,at1,e2]
   .show 2*(rs.length-(kd (ks++a)).length)+(wd (ws++a)).length<2*(rs.length-(kd ks).length)+(wd (ws++[h])).length;unfold kd wd;rw[lMq,lMq,lMq,lMq];exact mlt
 .refine ⟨by simp,?_,by simp,?_,fun w h=>h,?_,?_⟩
  .intro k hk;rw[mSq.mp hk];exact hs
  .intro k hk;rw[mSq.mp hk];exact .base
  .intro k hk hn;exact absurd hk hn
  .simp only [lSq];lia
 .show 2*(rs.length-(kd [s]).length)+(wd [s]).length<100000;simp only[kd,wd,lMq,lSq];lia
theorem A7{rs:List (List Int)}(hm:Mp rs) {s:Nat}(hs:s<rs.length):∃ks,Inv rs s ks []/\fY [dM rs,.int (s:Int)]=some (aI (bV (ks.map fun k:Nat=>(k:Int)))):=by
 obtain⟨S',e,ks,v5,v6,v7,rfl,hi⟩:=Ap hm hs;have hl:=hm.hl;have pa:=om hm.hn (by lia)
 have e1:[((RF (s:Int):aN),D.bl true)]=kd [s]:=rfl;have e2:[AV.sh (.int (s:Int))]=wd [s]:=rfl;have e3:lQ (kd ks)=some (ks.map fun k:Nat=>(k:Int)):=pR (fun k:Nat=>(k:Int)) (fun _=>D.bl true) ks
 have l1:(wd [s]).length<=cZ:=by show 1<=16777216;decide
 refine⟨ks,hi,?_⟩
 simp_arith [fY,uv,pa,e1,e2,e,e3,l1]
end K51
--ZQ3 --ZQ4 --ZQ5 --ZQ6 --ZQ8 --ZQ9
namespace K51
open PySem L2 Mr Z Xe Zl
theorem Hx(ks:List Nat):∃ps:List Nat,ps.Perm ks/\ps.Pairwise (·<=·)/\bV (ks.map fun k:Nat=>(k:Int))=ps.map fun k:Nat=>(k:Int):=by
 have hp:=cJ (ks.map fun k:Nat=>(k:Int))
 have hs:=iQ (ks.map fun k:Nat=>(k:Int))
 have hc:(bV (ks.map fun k:Nat=>(k:Int)))=((bV (ks.map fun k:Nat=>(k:Int))).map VL).map fun k:Nat=>(k:Int):=by
  rw[mPq]
  conv=>lhs;rw[←TR (bV (ks.map fun k:Nat=>(k:Int)))]
  refine mCq fun z hz=>?_
  obtain⟨k,_,rfl⟩:=mMq.mp (hp.mem_iff.mp hz);rfl
 refine⟨(bV (ks.map fun k:Nat=>(k:Int))).map VL,?_,?_,hc⟩
 .have:=hp.map VL;rw[mPq]at this;have e:ks.map (VL∘fun k:Nat=>(k:Int))=ks:=by
   conv=>rhs;rw[←TR ks]
   refine mCq fun k _=>?_
   show VL (k:Int)=k;exact Tv k
  rwa [e]at this
 .rw [RW];refine RC.imp (fun h=>?_) hs
  lia
structure Pc (rs:List (List Int)) (s:Nat) (ps:List Nat):Prop where
 nd:ps.Nodup
 so:ps.Pairwise (·<=·)
 lt:∀k∈ps,k<rs.length
 iff:∀k,k∈ps↔eJ rs s k
theorem uf{rs:List (List Int)}(hm:Mp rs) {s:Nat}(hs:s<rs.length):∃ps,Pc rs s ps/\fY [dM rs,.int (s:Int)]=some (aI (ps.map fun k:Nat=>(k:Int))):=by
 obtain⟨ks,hi,e⟩:=A7 hm hs;obtain⟨ps,h1,h2,h3⟩:=Hx ks;rw[h3]at e;refine⟨ps,⟨h1.symm.nodup hi.nd,h2,fun k hk=>hi.lt k (h1.mem_iff.mp hk),fun k=>⟨fun hk=>hi.rc k (h1.mem_iff.mp hk),fun hk=>h1.mem_iff.mpr ?_⟩⟩,e⟩
 induction hk with
 |base=>exact hi.st
 |step _ a b c=>exact hi.cl _ c (Vs) _ _ a b
def addN(kn:List Nat) (t:Nat):List Nat:=if t∈kn then kn else kn++[t]
theorem Ir(ks:List Nat) (t:Nat):jL (kd ks) (RF (t:Int)) (.bl true)=kd (addN ks t):=by
 unfold addN
 by_cases h:t∈ks
 .rw [if_pos h];unfold jL;rw[Ai,decide_eq_true h,if_pos rfl];unfold kd;rw[mPq];refine mCq fun k _=>?_
  show (if _ then _ else _)=_
  split <;> rfl
 .rw [if_neg h];exact E5 h
theorem D7(kn:List Nat) (t:Nat):(addN kn t).length<=kn.length+1:=by
 unfold addN;split
 .lia
 .simp
theorem fold_len:∀(ps kn:List Nat),(ps.foldl addN kn).length<=kn.length+ps.length
 | [],kn=>Rk _
 |p::ps,kn=>by
  have h1:=fold_len ps (addN kn p);have h2:=D7 kn p;rw[Ss,lCq];lia
theorem GV{kn:List Nat}{t k:Nat}:k∈addN kn t↔k∈kn∨k=t:=by
 unfold addN;split
 .rename_i h;exact⟨.inl,fun q=>q.elim id fun q=>q ▸ h⟩
 .simp
theorem ix:∀{ps kn:List Nat}{k:Nat},k∈ps.foldl addN kn↔k∈kn∨k∈ps
 | [],kn,k=>by simp
 |p::ps,kn,k=>by
  rw[Ss,ix,GV,Rl,or_assoc]
theorem Jq{kn:List Nat}{t:Nat}(h:kn.Nodup):(addN kn t).Nodup:=by
 unfold addN;split
 .exact h
 .rename_i q;rw[nAq];exact⟨h,by simp,fun x hx y hy z=>q (by rw[mSq.mp hy]at z;rw[←z];exact hx)⟩
theorem Bw:∀{ps kn:List Nat},kn.Nodup->(ps.foldl addN kn).Nodup
 | [],kn,h=>h
 |p::ps,kn,h=>by
  rw[Ss];exact Bw (Jq h)
theorem Df{ps kn:List Nat}{v0 v2 v3 v4 v5:Option AV}(hk:kn.length+ps.length<500000):∃v5',dE 5 jb ((ps.map fun k:Nat=>(k:Int)).map D.int) [v0,some (.owd (kd kn)),v2,v3,v4,v5]=some (.nx [v0,some (.owd (kd (ps.foldl addN kn))),v2,v3,v4,v5']):=by
 have key:=fk (x:=5) (body:=jb) (fun i S=>∃v5',S=[v0,some (.owd (kd ((ps.take i).foldl addN kn))),v2,v3,v4,v5']) (ds:=(ps.map fun k:Nat=>(k:Int)).map D.int) (S:=[v0,some (.owd (kd kn)),v2,v3,v4,v5]) ⟨v5,rfl⟩ (by
  rintro i d S hd ⟨v5',rfl⟩;rw[gMq,gMq]at hd;obtain⟨z,hz,rfl⟩:=oMq.mp hd;obtain⟨k,hk',rfl⟩:=oMq.mp hz;have hi:i<ps.length:=(gSq.mp hk').1;have n1:=fold_len (ps.take i) kn;rw[lTq]at n1;have l1:(kd ((ps.take i).foldl addN kn)).length<cZ:=by unfold kd;rw[lMq];show _<16777216;lia
  have et:(ps.take (i+1)).foldl addN kn=addN ((ps.take i).foldl addN kn) k:=by
   have:ps[i]'hi=k:=by rw[gEg hi]at hk';exact RD.inj hk'
   rw[T6 hi,UI,this];rfl
  have hp:=Ir ((ps.take i).foldl addN kn) k;rw[←et]at hp;refine⟨_,?_,some (.sh (.int (k:Int))),rfl⟩
  simp_arith [jb,l1,hp])
 obtain⟨S',e,v5',rfl⟩:=key;rw[lMq,lMq,RY]at e;exact⟨v5',e⟩
theorem AC{rs:List (List Int)}{ps:List Nat}(h:∀k∈ps,k<rs.length):cE cX (iM (lOf (KI (eU 1) (af 0)))) [some (.sh (dM rs))] ((ps.map fun k:Nat=>(k:Int)).map D.int)=some (ps.map fun k=>aI (rs.getD k [])):=by
 have key:=fi (te:=iM (lOf (KI (eU 1) (af 0)))) (cap:=[some (.sh (dM rs))]) (fun d=>match d with|.int k=>aI (rs.getD k.toNat [])|_=>.sh .non) (ds:=(ps.map fun k:Nat=>(k:Int)).map D.int) (by
  intro d hd;rw[mPq]at hd;obtain⟨k,hk,rfl⟩:=mMq.mp hd;have at1:=NG (h k hk);refine⟨[some (.sh (.int (k:Int))),some (.sh (dM rs))],?_⟩
  simp_arith [dM,at1,Function.comp,Tv,dI,aI,mPq]
  rfl)
 rw[key,mPq,mPq];rfl
def pA(rs:List (List Int)) (ps:List Nat):AV:=.ow (ps.map fun k=>aI (rs.getD k []))
theorem eJ.trans{rs:List (List Int)}{a b c:Nat}(h:eJ rs a b) (h2:eJ rs b c):eJ rs a c:=by
 induction h2 with
 |base=>exact h
 |step _ p q r=>exact .step r p q
theorem eJ.symm{rs:List (List Int)}(hm:Mp rs) {a b:Nat}(h:eJ rs a b):eJ rs b a:=by
 induction h with
 |base=>exact .base
 | @step k r e _ p q ih =>
  obtain⟨r',h1,h2⟩:=hm.at (hm.other p q);have:=eJ.step (s:=plc rs (-e)) .base h1 h2;rw[Sm,plc_eq hm.hn p q]at this;exact this.trans ih
structure Ps (rs:List (List Int)) (i:Nat) (kn:List Nat) (PS:List (List Nat)):Prop where
 sub:∀ps∈PS,∀k∈ps,k∈kn
 dj:PS.Pairwise fun a b=>∀k∈a,k∉b
 pc:∀ps∈PS,∃s,s<rs.length/\Pc rs s ps
 all:∀k,k<i->k∈kn
 mem:∀k,k∈kn->∃ps∈PS,k∈ps
 nd:kn.Nodup
 lt:∀k∈kn,k<rs.length
 len:PS.length<=i
theorem mv{rs:List (List Int)}(hm:Mp rs):∃kn PS,Ps rs rs.length kn PS/\oY [dM rs]=some (.ow (PS.map (pA rs))):=by
 have h1000:=hm.hr;have key:=fk (x:=3) (body:=iP) (fun i S=>∃kn PS v3 v4 v5,S=[some (.sh (dM rs)),some (.owd (kd kn)),some (.ow (PS.map (pA rs))),v3,v4,v5]/\Ps rs i kn PS) (ds:=bP 0 rs.length) (S:=[some (.sh (dM rs)),some (.owd []),some (.ow []),none,none,none])
  ⟨[],[],none,none,none,rfl,⟨by simp,by simp,by simp,by simp,by simp,by simp,by simp,by simp⟩⟩ (by
  rintro i d S hd ⟨kn,PS,v3,v4,v5,rfl,hp⟩;have hi:i<rs.length:=by
   have:=(gSq.mp hd).1
   rwa [bO]at this
  rw[nh hi,V4]at hd;cases hd;have hg:=FU kn i
  by_cases c:i∈kn
  .rw [decide_eq_true c]at hg;refine⟨[some (.sh (dM rs)),some (.owd (kd kn)),some (.ow (PS.map (pA rs))),some (.sh (.int (i:Int))),v4,v5],?_,kn,PS,_,_,_,rfl,hp.sub,hp.dj,hp.pc,?_,hp.mem,hp.nd,hp.lt,?_⟩
   .simp_arith [iP,hg]
   .intro k hk;rcases Sx.mp hk with q|rfl
    .exact hp.all k q
    .exact c
   .have:=hp.len;lia
  .rw [decide_eq_false c]at hg;obtain⟨ps,h1,e1⟩:=uf hm hi;have p1:=Mn _ _ hp.nd hp.lt;have p2:=Mn _ _ h1.nd h1.lt;have p3:=hp.len;have l2:ps.length<=cZ:=by show _<=16777216;lia
   have l3:PS.length<cZ:=by show _<16777216;lia
   obtain⟨v5',e2⟩:=Df (ps:=ps) (kn:=kn) (v0:=some (.sh (dM rs))) (v2:=some (.ow (PS.map (pA rs)))) (v3:=some (.sh (.int (i:Int)))) (v4:=some (.sh (dI (ps.map fun k:Nat=>(k:Int))))) (v5:=v5) (by lia)
   have e3:=AC h1.lt;refine⟨[some (.sh (dM rs)),some (.owd (kd (ps.foldl addN kn))),some (.ow ((PS++[ps]).map (pA rs))),some (.sh (.int (i:Int))),some (.sh (dI (ps.map fun k:Nat=>(k:Int)))),v5'],?_,ps.foldl addN kn,PS++[ps],_,_,_,rfl,?_,?_,?_,?_,?_,Bw hp.nd,?_,?_⟩
   .simp_arith [iP,hg,e1,e2,e3,l2,l3,mBq,pA]
   .intro qs hq k hk;rcases mAq.mp hq with q|q
    .exact ix.mpr (.inl (hp.sub qs q k hk))
    .rw [mSq.mp q]at hk;exact ix.mpr (.inr hk)
   .rw [RN];refine⟨hp.dj,List.pairwise_singleton ..,fun qs hq b hb k hk hk2=>c ?_⟩
    rw[mSq.mp hb]at hk2;obtain⟨s,hs,hc⟩:=hp.pc qs hq;exact hp.sub qs hq i ((hc.iff i).mpr (((hc.iff k).mp hk).trans (((h1.iff k).mp hk2).symm hm)))
   .intro qs hq;rcases mAq.mp hq with q|q
    .exact hp.pc qs q
    .rw [mSq.mp q];exact⟨i,hi,h1⟩
   .intro k hk;rcases Sx.mp hk with q|rfl
    .exact ix.mpr (.inl (hp.all k q))
    .exact ix.mpr (.inr ((h1.iff k).mpr .base))
   .intro k hk;rcases ix.mp hk with q|q
    .obtain ⟨qs,a,b⟩:=hp.mem k q;exact⟨qs,mAq.mpr (.inl a),b⟩
    .exact ⟨ps,mAq.mpr (.inr (mSq.mpr rfl)),q⟩
   .intro k hk;rcases ix.mp hk with q|q
    .exact hp.lt k q
    .exact h1.lt k q
   .rw [lAq,lSq];lia)
 obtain⟨S',e,kn,PS,v3,v4,v5,rfl,hp⟩:=key;rw[bO]at hp;have r1:=mn (n:=rs.length) (by lia)
 refine⟨kn,PS,hp,?_⟩
 simp_arith [oY,vF,dM,r1,e]
end K51
--ZQ3 --ZQ4 --ZQ5 --ZQ6 --ZQ8 --ZQ9
namespace K51
open PySem L2 Mr Z Xe Zl
def rot(r:List Int):List Int:=r.drop 1++r.take 1
def cK(r:List Int):List (aN×Int):=(r.zip (rot r)).map fun p=>(.inl p.1,p.2)
def aZ(rs:List (List Int)):List (aN×Int):=(rs.map cK).flatten
def gW(ps:List (aN×Int)):List (aN×D):=ps.map fun p=>(p.1,D.int p.2)
theorem pe(r:List Int):(rot r).length=r.length:=by
 unfold rot;rw[lAq,RL,lTq];lia
theorem rot_perm(r:List Int):(rot r).Perm r:=by
 unfold rot;refine Sb.trans ?_;rw[R5]
theorem iY(r:List Int):(cK r).length=r.length:=by
 unfold cK;rw[lMq,VC,pe,Nat.min_self]
theorem oy(r:List Int):(cK r).map (·.1)=r.map RF:=by
 unfold cK;rw[mPq];have:r.map RF=((r.zip (rot r)).map Prod.fst).map (RF:Int->aN):=by rw[List.map_fst_zip (by rw[pe];exact Rk _)]
 rw[this,mPq];rfl
theorem wQ(r:List Int):(cK r).map (·.2)=rot r:=by
 unfold cK;rw[mPq];have:rot r=(r.zip (rot r)).map Prod.snd:=by rw[List.map_snd_zip (by rw[pe];exact Rk _)]
 exact this.symm
theorem fX:∀(rs:List (List Int)),(aZ rs).map (·.1)=rs.flatten.map RF
 | []=>rfl
 |r::rs=>by
  show (cK r++aZ rs).map (·.1)=_;rw[mBq,oy,fX rs,fCq,mBq]
theorem mX:∀(rs:List (List Int)),((aZ rs).map (·.2)).Perm rs.flatten
 | []=>.nil
 |r::rs=>by
  show ((cK r++aZ rs).map (·.2)).Perm _;rw[mBq,wQ,fCq];exact(rot_perm r).append (mX rs)
theorem CZ(rs:List (List Int)):(aZ rs).length=rs.flatten.length:=by
 have:=congrArg S6 (fX rs)
 rwa [lMq,lMq]at this
theorem uc(rs:List (List Int)) (r:List Int):aZ (rs++[r])=aZ rs++cK r:=by
 unfold aZ;rw[mBq,fAq];simp
theorem Jk(ps:List (aN×Int)):(gW ps).length=ps.length:=lMq _
theorem Ic(a b:List (aN×Int)):gW (a++b)=gW a++gW b:=mBq
theorem D2(ps:List (aN×Int)):(gW ps).map (·.1)=ps.map (·.1):=by
 unfold gW;rw[mPq];rfl
theorem rX{r:List Int}{j:Nat}{z y:Int}(h:r[j]?=some z) (h2:(rot r)[j]?=some y):(cK r)[j]?=some (.inl z,y):=by
 unfold cK;rw[gMq,T4 (z:=(z,y)).mpr ⟨h,h2⟩];rfl
theorem xt{rs:List (List Int)}{i j:Nat}{r:List Int}{z y:Int}(hn:rs.flatten.Nodup) (hr:rs[i]?=some r) (hz:r[j]?=some z) (hy:(rot r)[j]?=some y) :
  jL (gW (aZ (rs.take i)++(cK r).take j)) (.inl z) (.int y)=gW (aZ (rs.take i)++(cK r).take (j+1)):=by
 have hfl:=cS hr;have hnd:((rs.take i).flatten++r).Nodup:=by
  rw[←hfl];have e0:rs.flatten=(rs.take (i+1)).flatten++(rs.drop (i+1)).flatten:=by rw[←fAq,R5]
  rw[e0]at hn;exact(nAq.mp hn).1
 rw[oE]
 .rw [bz (rX hz hy),←Rn,Ic (_++_) [_]];rfl
 .rw [D2,mBq,fX,VX,oy,←VX];intro m;rcases mAq.mp m with m|m
  .obtain ⟨x,hx,e2⟩:=mMq.mp m;cases e2;exact(nAq.mp hnd).2.2 _ hx _ (mGq hz) rfl
  .obtain ⟨x,hx,e2⟩:=mMq.mp m;cases e2;have:=RC.sublist (Sa (j+1) r) (nAq.mp hnd).2.1;rw[bz hz]at this;exact(nAq.mp this).2.2 _ hx _ (by simp) rfl
theorem vG{rs:List (List Int)}{i j:Nat}{r:List Int}(hl:rs.flatten.length<=1000) (hr:rs[i]?=some r):(gW (aZ (rs.take i)++(cK r).take j)).length<cZ:=by
 refine Fq ?_;have h1:=eT rs (i+1);rw[cS hr,lAq]at h1;rw[Jk,lAq,CZ,lTq,iY];lia
theorem Pt(r:List Int):lg (r.map D.int) (some 1) none=(r.drop 1).map D.int:=by
 rw[jQ];cases r with
 |nil=>rfl
 |cons x r=>rw[show (some 1:Option Int)=some ((1:Nat):Int) from rfl,vp _ _ (by simp)]
theorem PL(r:List Int):lg (r.map D.int) none (some 1)=(r.take 1).map D.int:=by
 rw[jQ];cases r with
 |nil=>rfl
 |cons x r=>rw[show (some 1:Option Int)=some ((1:Nat):Int) from rfl,vX _ _ (by simp)]
theorem Ea{rs:List (List Int)}(hn:rs.flatten.Nodup) (hl:rs.flatten.length<=1000):wY [dM rs]=some (.owd (gW (aZ rs))):=by
 have key:=fk (x:=2) (body:=nR) (fun i S=>∃v2 v3 v4,S=[some (.sh (dM rs)),some (.owd (gW (aZ (rs.take i)))),v2,v3,v4]) (ds:=rs.map dI) (S:=[some (.sh (dM rs)),some (.owd []),none,none,none]) ⟨none,none,none,rfl⟩ (by
  rintro i d S hd ⟨v2,v3,v4,rfl⟩;obtain⟨r,hr,rfl⟩:=rp hd;have hrl:r.length<=1000:=by
   have h1:=eT rs (i+1);rw[cS hr,lAq]at h1;lia
  have hlen:(r.map D.int).length=((rot r).map D.int).length:=by rw[lMq,lMq,pe]
  have k2:=J8 (x:=3) (y:=4) (k:=0) (body:=nP) (fun j S=>∃v3 v4,S=[some (.sh (dM rs)),some (.owd (gW (aZ (rs.take i)++(cK r).take j))),some (.sh (dI r)),v3,v4]) (ds:=r.map D.int) (es:=(rot r).map D.int) (S:=[some (.sh (dM rs)),some (.owd (gW (aZ (rs.take i)))),some (.sh (dI r)),v3,v4]) hlen ⟨v3,v4,by simp⟩ (by
   rintro j d e S hd he ⟨v3,v4,rfl⟩;obtain⟨z,hz,rfl⟩:=wH hd;obtain⟨y,hy,rfl⟩:=wH he;rw[SB]at *;have h3:=vG (j:=j) hl hr;have hput:=xt hn hr hz hy;refine⟨_,?_,some (.sh (.int z)),some (.sh (.int y)),rfl⟩
   simp_arith [nP,h3,hput])
  obtain⟨S2,e2,w3,w4,rfl⟩:=k2;rw[SB,lMq,←iY,RY]at e2;refine⟨_,?_,some (.sh (dI r)),w3,w4,rfl⟩;rw[bz hr,uc];have hll:(r.drop 1).length+(r.take 1).length<=cZ:=kx (by rw[RL,lTq];lia)
  have hrot:(r.drop 1).map D.int++(r.take 1).map D.int=(rot r).map D.int:=by unfold rot;rw[mBq]
  have hlen2:r.length=(rot r).length:=(pe r).symm
  simp_arith [nR,Pt,PL,hll,hrot,hlen2,e2])
 obtain⟨S',e,v2,v3,v4,rfl⟩:=key;rw[lMq,RY]at e
 simp_arith [wY,yu,e]
end K51
--ZQ3 --ZQ4 --ZQ5 --ZQ6 --ZQ8 --ZQ9 --ZQB --ZQC --ZQD --ZQE --ZQF
namespace K15
open PySem L2 Mr Z Xe Zl
theorem jK{ps:List (aN×Int)}{k:aN}{n:Int}(hn:(ps.map (·.1)).Nodup) (h:(k,n)∈ps):Z.getD (K51.gW ps) k=some (.int n):=by
 induction ps with
 |nil=>cases h
 |cons p ps ih =>
  rw[Ru,Rp]at hn;unfold Z.getD;show (((p.1,D.int p.2)::K51.gW ps).find? _).map _=_;rcases Rl.mp h with e|e
  .rw [←e,Uh (by simp)]
   rfl
  .rw [TL (by
    intro z;have z':p.1=k:=by simpa using z
    exact hn.1 (by rw[z'];exact mMq.mpr ⟨_,e,rfl⟩))]
   exact ih hn.2 e
theorem E3{ps:List (aN×Int)}{k k':aN}{n:Int}(hn:(ps.map (·.2)).Nodup) (h:(k,n)∈ps) (h':(k',n)∈ps):k=k':=by
 induction ps with
 |nil=>cases h
 |cons p ps ih =>
  rw[Ru,Rp]at hn;rcases Rl.mp h with e|e
  .rcases Rl.mp h' with e'|e'
   .rw [←e]at e';exact(congrArg Prod.fst e').symm
   .exact absurd (mMq.mpr ⟨_,e',by rw[←e]⟩) hn.1
  .rcases Rl.mp h' with e'|e'
   .exact absurd (mMq.mpr ⟨_,e,by rw[←e']⟩) hn.1
   .exact ih hn.2 e e'
def nx(rs:List (List Int)) (e:Int):Int:=match Z.getD (K51.gW (K51.aZ rs)) (.inl e) with
 |some (.int n)=>n
 |_=>0
def fw(rs:List (List Int)) (e:Int):Int:=nx rs (-e)
section
variable {rs:List (List Int)}
theorem wD(hn:rs.flatten.Nodup):((K51.aZ rs).map (·.1)).Nodup:=by
 rw[K51.fX,Rw,RW];exact RC.imp (fun h e=>h (RF.inj e)) (Rw.mp hn)
theorem rH(hn:rs.flatten.Nodup) {e:Int}(he:e∈rs.flatten):(RF e,nx rs e)∈K51.aZ rs:=by
 have hk:(RF e:aN)∈(K51.aZ rs).map (·.1):=by rw[K51.fX];exact mMq.mpr ⟨e,he,rfl⟩
 obtain⟨⟨k,n⟩,hp,rfl⟩:=mMq.mp hk;have:=jK (wD hn) hp;unfold nx;rw[this];exact hp
theorem Am(hn:rs.flatten.Nodup) {e:Int}(he:e∈rs.flatten):Z.getD (K51.gW (K51.aZ rs)) (.inl e)=some (.int (nx rs e)):=jK (wD hn) (rH hn he)
theorem rZ(hn:rs.flatten.Nodup) {e:Int}(he:e∈rs.flatten):nx rs e∈rs.flatten:=(K51.mX rs).mem_iff.mp (mMq.mpr ⟨_,rH hn he,rfl⟩)
theorem Fg(hn:rs.flatten.Nodup) {a b:Int}(ha:a∈rs.flatten) (hb:b∈rs.flatten) (h:nx rs a=nx rs b):a=b:=by
 have h1:=rH hn ha;have h2:=rH hn hb;rw[h]at h1;exact RF.inj (E3 ((K51.mX rs).symm.nodup hn) h1 h2)
theorem jl(hm:Mp rs):xN (fw rs) rs.flatten:=⟨hm.hn,fun e he=>rZ hm.hn (hm.hneg e he),fun a ha b hb h=>by
 have:=Fg hm.hn (hm.hneg a ha) (hm.hneg b hb) h;lia⟩
def stp(rs:List (List Int)) (E:List Int):List (aN×D):=E.map fun e=>(RF e,.int (fw rs e))
theorem Iz(hn:rs.flatten.Nodup) {e:Int}(he:e∈rs.flatten):Z.getD (stp rs rs.flatten) (.inl e)=some (.int (fw rs e)):=by
 have h:=jK (ps:=rs.flatten.map fun e=>(RF e,fw rs e)) (k:=.inl e) (n:=fw rs e) (by
  rw[mPq,Rw,RW];exact RC.imp (fun h e=>h (RF.inj e)) (Rw.mp hn)) (mMq.mpr ⟨e,he,rfl⟩)
 unfold K51.gW at h;rw[mPq]at h;exact h
theorem FX(rs:List (List Int)):(K51.gW (K51.aZ rs)).map (fun p=>kD p.1)=rs.flatten.map D.int:=by
 have:(K51.gW (K51.aZ rs)).map (fun p=>kD p.1)=((K51.aZ rs).map (·.1)).map kD:=by
  unfold K51.gW;rw[mPq,mPq];rfl
 rw[this,K51.fX,mPq];rfl
theorem zo(hm:Mp rs):qc [dM rs]=some (.owd (stp rs rs.flatten)):=by
 have nk:=K51.Ea hm.hn hm.hl;have hl:=hm.hl;have key:=fk (x:=3) (body:=kJ) (fun i S=>∃v3,S=[some (.sh (dM rs)),some (.sh (.fd (K51.gW (K51.aZ rs)))),some (.owd (stp rs (rs.flatten.take i))),v3]) (ds:=rs.flatten.map D.int) (S:=[some (.sh (dM rs)),some (.sh (.fd (K51.gW (K51.aZ rs)))),some (.owd []),none]) ⟨none,rfl⟩ (by
  rintro i d S hd ⟨v3,rfl⟩;rw[gMq]at hd;obtain⟨e,he,rfl⟩:=oMq.mp hd;have hi:=(gSq.mp he).1;have hme:=mGq he;have hg:=Am hm.hn (hm.hneg e hme);have l1:(stp rs (rs.flatten.take i)).length<cZ:=by unfold stp;rw[lMq,lTq];show _<16777216;lia
  have hp:jL (stp rs (rs.flatten.take i)) (.inl e) (.int (nx rs (-e)))=stp rs (rs.flatten.take (i+1)):=by
   rw[oE]
   .unfold stp;rw[bz he,mBq];rfl
   .intro m;obtain⟨p,hp,e1⟩:=mMq.mp m;obtain⟨x,hx,rfl⟩:=mMq.mp hp;have e2:x=e:=RF.inj e1;subst e2;have:=RC.sublist (Sa (i+1) rs.flatten) hm.hn;rw[bz he]at this;exact(nAq.mp this).2.2 x hx x (by simp) rfl
  refine⟨_,?_,some (.sh (.int e)),rfl⟩
  simp_arith [kJ,hg,l1,hp])
 obtain⟨S',e,v3,rfl⟩:=key;rw[lMq,RY]at e;have kk:=FX rs;have q31:((3:Nat)≠1)=True:=by simp
 simp_arith [qc,uj,nk,q31,kk,e]
def mu(N:Nat):AS->Nat
 | [_,_,some (.ow l),_]=>N+1-l.length
 |_=>0
theorem IM(f:Int->Int) (e:Int) (n:Nat):((Sg n).map fun k=>itr f k e)++[itr f n e]=(Sg (n+1)).map fun k=>itr f k e:=by rw[List.range_succ,mBq];rfl
theorem ID(hm:Mp rs) {e:Int}(he:e∈rs.flatten):∃l,Cy (fw rs) e l/\l.length<=rs.flatten.length/\jV [.dict (stp rs rs.flatten),.int e]=some (aI l):=by
 have one:=jl hm;obtain⟨l,cy,hle,hmin⟩:=one.cy he;have hl:=hm.hl;refine⟨l,cy,hle,?_⟩;have hst:∀n,Z.getD (stp rs rs.flatten) (.inl (itr (fw rs) n e))=some (.int (itr (fw rs) (n+1) e)):=fun n=>Iz hm.hn (one.itr_mem he n)
 have key:=hZ (c:=cD (aR Dy (af 3) (af 1))) (body:=gF) (fun S=>∃n,1<=n/\n<=l.length/\S=[some (.sh (.dict (stp rs rs.flatten))),some (.sh (.int e)),some (aI ((Sg n).map fun k=>itr (fw rs) k e)),some (.sh (.int (itr (fw rs) n e)))]) (mu l.length) (fun S=>∃v3,S=[some (.sh (.dict (stp rs rs.flatten))),some (.sh (.int e)),some (aI l),v3]) (by
  rintro S ⟨n,h1,h2,rfl⟩
  by_cases hn:n<l.length
  .have hne:¬ itr (fw rs) n e=e:=hmin n (by lia) hn
   have hs:=hst n;have l1:n<cZ:=by show _<16777216;lia
   have ap:((Sg n).map fun k=>itr (fw rs) k e).map (fun n=>AV.sh (.int n))++[.sh (.int (itr (fw rs) n e))]=((Sg (n+1)).map fun k=>itr (fw rs) k e).map fun n=>.sh (.int n):=by rw[←IM,mBq];rfl
   refine⟨true,[some (.sh (.dict (stp rs rs.flatten))),some (.sh (.int e)),some (aI ((Sg n).map fun k=>itr (fw rs) k e)),some (.sh (.int (itr (fw rs) n e)))],?_,fun _=>⟨[some (.sh (.dict (stp rs rs.flatten))),some (.sh (.int e)),some (aI ((Sg (n+1)).map fun k=>itr (fw rs) k e)),some (.sh (.int (itr (fw rs) (n+1) e)))],?_,⟨n+1,by lia,by lia,rfl⟩,?_⟩,fun q=>(nomatch q)⟩
   .simp_arith [hne]
   .simp_arith [gF,R6,l1,ap,hs]
   .show l.length+1-_<l.length+1-_;simp only[lMq,R6];lia
  .have en:n=l.length:=by lia
   subst en;have hb:=cy.back;have hg:=cy.get;refine⟨false,[some (.sh (.dict (stp rs rs.flatten))),some (.sh (.int e)),some (aI ((Sg l.length).map fun k=>itr (fw rs) k e)),some (.sh (.int (itr (fw rs) l.length e)))],?_,fun q=>(nomatch q),fun _=>⟨some (.sh (.int (itr (fw rs) l.length e))),by rw[←hg]⟩⟩
   simp_arith [hb])
 have h0:=hst 0;have e0:[AV.sh (.int e)]=((Sg 1).map fun k=>itr (fw rs) k e).map fun n=>.sh (.int n):=rfl
 obtain⟨S',ew,v3,rfl⟩:=key 100000 [some (.sh (.dict (stp rs rs.flatten))),some (.sh (.int e)),some (.ow [.sh (.int e)]),some (.sh (.int (itr (fw rs) (0+1) e)))] ⟨1,Rk _,cy.len,rfl⟩ (by
  show l.length+1-1<100000;lia)
 have h0':Z.getD (stp rs rs.flatten) (.inl e)=some (.int (itr (fw rs) (0+1) e)):=h0
 simp_arith [jV,mM,h0',ew]
end
end K15
--ZQ3 --ZQ4 --ZQ5 --ZQ6 --ZQ8 --ZQ9 --ZQB --ZQC --ZQD --ZQE --ZQF
namespace K15
open PySem L2 Mr Z Xe Zl
def kI(ks:List Int):List (aN×D):=ks.map fun k=>((RF k:aN),D.bl true)
theorem Gg(ks:List Int) (t:Int):(kI ks).any (fun kv=>decide (kv.1=(RF t:aN)))=decide (t∈ks):=by
 induction ks with
 |nil=>simp[kI]
 |cons k ks ih =>
  unfold kI at ih ⊢;rw[Ru,TX,ih]
  by_cases h:t=k
  .subst h;simp
  .have h':¬ (RF k:aN)=RF t:=fun q=>h (RF.inj q).symm
   simp[h',h]
theorem zM(ks:List Int) (t:Int):(Z.getD (kI ks) (RF t)).isSome=decide (t∈ks):=by
 unfold Z.getD;rw[Ul,←Gg,RZ,Vj,Vu]
theorem zu{ks:List Int}{t:Int}(h:t∉ks):jL (kI ks) (RF t) (.bl true)=kI (ks++[t]):=by
 unfold jL;rw[Gg,decide_eq_false h,if_neg (by simp)]
 simp[kI]
theorem AB(ks:List Int):(kI ks).length=ks.length:=by unfold kI;rw[lMq]
section
variable {rs:List (List Int)}
structure Rd (f:Int->Int) (E:List Int) (kn:List Int) (L:List (List Int)):Prop where
 cy:∀l∈L,∃e,Cy f e l
 fl:L.flatten=kn
 nd:kn.Nodup
 sub:∀x∈kn,x∈E
 cl:∀x∈kn,f x∈kn
theorem Rd.itr{f:Int->Int}{E kn:List Int}{L:List (List Int)}(h:Rd f E kn L) {x:Int}(hx:x∈kn):∀n,itr f n x∈kn
 |0=>hx
 |n+1=>h.cl _ (h.itr hx n)
theorem Rd.out{f:Int->Int}{E kn:List Int}{L:List (List Int)}(h:Rd f E kn L) {e:Int}{l:List Int}(c:Cy f e l) (he:e∉kn):∀x∈l,x∉kn:=by
 intro x hx hk;obtain⟨j,hj⟩:=Rv.mp hx;have hlt:=(gSq.mp hj).1;rw[c.at hlt]at hj;have e1:=RD.inj hj;subst e1;have:=h.itr hk (l.length-j);rw[←ku,show l.length-j+j=l.length by lia,c.back]at this
 exact he this
theorem Rd.add{f:Int->Int}{E kn:List Int}{L:List (List Int)}(hf:xN f E) (h:Rd f E kn L) {e:Int}{l:List Int}(c:Cy f e l) (heE:e∈E) (he:e∉kn):Rd f E (kn++l) (L++[l]):=by
 have ho:=h.out c he;refine⟨fun m hm=>?_,by rw[fAq,h.fl,Sf],?_,fun x hx=>?_,fun x hx=>?_⟩
 .rcases mAq.mp hm with q|q
  .exact h.cy m q
  .rw [mSq.mp q];exact⟨e,c⟩
 .rw [nAq];exact⟨h.nd,c.nd,fun a ha b hb q=>ho b hb (q ▸ ha)⟩
 .rcases mAq.mp hx with q|q
  .exact h.sub x q
  .rw [c.get]at q;obtain⟨n,_,rfl⟩:=mMq.mp q;exact hf.itr_mem heE n
 .rcases mAq.mp hx with q|q
  .exact mAq.mpr (.inl (h.cl x q))
  .refine mAq.mpr (.inr ?_);obtain⟨j,hj⟩:=Rv.mp q;have hlt:=(gSq.mp hj).1;rw[c.at hlt]at hj;rw[←RD.inj hj];show Zl.itr f (j+1) e∈l
   by_cases hj2:j+1<l.length
   .exact mGq (c.at hj2)
   .rw [show j+1=l.length by lia,c.back]
    exact c.self
theorem Rd.orb{f:Int->Int}{E kn:List Int}{L:List (List Int)}(h:Rd f E kn L) (hall:∀x∈E,x∈kn):pE f E L:=⟨h.cy,by rw[h.fl];exact h.nd,fun x=>by rw[h.fl];exact⟨h.sub x,hall x⟩⟩
def hU(rs:List (List Int)):List (List Int):=(rs.filter fun r=>decide (r=[])).map fun _=>[]
theorem GQ(rs:List (List Int)):cE (cD (aR qA (dD bS (ae (af 0) ak)) (rC (.int 0)))) (dW aG) [] (rs.map dI)=some ((hU rs).map aI):=by
 rw[Z.eY (fun d=>decide (nJ d=[])) (fun _=>.ow [])]
 .unfold hU;rw[Uw,mPq,mPq];have:(fun d=>decide (nJ d=[]))∘dI=fun r=>decide (r=[]):=by funext r;show decide (nJ (dI r)=[])=_;rw[iZ]
  rw[this];rfl
 .intro d hd;obtain⟨r,hr,rfl⟩:=wK hd;rw[iZ];refine⟨[some (.sh (dI r))],?_,fun _=>⟨[some (.sh (dI r))],?_⟩⟩
  .by_cases h:r=[]
   .subst h;have z:((0:Nat):Int)=0:=rfl
    simp_arith [dI,z]
   .have h':¬ ((r.length:Nat):Int)=0:=fun q=>h (R9.mp (by lia))
    simp_arith [dI,h',h]
  .simp_arith []
theorem Cs{kn l:List Int}{v0 v1 v3 v4 v5 v6:Option AV}(hn:(kn++l).Nodup) (hl:kn.length+l.length<500000):∃v6',dE 6 jS (l.map D.int) [v0,v1,some (.owd (kI kn)),v3,v4,v5,v6]=some (.nx [v0,v1,some (.owd (kI (kn++l))),v3,v4,v5,v6']):=by
 have key:=fk (x:=6) (body:=jS) (fun i S=>∃v6',S=[v0,v1,some (.owd (kI (kn++l.take i))),v3,v4,v5,v6']) (ds:=l.map D.int) (S:=[v0,v1,some (.owd (kI kn)),v3,v4,v5,v6]) ⟨v6,by simp⟩ (by
  rintro i d S hd ⟨v6',rfl⟩;rw[gMq]at hd;obtain⟨e,he,rfl⟩:=oMq.mp hd;have hi:=(gSq.mp he).1;have hnew:e∉kn++l.take i:=fun m=>by
   have h2:(kn++l.take (i+1)).Nodup:=RC.sublist (S5.append (S5.refl kn) (Sa (i+1) l)) hn;rw[bz he,←Rn]at h2;exact(nAq.mp h2).2.2 e m e (by simp) rfl
  have hp:=zu hnew;rw[Rn,←bz he]at hp;have l1:(kI (kn++l.take i)).length<cZ:=by rw[AB,lAq,lTq];show _<16777216;lia
  refine⟨_,?_,some (.sh (.int e)),rfl⟩
  simp_arith [jS,l1,hp])
 obtain⟨S',e,v6',rfl⟩:=key;rw[lMq,RY]at e;exact⟨v6',e⟩
def DR(B L:List (List Int)):AV:=.ow (B.map aI++L.map fun l=>.sh (dI l))
theorem lands_loop(hm:Mp rs):∃v1 v2 v4 v5 v6 L,dE 4 ie ((bV rs.flatten).map D.int) [some (.sh (dM rs)),some (.owd (stp rs rs.flatten)),some (.owd []),some (DR (hU rs) []),none,none,none]=some (.nx [some (.sh (dM rs)),v1,v2,some (DR (hU rs) L),v4,v5,v6])/\pE (fw rs) rs.flatten L:=by
 have one:=jl hm;have hl:=hm.hl;have h1000:=hm.hr;have pS:=cJ rs.flatten;have key:=fk (x:=4) (body:=ie) (fun i S=>∃kn L v1 v4 v5 v6,S=[some (.sh (dM rs)),some v1,some (.owd (kI kn)),some (DR (hU rs) L),v4,v5,v6]/\aA v1 = .dict (stp rs rs.flatten)/\(∀x,v1=x->(x = .owd (stp rs rs.flatten)∨x = .sh (.dict (stp rs rs.flatten))))/\Rd (fw rs) rs.flatten kn L/\L.length<=i/\∀j x,j<i->(bV rs.flatten)[j]?=some x->x∈kn) (ds:=(bV rs.flatten).map D.int) (S:=[some (.sh (dM rs)),some (.owd (stp rs rs.flatten)),some (.owd []),some (DR (hU rs) []),none,none,none]) ⟨[],[],.owd (stp rs rs.flatten),none,none,none,rfl,rfl,fun x h=>.inl h.symm,⟨by simp,rfl,R7,by simp,by simp⟩,Rk _,fun j x h=>absurd h (Tb _)⟩ (by
  rintro i d S hd ⟨kn,L,v1,v4,v5,v6,rfl,hv1,hv1',hr,hLl,hall⟩;rw[gMq]at hd;obtain⟨e,he,rfl⟩:=oMq.mp hd;have hiS:=(gSq.mp he).1;rw[pS.length_eq]at hiS;have heE:e∈rs.flatten:=pS.mem_iff.mp (mGq he);have hg:=zM kn e
  by_cases c:e∈kn
  .rw [decide_eq_true c]at hg;refine⟨[some (.sh (dM rs)),some v1,some (.owd (kI kn)),some (DR (hU rs) L),some (.sh (.int e)),v5,v6],?_,kn,L,v1,_,_,_,rfl,hv1,hv1',hr,by lia,fun j x hj hx=>?_⟩
   .simp_arith [ie,hg]
   .rcases Sx.mp hj with q|rfl
    .exact hall j x q hx
    .rw [he]at hx;cases hx;exact c
  .rw [decide_eq_false c]at hg;obtain⟨l,cy,hle,eg⟩:=ID hm heE;have hr2:=hr.add one cy heE c;have knl:=Du _ _ hr.nd hr.sub;obtain⟨v6',em⟩:=Cs (kn:=kn) (l:=l) (v0:=some (.sh (dM rs))) (v1:=some (.sh (.dict (stp rs rs.flatten)))) (v3:=some (DR (hU rs) L)) (v4:=some (.sh (.int e))) (v5:=some (.sh (dI l))) (v6:=v6) hr2.nd (by lia)
   have sl:=aE l;have lb:(hU rs).length<=rs.length:=by unfold hU;rw[lMq];exact S7 _ _
   have l1:((hU rs).map aI++L.map fun l=>AV.sh (dI l)).length<cZ:=by rw[lAq,lMq,lMq];show _<16777216;lia
   have ea:((hU rs).map aI++L.map fun l=>AV.sh (dI l))++[.sh (dI l)]=(hU rs).map aI++(L++[l]).map fun l=>.sh (dI l):=by rw[Rn,mBq];rfl
   refine⟨[some (.sh (dM rs)),some (.sh (.dict (stp rs rs.flatten))),some (.owd (kI (kn++l))),some (DR (hU rs) (L++[l])),some (.sh (.int e)),some (.sh (dI l)),v6'],?_,kn++l,L++[l],.sh (.dict (stp rs rs.flatten)),_,_,_,rfl,rfl,fun x h=>.inr h.symm,hr2,by rw[lAq,lSq];lia,fun j x hj hx=>?_⟩
   .unfold DR at em ⊢
    simp_arith [ie,hg,hv1,eg,sl,em,l1,ea]
   .rcases Sx.mp hj with q|rfl
    .exact mAq.mpr (.inl (hall j x q hx))
    .rw [he]at hx;cases hx;exact mAq.mpr (.inr cy.self))
 obtain⟨S',e,kn,L,v1,v4,v5,v6,rfl,_,_,hr,_,hall⟩:=key;refine⟨_,_,_,_,_,L,e,hr.orb fun x hx=>?_⟩
 obtain⟨j,hj⟩:=Rv.mp (pS.mem_iff.mpr hx);exact hall j x (by rw[lMq];exact(gSq.mp hj).1) hj
theorem Av(rs:List (List Int)):(hU rs).length<=rs.length:=by unfold hU;rw[lMq];exact S7 _ _
theorem CD(B L:List (List Int)):aA (DR B L)=dM (B++L):=by
 unfold DR;rw[eK,mBq,mPq,mPq];show D.list _=D.list ((B++L).map dI);rw[mBq];congr 2
 .exact mCq fun r _=>aE r
theorem JC(hm:Mp rs) {L:List (List Int)}(h:pE (fw rs) rs.flatten L):(∀l∈L,l.length<=1000)/\L.length<=1000:=by
 have p:L.flatten.Perm rs.flatten:=(Si h.dj hm.hn).mpr h.all;have hl:=hm.hl;refine⟨fun l hl'=>?_,?_⟩
 .have:=S5.length_le (RE hl');rw[p.length_eq]at this;lia
 .have:∀{L:List (List Int)},(∀l∈L,1<=l.length)->L.length<=L.flatten.length:=fun {L} h=>by
   induction L with
   |nil=>exact Rk _
   |cons a L ih =>
    have h1:=h a (Rq ..);have h2:=ih fun l hl=>h l (mCo _ hl)
    rw[lCq,fCq,lAq];lia
  have:=this (L:=L) fun l hl=>by obtain⟨e,c⟩:=h.cy l hl;exact c.len
  rw[p.length_eq]at this;lia
theorem lands_ok(hm:Mp rs):∃L,pE (fw rs) rs.flatten L/\cP [dM rs]=some (.ow ((dw ((hU rs++L).map good)).map aI)):=by
 obtain⟨v1,v2,v4,v5,v6,L,e,ho⟩:=lands_loop hm;have hl:=hm.hl;have h1000:=hm.hr;have ow:=zo hm;have bc:=GQ rs;have en:=Bj (rs:=rs) (by lia)
 have lr:rs.length<=cZ:=by show _<=16777216;lia
 have e0:AV.ow ((hU rs).map aI)=DR (hU rs) []:=by unfold DR;rw[U2,aNq]
 have st:=CD (hU rs) L;obtain⟨o1,o2⟩:=JC hm ho;have bl:=Av rs;have ig:=jH (rs:=hU rs++L) (fun r hr=>by
  rcases mAq.mp hr with q|q
  .unfold hU at q;obtain⟨x,_,rfl⟩:=mMq.mp q;exact Sl _
  .have:=o1 r q;lia) (by rw[lAq];show _<=16777216;lia)
 refine⟨L,ho,?_⟩;have sE:=aE (bV rs.flatten)
 simp_arith [cP,xO,ow,dM,bc,lr,e0,en,sE,dI,e,st,ig]
end
end K15
--ZQ3 --ZQ4 --ZQ5 --ZQ8
namespace K13
open PySem L2 Mr Z Xe Zl
def iO:Nat->MF
 |0=>JX
 |n+1=>iI (iO n)
def oM(rs:List (List Int)):AV:=.ow (rs.map fun r=>.sh (dI r))
theorem GZ(rs:List (List Int)):aA (oM rs)=dM rs:=by unfold oM;rw[eK,IE]
structure Ms (ms:List (List (List Int))):Prop where
 rows:ms.flatten.length<=1000
 len:ms.flatten.flatten.length<=1000
 ends:∀z∈ms.flatten.flatten,Mh z=true
 both:∀z∈ms.flatten.flatten, -z∈ms.flatten.flatten
end K13
--ZQ3 --ZQ4 --ZQ5 --ZQ6 --ZQ8 --ZQ9 --ZQB --ZQC --ZQD --ZQE --ZQF
namespace K15
open PySem L2 Mr Z Xe Zl
section
variable {rs:List (List Int)}
theorem Gi{r:List Int}{j:Nat}(hj:j<r.length):(K51.rot r)[j]?=r[(j+1) % r.length]?:=by
 unfold K51.rot
 by_cases h:j+1<r.length
 .rw [Ut h,gZq (by rw[RL];lia),Ud,Vy]
 .have e:j+1=r.length:=by lia
  rw[e,U5,gYq (by rw[RL];lia),RL,T7 (by lia)]
  congr 1;lia
theorem vy(hm:Mp rs):gY [dM rs]=some (.owd (K51.gW (K51.aZ rs))):=by
 have hn:=hm.hn;have hl:=hm.hl;have key:=fk (x:=2) (body:=kK) (fun i S=>∃v2 v3,S=[some (.sh (dM rs)),some (.owd (K51.gW (K51.aZ (rs.take i)))),v2,v3]) (ds:=rs.map dI) (S:=[some (.sh (dM rs)),some (.owd []),none,none]) ⟨none,none,rfl⟩ (by
  rintro i d S hd ⟨v2,v3,rfl⟩;obtain⟨r,hr,rfl⟩:=rp hd;have hrl:=hm.row hr;have k2:=fk (x:=3) (body:=jX) (fun j S=>∃v3,S=[some (.sh (dM rs)),some (.owd (K51.gW (K51.aZ (rs.take i)++(K51.cK r).take j))),some (.sh (dI r)),v3]) (ds:=bP 0 r.length) (S:=[some (.sh (dM rs)),some (.owd (K51.gW (K51.aZ (rs.take i)))),some (.sh (dI r)),v3]) ⟨v3,by simp⟩ (by
   rintro j d S hd ⟨v3,rfl⟩;have hj:j<r.length:=by
    have:=(gSq.mp hd).1
    rwa [bO]at this
   rw[nh hj,V4]at hd;cases hd;have hz:r[j]?=some r[j]:=gEg hj;have hm2:(j+1) % r.length<r.length:=Nat.mod_lt _ (by lia)
   have hy:(K51.rot r)[j]?=some r[(j+1) % r.length]:=by rw[Gi hj];exact gEg hm2
   have h3:=K51.vG (j:=j) hl hr;have hput:=K51.xt hn hr hz hy;have a1:atI (r.map D.int) (j:Int)=some (.int r[j]):=rJ (by rw[gMq,hz];rfl)
   have md:=cV (i:=(j:Int)+1) (j:=(r.length:Int)) (by lia)
   have em:((j:Int)+1) % (r.length:Int)=(((j+1) % r.length:Nat):Int):=by push_cast;rfl
   rw[em]at md;have a2:atI (r.map D.int) (((j+1) % r.length:Nat):Int)=some (.int r[(j+1) % r.length]):=rJ (by rw[gMq,gEg hm2];rfl)
   refine⟨_,?_,some (.sh (.int (j:Int))),rfl⟩
   simp_arith [jX,dI,a1,md,a2,h3,hput])
  obtain⟨S2,e2,w3,rfl⟩:=k2;rw[bO,←K51.iY,RY]at e2;have rg:sk [.int (r.length:Int)]=some (bP 0 r.length):=mn (by lia)
  rw[K51.iY]at e2;refine⟨_,?_,some (.sh (dI r)),w3,rfl⟩;rw[bz hr,K51.uc]
  simp_arith [kK,dI,rg,e2])
 obtain⟨S',e,v2,v3,rfl⟩:=key;rw[lMq,RY]at e
 simp_arith [gY,tK,e]
end
end K15
--ZQ3 --ZQ4 --ZQ5 --ZQ6 --ZQ8 --ZQ9 --ZQB --ZQC --ZQD --ZQE
namespace K12
open PySem L2 Mr Z Xe Zl
abbrev aP(part:List (List Int)):AV:=.ow (part.map aI)
theorem GD{α β:Type}(f:α->β) (l:List α) (i:Nat) (a:α):(l.map f).set i (f a)=(l.set i a).map f:=by rw[List.map_set]
structure Wd where
 P0:List (List (List Int))
 last:List (List Int)
 t0:List Nat
 h:Nat
 left:List Int
 used:Nat
def QK(c e:Int):Int:=if c / 8 % 2=1 then -e else e
def wstep(nm:List Int) (w:Wd) (c:Int):Wd :=
 let e:=QK c (nm.getD w.used 0)
 let r:=w.last.getD w.h []
 if c % 8<4 then
  if c % 8<2 then { w with last:=w.last.set w.h (r++[e]),left:=w.left++[-e],used:=w.used+1 }
  else { w with last:=w.last.set w.h (r++[e])++[[-e]],t0:=w.t0++[w.h],h:=w.last.length,used:=w.used+1 }
 else if c % 8<6 then
  if w.left=[] then w else { w with last:=w.last.set w.h (r++[w.left.getD (c / 16 % w.left.length).toNat 0]),left:=w.left.eraseIdx (c / 16 % w.left.length).toNat }
 else if c % 8=6 then
  match w.t0.getLast? with
  |none=>w
  |some h'=>{ w with t0:=w.t0.dropLast,h:=h' }
 else { P0:=w.P0++[w.last.set w.h (r++w.left)],last:=[[]],t0:=[],h:=0,left:=[],used:=w.used }
abbrev cN(ks:List Nat):List Int:=ks.map fun n:Nat=>(n:Int)
def st(v0 v1:Option AV) (w:Wd) (v6 v7 v8 v9:Option AV):AS:=[v0,v1,some (.ow ((w.P0++[w.last]).map aP)),some (aI (cN (w.t0++[w.h]))),some (aI w.left),some (.sh (.int (w.used:Int))),v6,v7,v8,v9]
end K12
--ZQ3 --ZQ4 --ZQ5 --ZQ6 --ZQ8 --ZQ9 --ZQB --ZQC --ZQD --ZQE
namespace K12
open PySem L2 Mr Z Xe Zl
section
variable {nm:List Int}{P0:List (List (List Int))}{last:List (List Int)}{t0:List Nat}{hd:Nat}{left r:List Int}{used:Nat}{c e:Int}{v0 v1 v8:Option AV}
theorem pO(r:List Int) (e:Int):(r.map fun n=>AV.sh (.int n))++[.sh (.int e)]=(r++[e]).map fun n=>.sh (.int n):=by rw[mBq];rfl
theorem Bu(l:List (List Int)) (e:Int):l.map aI++[.ow [.sh (.int e)]]=(l++[[e]]).map aI:=by rw[mBq];rfl
theorem Ft(ks:List Nat) (n:Nat):(cN ks).map (fun n=>AV.sh (.int n))++[.sh (.int (n:Int))]=(cN (ks++[n])).map fun n=>.sh (.int n):=by unfold cN;rw[mBq,mBq];rfl
theorem Fc{α β:Type}(f:α->β):∀(l:List α) (i:Nat),(l.map f).eraseIdx i=(l.eraseIdx i).map f
 | [],i=>rfl
 |x::l,0=>rfl
 |x::l,i+1=>by rw[Ru,SI,SI,Fc f l i,Ru]
end
end K12
--ZQ3 --ZQ4 --ZQ5 --ZQ6 --ZQ8 --ZQ9 --ZQB --ZQC --ZQD --ZQE
namespace K12
open PySem L2 Mr Z Xe Zl
def both(nm:List Int) (k:Nat):List Int:=(nm.take k).flatMap fun x=>[x, -x]
theorem kE{x r:List Int}(a:Int):∀{l:List (List Int)}{h:Nat},l[h]?=some r->(l.set h (r++x)).flatten.count a=l.flatten.count a+x.count a
 | [],_,h=>by simp at h
 |s::l,0,h=>by
  cases h;rw[Tp,fCq,fCq,cAq,cAq,cAq];lia
 |s::l,h+1,e=>by
  rw[TN,fCq,fCq,cAq,cAq,kE a (by simpa using e)]
  lia
theorem pP(a:Int):∀{l:List Int}{j:Nat},j<l.length->(l.eraseIdx j).count a+[l.getD j 0].count a=l.count a
 | [],_,h=>by simp at h
 |x::l,0,_=>by
  rw[UB,show x::l=[x]++l from rfl,cAq]
  show l.count a+[x].count a=_;lia
 |x::l,j+1,h=>by
  have ih:=pP a (l:=l) (j:=j) (by simpa using h)
  rw[SI,show x::l.eraseIdx j=[x]++l.eraseIdx j from rfl,show (x::l).getD (j+1) 0=l.getD j 0 from rfl,show x::l=[x]++l from rfl,cAq,cAq]
  lia
structure WOk (nm:List Int) (w:Wd) (n:Nat):Prop where
 hh:w.h<w.last.length
 ht:∀k∈w.t0,k<w.last.length
 us:w.used<=n
 lP:w.P0.length<=n
 lt:w.t0.length<=n
 tl:w.P0.flatten.length+w.last.length<=n+1
 cnt:∀a,w.P0.flatten.flatten.count a+w.last.flatten.count a+w.left.count a=(both nm w.used).count a
theorem Bh{l:List (List Int)}{h:Nat}{r:List Int}(e:l[h]?=some r):r.length<=l.flatten.length:=S5.length_le (RE (mGq e))
end K12
--ZQ3 --ZQ4 --ZQ5 --ZQ6 --ZQ8 --ZQ9 --ZQB --ZQC --ZQD --ZQE
namespace K12
open PySem L2 Mr Z Xe Zl
def w0:Wd:=⟨[],[[]],[],0,[],0⟩
end K12
--ZQ3 --ZQ4 --ZQ5 --ZQ6 --ZQ8 --ZQ9 --ZQB --ZQC --ZQD --ZQE
namespace K12
open PySem L2 Mr Z Xe Zl
def DV(st sh a b k:Int):Int:=st*((a*k+b) % 67+1)+sh
theorem Bl{st sh a b:Int}(h1:1<=st) (h2:1<=a) (h3:a<=66) {j k:Nat}(hj:j<67) (hk:k<67) (h:DV st sh a b j=DV st sh a b k):j=k:=by
 unfold DV at h;have e1:st*((a*j+b) % 67+1)=st*((a*k+b) % 67+1):=by lia
 have e2:=Int.eq_of_mul_eq_mul_left (by lia) e1
 have e3:((a*j+b)-(a*k+b)) % 67=0:=Int.emod_eq_emod_iff_emod_sub_eq_zero.mp (by lia)
 have e4:(a*((j:Int)-k)) % 67=0:=by
  rw[←e3];congr 1;rw[Int.mul_sub];lia
 obtain⟨tn,rfl⟩:∃tn:Nat,a=(tn:Int)+1:=⟨(a-1).toNat,by lia⟩
 rcases V6 j k with q|q|q
 .exfalso;refine Mr.Bi ⟨tn,by lia⟩ ⟨k-j,by lia⟩ (by show 0<k-j;lia) ?_
  show (tn+1)*(k-j) % 67=0;have e5:(((tn:Int)+1)*((k:Int)-j)) % 67=0:=by
   have:((tn:Int)+1)*((k:Int)-j) = -(((tn:Int)+1)*((j:Int)-k)):=by
    rw[←Int.mul_neg];congr 1;lia
   rw[this];lia
  have e6:(((tn+1)*(k-j) % 67:Nat):Int)=0:=by
   rw[←e5];push_cast [Te q];rfl
  lia
 .exact q
 .exfalso;refine Mr.Bi ⟨tn,by lia⟩ ⟨j-k,by lia⟩ (by show 0<j-k;lia) ?_
  show (tn+1)*(j-k) % 67=0;have e6:(((tn+1)*(j-k) % 67:Nat):Int)=0:=by
   rw[←e4];push_cast [Te q];rfl
  lia
structure Nm (nm:List Int):Prop where
 len:nm.length=66
 nd:nm.Nodup
 lo:∀x∈nm,1<=x
 hi:∀x∈nm,x<10 ^ 60
theorem se:∀{l:List Int},l.Nodup->(∀x∈l,1<=x)->(l.flatMap fun x=>[x, -x]).Nodup
 | [],_,_=>R7
 |x::l,hn,hp=>by
  have hn':=Rp.mp hn;have px:=hp x (Rq ..);rw[UJ,nAq];refine⟨?_,se hn'.2 fun y hy=>hp y (mCo _ hy),fun a ha b hb e=>?_⟩
  .rw [Rp];refine⟨?_,by simp⟩
   rw[mSq];lia
  .subst e;obtain⟨y,hy,q⟩:=SC.mp hb;have py:=hp y (mCo _ hy);simp at ha q;have:y=x:=by lia
   exact hn'.1 (this ▸ hy)
end K12
--ZQ3 --ZQ4 --ZQ5 --ZQ6 --ZQ8 --ZQ9 --ZQB --ZQC --ZQD --ZQE
namespace K12
open PySem L2 Mr Z Xe Zl
theorem By:∀{PS:List (List Nat)},(∀ps∈PS,ps.Nodup)->(PS.Pairwise fun a b=>∀k∈a,k∉b)->PS.flatten.Nodup
 | [],_,_=>R7
 |p::PS,h1,h2=>by
  obtain⟨h3,h4⟩:=To.mp h2;rw[fCq,nAq];refine⟨h1 p (Rq ..),By (fun ps hp=>h1 ps (mCo _ hp)) h4,fun a ha b hb e=>?_⟩
  obtain⟨q,hq,hb'⟩:=mFq.mp hb;exact h3 q hq a ha (e ▸ hb')
theorem qR{rs:List (List Int)}{kn:List Nat}{PS:List (List Nat)}(hp:K51.Ps rs rs.length kn PS):(PS.map fun ps=>ps.map fun k=>rs.getD k []).flatten.Perm rs:=by
 have e1:(PS.map fun ps=>ps.map fun k=>rs.getD k []).flatten=PS.flatten.map fun k=>rs.getD k []:=by rw[←List.map_flatten]
 rw[e1];have nd:PS.flatten.Nodup:=By (fun ps h=>by obtain⟨s,_,q⟩:=hp.pc ps h;exact q.nd) hp.dj
 have pm:PS.flatten.Perm (Sg rs.length):=(Si nd UT).mpr fun k=>by
  rw[Tq,mFq];constructor
  .rintro ⟨ps,h1,h2⟩;obtain⟨s,_,q⟩:=hp.pc ps h1;exact q.lt k h2
  .intro hk;exact hp.mem k (hp.all k hk)
 have e2:(Sg rs.length).map (fun k=>rs.getD k [])=rs:=by
  refine T1 fun i=>?_
  rw[gMq]
  by_cases hi:i<rs.length
  .rw [TF hi,gEg hi,Td,gDq,gEg hi];rfl
  .rw [Se (by simpa using hi),Se (by lia)]
   rfl
 have:=pm.map (fun k=>rs.getD k [])
 rwa [e2]at this
end K12
--ZQ3 --ZQ4 --ZQ5 --ZQ6 --ZQ8 --ZQ9 --ZQB --ZQC --ZQD --ZQE
namespace K12
open PySem L2 Mr Z Xe Zl
theorem Dw(rs:List (List Int)):cE cX (iM (eU 0)) [] (rs.map dI)=some (rs.map aI):=by
 rw[Z.fi fun d=>aI (nJ d)]
 .rw [tE aI]
 .intro d hd;obtain⟨r,hr,rfl⟩:=wK hd;refine⟨[some (.sh (dI r))],?_⟩
  simp_arith [iZ]
def tl:MS:=(ao (aC 5 (dg (iJ (ay 3)) [] cX (dg (iJ (ay 0)) [] cX (iM (eU 0)))))
 (ao (aC 6 (aM (P5 K13.uu) (ar (ay 5) aG)))
 (ao (jt (AQ (fJ (cD (bE K13.cH (ae (af 6) (ae (af 2) ak))))) (fJ (cD (bE K13.cH (ae (af 5) (ae (af 3) ak)))))) (bw (kSc (rC (.bl false)))) bh)
 (ao (Le 6 7 (.int 7))
 (ao (gJ 6 (dW (ar (kSc (rC (.int 8))) aG)))
 (ao (jt (AQ (fJ (cD (bE K13.cH (ae (af 5) (ae (af 3) ak))))) (fJ (cD (bE K13.cH (ae (rOf (aM (P5 K13.uu) (ar (ay 5) aG))) (ae (af 2) ak)))))) (bw (kSc (rC (.bl false)))) bh)
 (bw (kSc (bE K13.cH (ae (rOf (aM (P5 K13.uu) (ar (aM K51.oY (ar (dg (iJ (ay 2)) [] cX (iM (eU 0))) aG)) aG))) (ae (af 2) ak)))))))))))
end K12
--ZQ3 --ZQ4 --ZQ5 --ZQ6 --ZQ8 --ZQ9 --ZQB --ZQC --ZQD --ZQE --ZQF
namespace K16
open PySem L2 Mr Z Xe Zl
theorem Cb{i j:Int}(h:0<j) (h2:j.natAbs.log2<9000):Bg (.int i) (.int j)=some (.int (i / j)):=gL ⟨h,h2⟩ _
theorem J2:qX (.int 10) (.int 57)=some (.int (10 ^ 57)):=by simp_arith []
def pm(l:List Int):List Int:=l.flatMap fun x=>[x, -x]
theorem Cc(l:List Int) (x:Int):pm (l++[x])=pm l++[x, -x]:=by unfold pm;rw[U9];simp
theorem zL(l:List Int):(pm l).length=2*l.length:=by
 unfold pm
 induction l with
 |nil=>rfl
 |cons a l ih =>
  rw[UJ,lAq,ih,lCq (as:=l)];show 2+_=_;lia
theorem Fv{l:List Int}{z:Int}(h:z∈pm l):-z∈pm l:=by
 unfold pm at h ⊢;rw[SC]at h ⊢;obtain⟨x,hx,hz⟩:=h;refine⟨x,hx,?_⟩;rcases Rl.mp hz with e|e
 .rw [e];simp
 .rw [mSq.mp e,Sm];simp
def fL(M:List (Int×Int)):List (aN×D):=M.map fun p=>(.inl p.1,.int p.2)
theorem oq(M:List (Int×Int)):(fL M).length=M.length:=lMq _
theorem rm(M:List (Int×Int)):fL M=K51.gW (M.map fun p=>((RF p.1:aN),p.2)):=by unfold fL K51.gW;rw[mPq];rfl
theorem oV{M:List (Int×Int)}{z x:Int}(h:z∉M.map (·.1)):jL (fL M) (.inl z) (.int x)=fL (M++[(z,x)]):=by
 rw[oE]
 .unfold fL;rw[mBq];rfl
 .intro m;obtain⟨p,hp,e1⟩:=mMq.mp m;obtain⟨q,hq,rfl⟩:=mMq.mp hp;exact h (mMq.mpr ⟨q,hq,RF.inj e1⟩)
theorem qb{α β:Type}(f:α->β):∀(l:List α) (k:Nat),(l.map f).eraseIdx k=(l.eraseIdx k).map f
 | [],_=>rfl
 |a::l,0=>rfl
 |a::l,k+1=>by
  rw[Ru,SI,SI,Ru,qb f l k]
end K16
--ZQ3 --ZQ4 --ZQ5 --ZQ6 --ZQ8 --ZQ9 --ZQB --ZQC --ZQD --ZQE --ZQF
namespace K16
open PySem L2 Mr Z Xe Zl
def above(kn:List Int) (n:Int):Nat:=kn.countP fun k=>decide (n<=k)
end K16
namespace K16
open PySem L2 Mr Z Xe Zl K15
section
variable {rs:List (List Int)}
theorem BV(hn:rs.flatten.Nodup) {r:List Int}(hr:r∈rs) {j:Nat}{z y:Int}(hz:r[j]?=some z) (hy:r[(j+1) % r.length]?=some y):nx rs z=y:=by
 have hj:=(gSq.mp hz).1;have h1:=K51.rX hz ((Gi hj).trans hy);have h2:(RF z,y)∈K51.aZ rs:=by
  unfold K51.aZ;exact mFq.mpr ⟨_,mMq.mpr ⟨r,hr,rfl⟩,mGq h1⟩
 have h3:=jK (wD hn) h2;unfold nx;rw[h3]
theorem Bo(hn:rs.flatten.Nodup) {r:List Int}(hr:r∈rs) {e:Int}(h0:r[0]?=some e):∀n,r[n % r.length]?=some (itr (nx rs) n e)
 |0=>by rw[Nat.zero_mod];exact h0
 |n+1=>by
  have hp:0<r.length:=(gSq.mp h0).1;have ih:=Bo hn hr h0 n;have hm:(n+1) % r.length<r.length:=Nat.mod_lt _ hp;have hm2:(n % r.length+1) % r.length=(n+1) % r.length:=by rw[Nat.mod_add_mod]
  obtain⟨y,hg⟩:∃y,r[(n+1) % r.length]?=some y:=⟨_,gEg hm⟩;have:=BV hn hr ih (hm2 ▸ hg);rw[hg,←this];rfl
theorem zU(hn:rs.flatten.Nodup) {r:List Int}(hr:r∈rs) {e:Int}(h0:r[0]?=some e):Cy (nx rs) e r:=by
 have hp:0<r.length:=(gSq.mp h0).1;have it:=Bo hn hr h0;refine⟨hp,?_,?_,RC.sublist (RE hr) hn⟩
 .refine T1 fun i=>?_
  rw[gMq]
  by_cases hi:i<r.length
  .rw [TF hi,Td,←it i,Ut hi]
  .rw [Se (by lia),Se (by rw[R6];lia)]
   rfl
 .have:=it r.length;rw[U5,h0]at this;exact(RD.inj this).symm
def ne(rs:List (List Int)):List (List Int):=rs.filter fun r=>!decide (r=[])
theorem rB:∀rs:List (List Int),(ne rs).flatten=rs.flatten
 | []=>rfl
 | []::rs=>rB rs
 | (x::r)::rs=>by
  show ((x::r)::ne rs).flatten=_;rw[fCq,fCq,rB rs]
theorem rQ:∀rs:List (List Int),(hU rs++ne rs).Perm rs
 | []=>.nil
 | []::rs=>(rQ rs).cons []
 | (x::r)::rs=>List.perm_middle.trans ((rQ rs).cons (x::r))
theorem LP{r:List Int}:r∈ne rs↔r∈rs/\r≠[]:=by
 unfold ne;rw[RP];simp
theorem yv(hn:rs.flatten.Nodup):pE (nx rs) rs.flatten (ne rs):=by
 refine⟨fun l hl=>?_,by rw[rB];exact hn,fun x=>by rw[rB]⟩
 obtain⟨h1,h2⟩:=LP.mp hl;cases l with
 |nil=>exact absurd rfl h2
 |cons x l=>exact⟨x,zU hn h1 rfl⟩
theorem Al(hn:rs.flatten.Nodup):xN (nx rs) rs.flatten:=⟨hn,fun e he=>rZ hn he,fun a ha b hb h=>Fg hn ha hb h⟩
theorem Ha{f:Int->Int}(hn:rs.flatten.Nodup) (h:∀l∈rs,l=[]∨∃e,Cy f e l) {x:Int}(hx:x∈rs.flatten):nx rs x=f x:=by
 obtain⟨l,hl,hxl⟩:=mFq.mp hx;rcases h l hl with rfl|⟨e,c⟩
 .cases hxl
 .obtain ⟨j,hj⟩:=Rv.mp hxl;have hlt:=(gSq.mp hj).1;have e1:=c.at hlt;rw[hj]at e1;have e2:=RD.inj e1;refine BV hn hl hj ?_;rw[e2];show _=some (itr f (j+1) e)
  by_cases q:j+1<l.length
  .rw [Ut q];exact c.at q
  .have e3:j+1=l.length:=by lia
   rw[e3,U5,c.back];exact c.at (i:=0) (by lia)
theorem vD{f g:Int->Int}{E:List Int}(hf:xN f E) (h:∀x∈E,f x=g x) {e:Int}(he:e∈E):∀n,itr f n e=itr g n e
 |0=>rfl
 |n+1=>by
  show f (itr f n e)=g (itr g n e);rw[h _ (hf.itr_mem he n),vD hf h he n]
theorem EZ{f g:Int->Int}{E:List Int}(hf:xN f E) (h:∀x∈E,f x=g x) {e:Int}(he:e∈E) {l:List Int}(c:Cy f e l):Cy g e l:=by
 have ic:=vD hf h he;refine⟨c.len,?_,by rw[←ic];exact c.back,c.nd⟩
 rw[←mCq (f:=fun n=>itr f n e) fun n _=>ic n]
 exact c.get
theorem ve{f g:Int->Int}{E E':List Int}{L:List (List Int)}(hf:xN f E) (h:∀x∈E,f x=g x) (hE:∀x,x∈E↔x∈E') (o:pE f E L):pE g E' L:=by
 refine⟨fun l hl=>?_,o.dj,fun x=>(o.all x).trans (hE x)⟩
 obtain⟨e,c⟩:=o.cy l hl;exact⟨e,EZ hf h ((o.all e).mp (mFq.mpr ⟨l,hl,c.self⟩)) c⟩
theorem vZ{f:Int->Int}{e:Int}{l:List Int}(c:Cy f e l):∃e',Cy f e' (good l):=by
 unfold good
 by_cases h:bC l l.length<l.length
 .exact ⟨_,c.rot h⟩
 .refine ⟨e,?_⟩;unfold Mr.rot;rw[Tc (by lia),S0 (by lia),Sz]
  exact c
theorem iR:∀rs:List (List Int),hU rs=SD (rs.count []) []
 | []=>rfl
 | []::rs=>by
  rw[UY,VW,←iR rs];rfl
 | (x::r)::rs=>by
  rw[Uq (by simp),←iR rs]
  rfl
theorem tW:∀{L:List (List Int)},(∀l∈L,1<=l.length)->L.length<=L.flatten.length
 | [],_=>Rk _
 |a::L,h=>by
  have h1:=h a (Rq ..);have h2:=tW (L:=L) fun l hl=>h l (mCo _ hl)
  rw[lCq,fCq,lAq];lia
theorem ui:∀{L:List (List Int)},(∀l∈L,1<=l.length)->(L.map good).count []=0
 | [],_=>rfl
 |a::L,h=>by
  have h1:=h a (Rq ..);have hg:good a≠[]:=fun q=>by
   have:=congrArg S6 q;rw[lW,TU]at this;lia
  rw[Ru,Uq hg];exact ui fun l hl=>h l (mCo _ hl)
theorem Gv(hm:Mp rs) (hlen:rs.length+rs.flatten.length<=1000):∃M:List (List Int),cP [dM rs]=some (.ow (M.map aI))/\Mp M/\cP [dM M]=some (.ow ((dw (rs.map good)).map aI))/\M.flatten.Perm rs.flatten/\dw (M.map good)=M/\M.count []=rs.count []/\M.length<=rs.length+rs.flatten.length:=by
 obtain⟨L,o1,e1⟩:=lands_ok hm;have one:=jl hm;have pL:L.flatten.Perm rs.flatten:=(Si o1.dj hm.hn).mpr o1.all;have hL1:∀l∈L,1<=l.length:=fun l hl=>by obtain⟨e,c⟩:=o1.cy l hl;exact c.len
 have hLl:=tW hL1;rw[pL.length_eq]at hLl;have hb:(hU rs).flatten=[]:=by
  unfold hU;refine UC.mpr fun l hl=>?_
  obtain⟨x,_,rfl⟩:=mMq.mp hl;rfl
 have hf0:(hU rs++L).flatten=L.flatten:=by rw[fAq,hb,Sz]
 have pM:(dw ((hU rs++L).map good)).flatten.Perm rs.flatten:=by
  refine(dq (aV _)).trans ((bI aY _).trans ?_);rw[hf0];exact pL
 have tw:=nA (T:=hU rs++L) (by rw[hf0];exact o1.dj)
 have hcnt:(dw ((hU rs++L).map good)).count []=rs.count []:=by
  rw[(aV _).count_eq,mBq,cAq,ui hL1,iR,V1,yR,Vk];rfl
 have hMl:(dw ((hU rs++L).map good)).length<=rs.length+rs.flatten.length:=by
  have:=Av rs;rw[dm,lMq,lAq];lia
 have hrow:∀l∈dw ((hU rs++L).map good),l=[]∨∃e,Cy (fw rs) e l:=fun l hl=>by
  obtain⟨m,hm',rfl⟩:=mMq.mp ((aV _).mem_iff.mp hl);rcases mAq.mp hm' with q|q
  .left;unfold hU at q;obtain⟨x,_,rfl⟩:=mMq.mp q;rfl
  .right;obtain⟨e,c⟩:=o1.cy m q;exact vZ c
 generalize dw ((hU rs++L).map good)=M at e1 pM tw hcnt hMl hrow;have nM:M.flatten.Nodup:=pM.nodup_iff.mpr hm.hn;have mpM:Mp M:=⟨nM,by rw[pM.length_eq];exact hm.hl,by lia,fun e he=>pM.mem_iff.mpr (hm.hneg e (pM.mem_iff.mp he))⟩
 obtain⟨L2,o2,e2⟩:=lands_ok mpM;have hfw:∀x∈M.flatten,fw M x=nx rs x:=fun x hx=>by
  show nx M (-x)=_;rw[Ha nM hrow (mpM.hneg x hx)];show nx rs (- -x)=_;rw[Sm]
 have o2':=ve (jl mpM) hfw (fun x=>pM.mem_iff) o2
 have hp:=o2'.perm (Al hm.hn) (yv hm.hn);refine⟨M,e1,mpM,?_,pM,tw,hcnt,hMl⟩;rw[e2];have hq:((hU M++L2).map good).Perm (rs.map good):=by
  rw[mBq,iR M,hcnt,←iR rs];refine(SU.append_left _ hp).trans ?_;rw[←mBq];exact(rQ rs).map good
 rw[uY hq]
end
end K16
namespace K18
open PySem L2 Mr Z Xe Zl
def pp:List Int->List (Int×Int)
 | []=>[]
 | [_]=>[]
 |x::y::r=>(x,y)::pp (y::r)
def cp:List Int->List (Int×Int)
 | []=>[]
 |x::r=>pp (x::r++[x])
def PC(X:List (List Int)):List (Int×Int):=X.flatMap cp
theorem Gq:∀(l:List Int) (x y:Int) (r:List Int),pp (l++x::y::r)=pp (l++[x])++(x,y)::pp (y::r)
 | [],x,y,r=>rfl
 | [a],x,y,r=>rfl
 |a::b::l,x,y,r=>by
  show (a,b)::pp (b::l++x::y::r)=(a,b)::pp (b::l++[x])++_;rw[Gq (b::l)];rfl
theorem eB{l r:List Int}{a h:Int}{l' r':List Int}(hl:l=l'++[a]) (hr:r=h::r'):pp (l++r)=pp l++(a,h)::pp r:=by
 rw[hl,hr,Rn];exact Gq l' a h r'
theorem ff{l:List Int}{a h:Int}{l' l'':List Int}(hl:l=l'++[a]) (hh:l=h::l''):cp l=pp l++[(a,h)]:=by
 rw[hh];show pp (h::l''++[h])=_;rw[←hh,eB hl (r:=[h]) rfl];rfl
theorem eS{l:List Int}(h:l≠[]):∃l' a,l=l'++[a]:=⟨l.dropLast,l.getLast h,(Va h).symm⟩
theorem gg{l:List Int}(h:l≠[]):∃a l',l=a::l':=by
 cases l with
 |nil=>exact absurd rfl h
 |cons a l=>exact⟨a,l,rfl⟩
theorem wX(a b:List Int) (q:Int×Int):(cp (a++b)).count q=(cp (b++a)).count q:=by
 by_cases ha:a=[]
 .rw [ha,aNq,Sz]
 .by_cases hb:b=[]
  .rw [hb,aNq,Sz]
  .obtain ⟨la,ka,ea⟩:=eS ha;obtain⟨lb,kb,eb⟩:=eS hb;obtain⟨fa,ra,ga⟩:=gg ha;obtain⟨fb,rb,gb⟩:=gg hb;rw[ff (l:=a++b) (a:=kb) (h:=fa) (l':=a++lb) (l'':=ra++b) (by rw[eb,Rn]) (by rw[ga];rfl),ff (l:=b++a) (a:=ka) (h:=fb) (l':=b++la) (l'':=rb++a) (by rw[ea,Rn]) (by rw[gb];rfl),eB ea gb,eB eb ga]
   simp only[cAq,Sj,SE];lia
theorem Ep:∀(l:List Int) (x:Int),(pp (l++[x])).map (·.1)=l
 | [],x=>rfl
 | [a],x=>rfl
 |a::b::l,x=>by
  show a::(pp (b::l++[x])).map (·.1)=_;rw[Ep (b::l)]
theorem Ki(l:List Int):(cp l).map (·.1)=l:=by
 cases l with
 |nil=>rfl
 |cons x r=>exact Ep (x::r) x
theorem Ew:∀(l:List Int) (x:Int),(pp (x::l)).map (·.2)=l
 | [],x=>rfl
 |a::l,x=>by
  show a::(pp (a::l)).map (·.2)=_;rw[Ew l]
theorem LR(l:List Int):((cp l).map (·.2)).Perm l:=by
 cases l with
 |nil=>exact .refl _
 |cons x r =>
  show ((pp (x::(r++[x]))).map (·.2)).Perm _;rw[Ew];exact Sb
theorem K7(X:List (List Int)):(PC X).map (·.1)=X.flatten:=by
 induction X with
 |nil=>rfl
 |cons r X ih =>
  show ((cp r++PC X)).map _=_;rw[mBq,ih,Ki];rfl
theorem Ao(X:List (List Int)):((PC X).map (·.2)).Perm X.flatten:=by
 induction X with
 |nil=>exact .refl _
 |cons r X ih =>
  show ((cp r++PC X).map _).Perm (r++X.flatten);rw[mBq];exact(LR r).append ih
theorem fj(r:List Int) (X:List (List Int)) (q:Int×Int):(PC (r::X)).count q=(cp r).count q+(PC X).count q:=by
 show (cp r++PC X).count q=_;rw[cAq]
theorem LB(X Y:List (List Int)) (q:Int×Int):(PC (X++Y)).count q=(PC X).count q+(PC Y).count q:=by
 unfold PC;rw[U9,cAq]
theorem kS{r r':List Int}(q:Int×Int):∀{X:List (List Int)}{i:Nat},X[i]?=some r->(PC (X.set i r')).count q+(cp r).count q=(PC X).count q+(cp r').count q
 | [],_,h=>by simp at h
 |t::X,0,h=>by
  simp only[Vz,RD.injEq]at h;subst h;rw[Tp,fj,fj];lia
 |t::X,i+1,h=>by
  rw[TN,fj,fj];have:=kS (r:=r) (r':=r') q (X:=X) (i:=i) (by simpa using h)
  lia
theorem Jc{X Y:List (List Int)}(h:X.Perm Y) (q:Int×Int):(PC X).count q=(PC Y).count q:=(h.flatMap_right cp).count_eq q
def ct(u v x y:Int):Nat:=[(u,v)].count (x,y)
theorem km(u v x y:Int):ct u v (-x) y=ct (-u) v x y:=by
 unfold ct;rw[Sj,Sj,SE,SE];have:((u,v) == (-x,y))=((-u,v) == (x,y)):=by
  rw[RZ,beq_iff_eq,beq_iff_eq,Prod.mk.injEq,Prod.mk.injEq];constructor <;> rintro⟨h1,h2⟩ <;> exact⟨by lia,h2⟩
 rw[this]
theorem QA{u v x y:Int}:[(u,v)].count (x,y)=ct u v x y:=rfl
theorem eA{u v x y:Int}{l:List (Int×Int)}:((u,v)::l).count (x,y)=ct u v x y+l.count (x,y):=by
 rw[show (u,v)::l=[(u,v)]++l from rfl,cAq]
 rfl
theorem ji{X:List (List Int)}{q:Int×Int}:q∈PC X↔0<(PC X).count q:=RX.symm
theorem Az{c:List Int}{u v:Int}(h:(u,v)∈cp c):∃w w',(∀q,(cp (w++[u])).count q=(cp c).count q)/\w++[u]=v::w':=by
 cases c with
 |nil=>cases h
 |cons x r =>
  have key:∀{l:List Int},(u,v)∈pp l->∃a b,l=a++u::v::b:=by
   intro l
   induction l with
   |nil=>intro h;cases h
   |cons y l ih =>
    cases l with
    |nil=>intro h;cases h
    |cons z l =>
     intro h;rcases Rl.mp (show (u,v)∈(y,z)::pp (z::l) from h) with e|h
     .cases e;exact⟨[],l,rfl⟩
     .obtain ⟨a,b,e⟩:=ih h;exact⟨y::a,b,by rw[e];rfl⟩
  obtain⟨a,b,e⟩:=key (show (u,v)∈pp (x::r++[x]) from h)
  by_cases hb:b=[]
  .subst hb;have e2:(x::r)++[x]=(a++[u])++[v]:=by rw[e,Rn];rfl
   obtain⟨e3,e4⟩:=Wj e2 rfl;cases e4;exact⟨a,r,fun q=>by rw[←e3],e3.symm⟩
  .obtain ⟨b',k,rfl⟩:=eS hb;have e2:(x::r)++[x]=(a++u::v::b')++[k]:=by rw[e,Rn];rfl
   obtain⟨e3,_⟩:=Wj e2 rfl;refine⟨v::b'++a,b'++a++[u],fun q=>?_,by simp⟩
   rw[e3];have:=wX (a++[u]) (v::b') q;rw[Rn]at this;rw[show a++u::v::b'=a++([u]++v::b') from rfl,this,Rn]
theorem wy{LL:List (List Int)}{u v:Int}(z:Int) (h:(u,v)∈PC LL) (ne:∀c∈LL,c≠[]):∃LL':List (List Int),LL'.length=LL.length/\(∀c∈LL',c≠[])/\∀x y,(PC LL').count (x,y)+ct u v x y=(PC LL).count (x,y)+ct u z x y+ct z v x y:=by
 obtain⟨c,hc,hq⟩:=SC.mp h;obtain⟨i,hi⟩:=Rv.mp hc;obtain⟨w,w',e1,e2⟩:=Az hq;refine⟨LL.set i (w++[u]++[z]),lZq,fun d hd=>?_,fun x y=>?_⟩
 .rcases T3 hd with q|q
  .exact ne d q
  .rw [q];simp
 .have s:=kS (r:=c) (r':=w++[u]++[z]) (x,y) hi;have c1:=e1 (x,y);rw[ff (l:=w++[u]) rfl e2]at c1;rw[ff (l:=w++[u]++[z]) (a:=z) (h:=v) (l':=w++[u]) (l'':=w'++[z]) rfl (by rw[e2];rfl),eB (l:=w++[u]) rfl (r:=[z]) rfl]at s
  simp only[cAq,eA,SE,pp]at s c1;lia
theorem MB{LL:List (List Int)}{u v z k:Int}{W W' W'':List Int}(hz:W=z::W') (hk:W=W''++[k]) (h:(u,v)∈PC LL) (ne:∀c∈LL,c≠[]):∃LL':List (List Int),LL'.length=LL.length/\(∀c∈LL',c≠[])/\∀x y,(PC LL').count (x,y)+ct u v x y=(PC LL).count (x,y)+ct u z x y+(pp W).count (x,y)+ct k v x y:=by
 obtain⟨c,hc,hq⟩:=SC.mp h;obtain⟨i,hi⟩:=Rv.mp hc;obtain⟨w,w',e1,e2⟩:=Az hq;refine⟨LL.set i (w++[u]++W),lZq,fun d hd=>?_,fun x y=>?_⟩
 .rcases T3 hd with q|q
  .exact ne d q
  .rw [q];simp
 .have s:=kS (r:=c) (r':=w++[u]++W) (x,y) hi;have c1:=e1 (x,y);rw[ff (l:=w++[u]) rfl e2]at c1;rw[ff (l:=w++[u]++W) (a:=k) (h:=v) (l':=w++[u]++W'') (l'':=w'++W) (by rw[hk];simp) (by rw[e2];rfl),eB (l:=w++[u]) rfl hz]at s
  simp only[cAq,eA,SE]at s c1;lia
theorem Kp{LL:List (List Int)}{z v:Int}(h:(z,v)∈PC LL) (hz:v≠z) (ne:∀c∈LL,c≠[]):∃(u:Int) (LL':List (List Int)),(u,z)∈PC LL/\LL'.length=LL.length/\(∀c∈LL',c≠[])/\∀x y,(PC LL').count (x,y)+ct u z x y+ct z v x y=(PC LL).count (x,y)+ct u v x y:=by
 obtain⟨c,hc,hq⟩:=SC.mp h;obtain⟨i,hi⟩:=Rv.mp hc;obtain⟨w,w',e1,e2⟩:=Az hq;have hw:w≠[]:=fun q=>by
  rw[q]at e2;cases e2;exact hz rfl
 obtain⟨w0,u,ew⟩:=eS hw;obtain⟨f,w1,fw⟩:=gg hw;have fv:f=v:=by
  rw[fw]at e2;exact(VG.inj e2).1
 subst fv;have c1:=fun x y=>e1 (x,y)
 rw[ff (l:=w++[z]) rfl e2,eB (l:=w) ew (r:=[z]) rfl]at c1;simp only[cAq,eA,SE,pp]at c1;refine⟨u,LL.set i w,?_,lZq,fun d hd=>?_,fun x y=>?_⟩
 .refine SC.mpr ⟨c,hc,RX.mp ?_⟩;have:=c1 u z;have one:ct u z u z=1:=by unfold ct;simp
  lia
 .rcases T3 hd with q|q
  .exact ne d q
  .rw [q];exact hw
 .have s:=kS (r:=c) (r':=w) (x,y) hi;rw[ff (l:=w) ew fw]at s;simp only[cAq,eA,SE]at s;have:=c1 x y;lia
structure Ln (C LL:List (List Int)):Prop where
 cnt:∀x y,(PC LL).count (x,y)=(PC C).count (-x,y)
 ne:∀c∈LL,c≠[]
section
variable {C LL:List (List Int)}{i:Nat}
theorem Ln.mem(h:Ln C LL) {x y:Int}(q:(x,y)∈PC C):(-x,y)∈PC LL:=by
 rw[ji,h.cnt,Sm];exact ji.mp q
theorem lD{r:List Int}(hi:C[i]?=some r) {q:Int×Int}(h:q∈cp r):q∈PC C:=SC.mpr ⟨r,mGq hi,h⟩
theorem oQ{r r':List Int}:∀{X:List (List Int)}{i:Nat},X[i]?=some r->(X.set i r').count []+(if r=[] then 1 else 0)=X.count []+(if r'=[] then 1 else 0)
 | [],_,h=>by simp at h
 |t::X,0,h=>by
  simp only[Vz,RD.injEq]at h;subst h;rw[Tp,Sj,Sj];simp only[beq_iff_eq];lia
 |t::X,i+1,h=>by
  rw[TN,Sj,Sj];have:=oQ (r:=r) (r':=r') (X:=X) (i:=i) (by simpa using h)
  lia
def nL(C LL:List (List Int)):Nat:=LL.length+C.count []
theorem D3{r L:List Int}(h:¬ L++r≠[]):r=[]/\L=[]:=by
 have:L++r=[]:=V9.mp h;rw[TM]at this;exact⟨this.2,this.1⟩
theorem Ln.open(h:Ln C LL) {r L:List Int}(hi:C[i]?=some (r++L)) (e:Int):∃LL',Ln (C.set i (r++[e]++(-e::L))) LL'/\nL (C.set i (r++[e]++(-e::L))) LL'=nL C LL+1:=by
 have cs:=oQ (r':=r++[e]++(-e::L)) hi;have n1:r++[e]++(-e::L)≠[]:=by simp
 rw[if_neg n1]at cs;have st:=fun x y=>kS (r':=r++[e]++(-e::L)) (x,y) hi
 have rot1:=fun q=>wX r L q
 have rot2:=fun q=>wX (r++[e]++[-e]) L q
 have as:r++[e]++(-e::L)=(r++[e]++[-e])++L:=by simp
 by_cases hY:L++r≠[]
 .obtain ⟨l',a,el⟩:=eS hY;obtain⟨f,l'',ef⟩:=gg hY;have c0:cp (L++r)=pp (L++r)++[(a,f)]:=ff el ef;have c1:cp (L++(r++[e]++[-e]))=pp (L++r)++[(a,e),(e, -e),(-e,f)]:=by
   have e1:L++(r++[e]++[-e])=(L++r)++[e, -e]:=by simp
   rw[e1,ff (l:=(L++r)++[e, -e]) (a:=-e) (h:=f) (l':=(L++r)++[e]) (l'':=l''++[e, -e]) (by simp) (by rw[ef];rfl),eB el (r:=[e, -e]) rfl]
   simp[pp]
  have m:=h.mem (x:=a) (y:=f) (lD hi (RX.mp (by rw[rot1,c0,cAq];simp)))
  obtain⟨LL',l1,n2,k⟩:=wy e m h.ne;refine⟨[-e]::LL',⟨fun x y=>?_,fun c hc=>?_⟩,?_⟩
  .have s:=st (-x) y;rw[as,rot2,rot1,c0,c1]at s;have:=k x y;have hc:=h.cnt x y;rw[fj,as];simp only[cAq,eA,SE,km,Sm]at s;have c2:(cp [-e]).count (x,y)=ct (-e) (-e) x y:=rfl;rw[c2];lia
  .rcases Rl.mp hc with rfl|hc
   .simp
   .exact n2 c hc
  .unfold nL;have n3:r++L≠[]:=fun q=>hY (by rw[TM]at q ⊢;exact⟨q.2,q.1⟩)
   rw[if_neg n3]at cs;rw[lCq];lia
 .obtain ⟨hr,hL⟩:=D3 hY;subst hr;subst hL;refine⟨[e]::[-e]::LL,⟨fun x y=>?_,fun c hc=>?_⟩,?_⟩
  .have s:=st (-x) y;have hc:=h.cnt x y;rw[fj,fj];have c2:∀z,(cp [z]).count (x,y)=ct z z x y:=fun _=>rfl
   have c3:(cp ([]++[e]++(-e::[]))).count (-x,y)=ct e (-e) (-x) y+ct (-e) e (-x) y:=by
    show [(e, -e),(-e,e)].count (-x,y)=_;rw[eA,QA]
   have c4:(cp ([]++[]:List Int)).count (-x,y)=0:=rfl;rw[c3,c4,km,km,Sm]at s;rw[c2,c2];lia
  .rcases Rl.mp hc with rfl|hc
   .simp
   .rcases Rl.mp hc with rfl|hc
    .simp
    .exact h.ne c hc
  .unfold nL;rw[aNq,if_pos rfl]at cs;rw[lCq,lCq];rw[Sz]at cs ⊢;lia
theorem Ln.newp(h:Ln C LL) (hn:C.flatten.Nodup) {r L:List Int}(hi:C[i]?=some (r++L)) (e:Int):∃LL',Ln (C.set i (r++[e])++[-e::L]) LL'/\nL (C.set i (r++[e])++[-e::L]) LL'=nL C LL:=by
 have cs:=oQ (r':=r++[e]) hi;have n1:r++[e]≠[]:=by simp
 rw[if_neg n1]at cs;have st:=fun x y=>kS (r':=r++[e]) (x,y) hi
 have cnL:∀X,nL (C.set i (r++[e])++[-e::L]) X=X.length+(C.set i (r++[e])).count []:=fun X=>by
  unfold nL;rw[cAq];rfl
 have pn:∀x y,(PC (C.set i (r++[e])++[-e::L])).count (x,y)=(PC (C.set i (r++[e]))).count (x,y)+(cp (-e::L)).count (x,y):=fun x y=>by
  rw[LB,fj];rfl
 by_cases hr:r=[]
 .subst hr
  by_cases hL:L=[]
  .subst hL;refine⟨[e, -e]::LL,⟨fun x y=>?_,fun c hc=>?_⟩,?_⟩
   .have s:=st (-x) y;have hc:=h.cnt x y;rw[fj,pn];have c2:(cp [e, -e]).count (x,y)=ct e (-e) x y+ct (-e) e x y:=by
     show [(e, -e),(-e,e)].count (x,y)=_;rw[eA,QA]
    have c3:(cp ([]++[e])).count (-x,y)=ct e e (-x) y:=rfl;have c5:(cp [-e]).count (-x,y)=ct (-e) (-e) (-x) y:=rfl;have c4:(cp ([]++[]:List Int)).count (-x,y)=0:=rfl;rw[c3,c4]at s;rw[c5,c2];simp only[km,Sm]at s ⊢;lia
   .rcases Rl.mp hc with rfl|hc
    .simp
    .exact h.ne c hc
   .rw [cnL];unfold nL;rw[aNq,if_pos rfl]at cs;rw[lCq];lia
  .obtain ⟨l',l,el⟩:=eS hL;obtain⟨f,l'',ef⟩:=gg hL;have c0:cp L=pp L++[(l,f)]:=ff el ef;rw[Sz]at hi;have m:=h.mem (x:=l) (y:=f) (lD hi (RX.mp (by rw[c0,cAq];simp)))
   obtain⟨LL',l1,n2,k1⟩:=MB (W:=[-e,e]) (W'':=[-e]) rfl rfl m h.ne;refine⟨LL',⟨fun x y=>?_,n2⟩,?_⟩
   .have s:=st (-x) y;have hc:=h.cnt x y;have k:=k1 x y;rw[pn];have c1:cp (-e::L)=(-e,f)::pp L++[(l, -e)]:=by
     rw[ff (l:=-e::L) (a:=l) (h:=-e) (l':=-e::l') (l'':=L) (by rw[el];rfl) rfl,show -e::L=[-e]++L from rfl,eB (l:=[-e]) (l':=[]) rfl ef]
     rfl
    have s:(PC (C.set i ([]++[e]))).count (-x,y)+(cp L).count (-x,y)=(PC C).count (-x,y)+ct e e (-x) y:=s;rw[c0]at s;rw[c1];simp only[cAq,eA,SE,km,Sm,pp,TK]at s k ⊢;lia
   .rw [cnL];unfold nL;have cs:(C.set i ([]++[e])).count []+(if L=[] then 1 else 0)=C.count []+0:=cs
    rw[if_neg hL]at cs;lia
 .obtain ⟨r',a,er⟩:=eS hr;obtain⟨g,r'',eg⟩:=gg hr;have c2:cp (r++[e])=pp r++[(a,e),(e,g)]:=by
   rw[ff (l:=r++[e]) (a:=e) (h:=g) (l':=r) (l'':=r''++[e]) rfl (by rw[eg];rfl),eB er (r:=[e]) rfl]
   simp[pp]
  by_cases hL:L=[]
  .subst hL;have c0:cp r=pp r++[(a,g)]:=ff er eg;rw[aNq]at hi;have m:=h.mem (x:=a) (y:=g) (lD hi (RX.mp (by rw[c0,cAq];simp)))
   obtain⟨LL',l1,n2,k1⟩:=MB (W:=[e, -e]) (W'':=[e]) rfl rfl m h.ne;refine⟨LL',⟨fun x y=>?_,n2⟩,?_⟩
   .have s:=st (-x) y;have hc:=h.cnt x y;have k:=k1 x y;rw[pn];have c5:(cp [-e]).count (-x,y)=ct (-e) (-e) (-x) y:=rfl;rw[aNq,c0,c2]at s;rw[c5];simp only[cAq,eA,SE,km,Sm,pp]at s k ⊢;lia
   .rw [cnL];unfold nL;rw[aNq,if_neg hr]at cs;lia
  .obtain ⟨l',l,el⟩:=eS hL;obtain⟨f,l'',ef⟩:=gg hL;have c0:cp (r++L)=pp r++(a,f)::pp L++[(l,g)]:=by
    rw[ff (l:=r++L) (a:=l) (h:=g) (l':=r++l') (l'':=r''++L) (by rw[el,Rn]) (by rw[eg];rfl),eB er ef]
   have c1:cp (-e::L)=(-e,f)::pp L++[(l, -e)]:=by
    rw[ff (l:=-e::L) (a:=l) (h:=-e) (l':=-e::l') (l'':=L) (by rw[el];rfl) rfl,show -e::L=[-e]++L from rfl,eB (l:=[-e]) (l':=[]) rfl ef]
    rfl
   have m:=h.mem (x:=a) (y:=f) (lD hi (by rw[c0];simp))
   have m':=h.mem (x:=l) (y:=g) (lD hi (by rw[c0];simp))
   obtain⟨L1,l1,n2,k1⟩:=wy e m h.ne;have al:a≠l:=fun q=>by
    have:=hn.sublist (RE (mGq hi));have:=(nAq.mp this).2.2 a (by rw[er];simp) l (by rw[el];simp)
    exact this q
   have m1:(-l,g)∈PC L1:=ji.mpr (by
    have k:=k1 (-l) g;have z:ct (-a) f (-l) g=0:=by
     unfold ct;rw[Ve];intro q;have:=mSq.mp q;rw[Prod.mk.injEq]at this;exact al (by lia)
    have:=ji.mp m';lia)
   obtain⟨L2,l2,n3,k2⟩:=wy (-e) m1 n2;refine⟨L2,⟨fun x y=>?_,n3⟩,?_⟩
   .have s:=st (-x) y;have hc:=h.cnt x y;have k:=k1 x y;have k':=k2 x y;rw[pn];rw[c0,c2]at s;rw[c1];simp only[cAq,eA,SE,km,Sm,TK]at s k k' ⊢;lia
   .rw [cnL];unfold nL;rw[if_neg (by simp[hr])]at cs
    lia
end
end K18
--ZQ3 --ZQ4 --ZQ5 --ZQ6 --ZQ8 --ZQ9 --ZQB --ZQC --ZQD --ZQE --ZQF --ZQG
namespace K18
open PySem L2 Mr Z Xe Zl K15 K16
section
variable {C LL:List (List Int)}
theorem B2:∀{l:List (Int×Int)},(l.map (·.2)).Nodup->∀{p q:Int×Int},p∈l->q∈l->p.2=q.2->p=q
 | [],_,_,_,h,_,_=>by cases h
 |w::l,h,x,y,hx,hy,e=>by
  rw[Ru]at h;obtain⟨h1,h2⟩:=Rp.mp h;rcases Rl.mp hx with e1|hx'
  .rcases Rl.mp hy with e2|hy'
   .rw [e1,e2]
   .rw [e1]at e;exact absurd (mMq.mpr ⟨y,hy',e.symm⟩) h1
  .rcases Rl.mp hy with e2|hy'
   .rw [e2]at e;exact absurd (mMq.mpr ⟨x,hx',e⟩) h1
   .exact B2 h2 hx' hy' e
theorem yZ(hn:C.flatten.Nodup) {n p:Nat}{s t:List Int}{x:Int}(h1:C[n]?=some s) (h2:C[p]?=some t) (hx:x∈s) (hy:x∈t):n=p:=by
 rw[←plc_eq hn h1 hx,←plc_eq hn h2 hy]
theorem Ln.back(h:Ln C LL) (hn:C.flatten.Nodup) {n p:Nat}(hnp:n≠p) {n0 p0 L:List Int}{e:Int}(h1:C[n]?=some ((-e::n0)++L)) (h2:C[p]?=some (p0++[e])):∃LL',Ln ((C.set n (-e::n0)).set p (p0++[e]++L)) LL'/\nL ((C.set n (-e::n0)).set p (p0++[e]++L)) LL'=nL C LL:=by
 have h2':(C.set n (-e::n0))[p]?=some (p0++[e]):=by rw[Ry hnp];exact h2
 have s1:=fun x y=>kS (r':=-e::n0) (x,y) h1
 have s2:=fun x y=>kS (r':=p0++[e]++L) (x,y) h2'
 have t1:=oQ (r':=-e::n0) h1;have t2:=oQ (r':=p0++[e]++L) h2';rw[if_neg (by simp),if_neg (by simp)]at t1 t2
 by_cases hL:L=[]
 .subst hL;refine⟨LL,⟨fun x y=>?_,h.ne⟩,?_⟩
  .have a:=s1 (-x) y;have b:=s2 (-x) y;have c:=h.cnt x y;rw[aNq]at a b ⊢;lia
  .unfold nL;lia
 .obtain ⟨l',l,el⟩:=eS hL;obtain⟨f,l'',ef⟩:=gg hL;obtain⟨m',a,ea⟩:=eS (show -e::n0≠[] by simp)
  obtain⟨g,p',eg⟩:=gg (show p0++[e]≠[] by simp)
  have c1:cp ((-e::n0)++L)=pp (-e::n0)++(a,f)::pp L++[(l, -e)]:=by
   rw[ff (l:=(-e::n0)++L) (a:=l) (h:=-e) (l':=(-e::n0)++l') (l'':=n0++L) (by rw[el,Rn]) rfl,eB ea ef]
  have c2:cp (-e::n0)=pp (-e::n0)++[(a, -e)]:=ff ea rfl;have c3:cp (p0++[e])=pp (p0++[e])++[(e,g)]:=ff rfl eg;have c4:cp (p0++[e]++L)=pp (p0++[e])++(e,f)::pp L++[(l,g)]:=by
   rw[ff (l:=p0++[e]++L) (a:=l) (h:=g) (l':=p0++[e]++l') (l'':=p'++L) (by rw[el];simp) (by rw[eg];rfl),eB (l:=p0++[e]) rfl ef]
  have q1:(a,f)∈PC C:=lD h1 (by rw[c1];simp)
  have q2:(l, -e)∈PC C:=lD h1 (by rw[c1];simp)
  have q3:(e,g)∈PC C:=lD h2 (by rw[c3];simp)
  have ine:-e∈(-e::n0)++L:=by simp
  have ing:g∈p0++[e]:=by rw[eg];exact Rq ..
  have inf:f∈L:=by rw[ef];exact Rq ..
  have ina:a∈(-e::n0)++L:=SN _ (by rw[ea];simp)
  have gne:g ≠ -e:=fun q=>hnp (yZ hn h1 h2 ine (q ▸ ing))
  have nr:=hn.sublist (RE (mGq h1));have fne:f ≠ -e:=fun q=>(nAq.mp nr).2.2 (-e) (Rq ..) f inf q.symm
  have ane:a≠e:=fun q=>hnp (yZ hn h1 h2 (q ▸ ina) (by simp))
  obtain⟨u,L1,mu,l1,n1,k1⟩:=Kp (h.mem q3) gne h.ne;have mu':(-u, -e)∈PC C:=by
   rw[ji,←h.cnt];exact ji.mp mu
  have eu:u = -l:=by
   have nd:((PC C).map (·.2)).Nodup:=(Ao C).nodup_iff.mpr hn;have:=B2 nd mu' q2 rfl;rw[Prod.mk.injEq]at this;lia
  subst eu;have zero:∀{u v x y:Int},¬ (u=x/\v=y)->ct u v x y=0:=fun {u v x y} q=>by
   unfold ct;rw[Ve];intro z;have:=mSq.mp z;rw[Prod.mk.injEq]at this;exact q ⟨this.1.symm,this.2.symm⟩
  have m1:(-a,f)∈PC L1:=ji.mpr (by
   have k:=k1 (-a) f;have z1:ct (-l) (-e) (-a) f=0:=zero fun q=>fne q.2.symm
   have z2:ct (-e) g (-a) f=0:=zero fun q=>ane (by lia)
   have:=ji.mp (h.mem q1);lia)
  obtain⟨L2,l2,n2,k2⟩:=wy (-e) m1 n1;refine⟨L2,⟨fun x y=>?_,n2⟩,?_⟩
  .have a1:=s1 (-x) y;have a2:=s2 (-x) y;have hc:=h.cnt x y;have k:=k1 x y;have k':=k2 x y;rw[c1,c2]at a1;rw[c3,c4]at a2;simp only[cAq,eA,SE,km,Sm,TK]at a1 a2 k k';lia
  .unfold nL;lia
theorem NB{r:List Int}{x y:Int}(h:(x,y)∈cp r):∃j,r[j]?=some x/\r[(j+1) % r.length]?=some y:=by
 cases r with
 |nil=>cases h
 |cons a r =>
  have key:∀{l:List Int},(x,y)∈pp l->∃j,l[j]?=some x/\l[j+1]?=some y:=by
   intro l
   induction l with
   |nil=>intro h;cases h
   |cons b l ih =>
    cases l with
    |nil=>intro h;cases h
    |cons c l =>
     intro h;rcases Rl.mp (show (x,y)∈(b,c)::pp (c::l) from h) with e|h
     .cases e;exact⟨0,rfl,rfl⟩
     .obtain ⟨j,j1,j2⟩:=ih h;exact⟨j+1,by simpa using j1,by simpa using j2⟩
  obtain⟨j,j1,j2⟩:=key (show (x,y)∈pp (a::r++[a]) from h)
  have lt:=(gSq.mp j2).1;rw[lAq,lSq]at lt;refine⟨j,?_,?_⟩
  .rw [gZq (by lia)]at j1
   exact j1
  .by_cases c:j+1<(a::r).length
   .rw [gZq c]at j2;rw[Ut c];exact j2
   .have e:j+1=(a::r).length:=by lia
    rw[e,gYq (Rk _),TB]at j2;rw[e,U5];exact j2
theorem JS{X:List (List Int)}(hn:X.flatten.Nodup) {x y:Int}(h:(x,y)∈PC X):nx X x=y:=by
 obtain⟨r,hr,q⟩:=SC.mp h;obtain⟨j,j1,j2⟩:=NB q;exact BV hn hr j1 j2
theorem Ln.flat(h:Ln C LL) (hneg:∀e∈C.flatten, -e∈C.flatten) (hn:C.flatten.Nodup):LL.flatten.Perm C.flatten:=by
 have e1:=Ao LL;have e2:=Ao C;refine e1.symm.trans (SU.trans ?_ e2);have:(PC LL).Perm ((PC C).map fun q=>(-q.1,q.2)):=by
  refine TH.mpr fun q=>?_
  obtain⟨x,y⟩:=q;rw[h.cnt];generalize PC C=l
  induction l with
  |nil=>rfl
  |cons p l ih =>
   obtain⟨u,v⟩:=p;rw[Ru,eA,eA,ih,km]
 refine(this.map (·.2)).trans ?_;rw[mPq];exact .refl _
theorem Ln.orb(h:Ln C LL) (mp:Mp C):pE (fw C) C.flatten LL:=by
 have pf:=h.flat mp.hneg mp.hn;have nd:=pf.nodup_iff.mpr mp.hn;have eq:∀x∈LL.flatten,nx LL x=fw C x:=fun x hx=>by
  rw[←K7 LL]at hx;obtain⟨⟨u,v⟩,hq,rfl⟩:=mMq.mp hx;have q:(-u,v)∈PC C:=by
   rw[ji,←h.cnt];exact ji.mp hq
  show nx LL u=nx C (-u);rw[JS nd hq,JS mp.hn q]
 refine⟨fun l hl=>?_,nd,fun x=>pf.mem_iff⟩
 obtain⟨a,l',ea⟩:=gg (h.ne l hl);have cy:=zU nd hl (show l[0]?=some a by rw[ea];rfl)
 have ha:a∈LL.flatten:=mFq.mpr ⟨l,hl,by rw[ea];exact Rq ..⟩
 have same:∀n,itr (nx LL) n a=itr (fw C) n a:=fun n=>by
  induction n with
  |zero=>rfl
  |succ n ih =>
   show nx LL (itr (nx LL) n a)=fw C (itr (fw C) n a);rw[←ih];exact eq _ ((Al nd).itr_mem ha n)
 refine⟨a,cy.len,?_,?_,cy.nd⟩
 .have:=cy.get;rw[mCq fun n _=>same n]at this
  exact this
 .rw [←same];exact cy.back
theorem Hm(C:List (List Int)):(hU C).length=C.count []:=by
 unfold hU;rw[lMq,List.count_eq_countP,R8];congr 1;refine Vl fun r _=>?_
 cases r <;> rfl
theorem Ln.lands(h:Ln C LL) (mp:Mp C):∃G:List (List Int),K15.cP [dM C]=some (.ow (G.map aI))/\G.length=nL C LL:=by
 obtain⟨L,o,e⟩:=lands_ok mp;refine⟨_,e,?_⟩;have p:=(pE.perm (jl mp) o (h.orb mp)).length_eq;rw[lMq,lMq]at p;rw[dm,lMq,lAq,Hm,p];unfold nL;lia
theorem Hs(r:List Int) (q:Int×Int):(cp (good r)).count q=(cp r).count q:=by
 unfold good;show (cp (r.drop _++r.take _)).count q=_;rw[wX,R5]
theorem Ln.rows(h:Ln C LL):Ln (dw (C.map good)) LL:=by
 refine⟨fun x y=>?_,h.ne⟩
 rw[h.cnt,Jc (aV _)];generalize C=X
 induction X with
 |nil=>rfl
 |cons r X ih=>rw[fj,Ru,fj,Hs,ih]
theorem HE(C LL:List (List Int)):nL (dw (C.map good)) LL=nL C LL:=by
 unfold nL;rw[(aV _).count_eq];congr 1
 induction C with
 |nil=>rfl
 |cons r X ih =>
  rw[Ru,Sj,Sj,ih];congr 1;have:(good r == [])=(r == []):=by
   rw[RZ,beq_iff_eq,beq_iff_eq];have:=(aY r).length_eq;rw[←R9,←R9,this]
  rw[this]
end
end K18
namespace K19
open PySem L2 Mr Z
def Cj:MS:=(bw (aM Zl.aT (ar (dg (iJ (ay 0)) [] cX (Ny (eU 0))) aG)))
def DU:MF:=cL 1 1 Cj
end K19
namespace K17
open PySem L2 Mr Z
def A5:MS:=(bw (kSc (aR LW (rOf (aM K43.pD (ar (ay 0) aG))) (rC (.int 4)))))
def Cv:MF:=cL 1 1 A5
def sY:MS:=(jt (cD (aR (uL false) (qD gD (af 5)) (af 6))) (ao (Np 2 (af 6)) (gJ 3 (ay 6))) bh)
def rV:MS:=(jF 6 (iM (eU 2)) sY)
def si:MS:=(ao (jF 5 (KI (eU 3) (af 4)) rV) (aC 4 (kSc (aR jv (af 4) (rC (.int 1))))))
def uB:MS:=(ao (Nl 3 (gM 2 (rC (.int 0)))) (ao (aC 4 (kSc (rC (.int 0)))) (ao (cv (cD (aR Kv (af 4) (dD bS (ae (af 3) ak)))) si 100000) (gJ 1 (ay 3)))))
def wV:MS:=(ao (aC 1 (dW aG))
 (ao (aC 2 (iM (eU 0)))
 (ao (cv (HM (af 2)) uB 100000)
 (bw (mE 1)))))
def xS:MF:=cL 1 7 wV
end K17
namespace K18
open PySem L2 Mr Z
end K18
namespace K11
open PySem L2 Mr Z
end K11
--ZQ3 --ZQ4 --ZQ5 --ZQ6 --ZQ8 --ZQ9 --ZQB --ZQC --ZQD --ZQE --ZQF
namespace K11
open PySem L2 Mr Z Xe Zl K12
def qV(p:List (List Int)):Prop:=∀k,0<k->k<p.length->∃j e,j<k/\e∈p.getD j []/\-e∈p.getD k []
structure Cn (p:List (List Int)):Prop where
 ne:p≠[]
 clo:∀z∈p.flatten, -z∈p.flatten
 tr:qV p
theorem oW{l:List (List Int)}{h:Nat}{r x:List Int}(hr:l[h]?=some r) {k:Nat}{e:Int}(he:e∈l.getD k []):e∈(l.set h (r++x)).getD k []:=by
 rw[gDq]at he ⊢
 by_cases q:h=k
 .subst q;have hlt:=(gSq.mp hr).1;rw[Rz hlt];rw[hr]at he;exact SN _ he
 .rw [Ry q];exact he
theorem wN{l:List (List Int)}{h:Nat}{r x:List Int}(hr:l[h]?=some r) {e:Int}(he:e∈x):e∈(l.set h (r++x)).getD h []:=by
 have hlt:=(gSq.mp hr).1;rw[gDq,Rz hlt];exact RB _ he
theorem qV.set{l:List (List Int)}{h:Nat}{r x:List Int}(t:qV l) (hr:l[h]?=some r):qV (l.set h (r++x)):=fun k h0 hk=>by
 rw[lZq]at hk;obtain⟨j,e,h1,h2,h3⟩:=t k h0 hk;exact⟨j,e,h1,oW hr h2,oW hr h3⟩
theorem getD_app{l:List (List Int)}{x:List Int}{k:Nat}(h:k<l.length):(l++[x]).getD k []=l.getD k []:=by
 rw[gDq,gDq,gZq h]
theorem xG{l:List (List Int)}{x:List Int}:(l++[x]).getD l.length []=x:=by
 rw[gDq,gYq (Rk _),TB];rfl
theorem qV.add{l:List (List Int)}{h:Nat}{e:Int}(t:qV l) (hh:h<l.length) (he:e∈l.getD h []):qV (l++[[-e]]):=fun k h0 hk=>by
 rw[lAq,lSq]at hk
 by_cases q:k<l.length
 .obtain ⟨j,e',h1,h2,h3⟩:=t k h0 q;exact⟨j,e',h1,by rw[getD_app (by lia)];exact h2,by rw[getD_app q];exact h3⟩
 .have ek:k=l.length:=by lia
  subst ek;exact⟨h,e,hh,by rw[getD_app hh];exact he,by rw[xG];simp⟩
theorem Ej(r:List Int):qV [r]:=fun k h0 hk=>by
 rw[lSq]at hk;lia
end K11
--ZQ3 --ZQ4 --ZQ5 --ZQ6 --ZQ8 --ZQ9 --ZQB --ZQC --ZQD --ZQE --ZQF --ZQG
namespace K18
open PySem L2 Mr Z Xe Zl
open K12 (cN aP pO Bu Ft)
end K18
--ZQ3 --ZQ4 --ZQ5 --ZQ6 --ZQ8 --ZQ9 --ZQB --ZQC --ZQD --ZQE --ZQF --ZQG
namespace K18
open PySem L2 Mr Z Xe Zl
open K12 (cN aP both kE Nm)
open K11 (qV Cn)
def Wl(last:List (List Int)):Nat->List Nat->Prop
 |_,[]=>True
 |h,p::rest=>(p<h/\∃e p0 n0,last[p]?=some (p0++[e])/\last[h]?=some (-e::n0))/\Wl last p rest
theorem Wl.keep{last last':List (List Int)}:∀{t:List Nat}{h:Nat},Wl last h t->(∀k,k<h->last'[k]?=last[k]?)->(∀s,last[h]?=some s->∃x,last'[h]?=some (s++x))->Wl last' h t
 | [],_,_,_,_=>trivial
 |p::rest,h,⟨⟨lt,e,p0,n0,h1,h2⟩,w⟩,hk,hs=>by
  obtain⟨x,hx⟩:=hs _ h2;exact⟨⟨lt,e,p0,n0++x,by rw[hk p lt];exact h1,hx⟩,w.keep (fun k hk'=>hk k (by lia)) fun s hs'=>⟨[],by rw[hk p lt,hs',aNq]⟩⟩
section
variable {nm:List Int}{n:Nat}{P0:List (List (List Int))}{last:List (List Int)}{t0:List Nat}{h:Nat}{left:List Int}{used kn:Nat}
theorem Io(A:List (List Int)) (l:List (List Int)) (h:Nat) (y:List Int):(A++l).set (A.length+h) y=A++l.set h y:=by
 rw[VH _ _ (by lia),UA]
theorem zS(hh:h<last.length):last[h]?=some (last.getD h []):=by rw[gDq,gEg hh];rfl
end
end K18
--ZQ3 --ZQ4 --ZQ5 --ZQ6 --ZQ8 --ZQ9 --ZQB --ZQC --ZQD --ZQE --ZQF --ZQG
namespace K31
open PySem L2 Mr Z Xe Zl K12
theorem BS(one two:Int):∃st sh a b:Int,1<=st/\st<=10 ^ 40/\0<=sh/\sh<10 ^ 40/\1<=a/\a<=66/\∀k:Nat,eO [.int one,.int two,.int (k:Int)]=some (.sh (.int (DV st sh a b k))):=by
 have a1:0<=two % 66:=Sn _ (by decide)
 have a2:two % 66<66:=Sq _ (by decide)
 have s1:0<=one / 3 % 10 ^ 40:=Sn _ (by decide)
 have s2:one / 3 % 10 ^ 40<10 ^ 40:=Sq _ (by decide)
 have s3:0<=two / 66 % 10 ^ 40:=Sn _ (by decide)
 have s4:two / 66 % 10 ^ 40<10 ^ 40:=Sq _ (by decide)
 have m3:=fun i:Int=>cV (i:=i) (j:=3) (by decide)
 have m66:=fun i:Int=>cV (i:=i) (j:=66) (by decide)
 have m67:=fun i:Int=>cV (i:=i) (j:=67) (by decide)
 have m40:=fun i:Int=>cV (i:=i) (j:=10 ^ 40) (by decide)
 have d3:=fun i:Int=>kY (i:=i) (j:=3) (by decide) (by decide)
 have d66:=fun i:Int=>kY (i:=i) (j:=66) (by decide) (by decide)
 have c1:=fun k:Nat=>GP (i:=1+two % 66) (j:=(k:Int)) (by lia) (by lia)
 by_cases h0:0<one % 3
 .refine ⟨1+one / 3 % 10 ^ 40,two / 66 % 10 ^ 40,1+two % 66,one,by lia,by lia,s3,s4,by lia,by lia,fun k=>?_⟩
  have b1:0<=((1+two % 66)*(k:Int)+one) % 67:=Sn _ (by decide)
  have b2:((1+two % 66)*(k:Int)+one) % 67<67:=Sq _ (by decide)
  have c2:=BO (i:=1+one / 3 % 10 ^ 40) (j:=((1+two % 66)*(k:Int)+one) % 67+1) (by lia) (by lia)
  simp_arith [eO,qi,h0,m3,m66,m67,m40,d3,d66,c1,c2,Qy,DV]
 .refine ⟨1,0,1+two % 66,one,by decide,by decide,by decide,by decide,by lia,by lia,fun k=>?_⟩
  have b1:0<=((1+two % 66)*(k:Int)+one) % 67:=Sn _ (by decide)
  have b2:((1+two % 66)*(k:Int)+one) % 67<67:=Sq _ (by decide)
  have c2:=BO (i:=1) (j:=((1+two % 66)*(k:Int)+one) % 67+1) (by lia) (by lia)
  simp_arith [eO,qi,h0,m3,m66,m67,c1,c2,DV]
theorem qH{T:List (List Int)}{h:Nat}{r:List Int}(hr:T[h]?=some r):bL (.ow (T.map aI)) [h]=some (r.map fun n=>.sh (.int n)):=by
 rw[yU,gMq,hr];rfl
theorem Iv{T:List (List Int)}{h:Nat}{r r':List Int}(hr:T[h]?=some r):putAt (.ow (T.map aI)) [h] (r'.map fun n=>.sh (.int n)) = .ow ((T.set h r').map aI):=by
 rw[zH (a:=aI r) (by rw[gMq,hr];rfl)]
 show AV.ow ((T.map aI).set h (aI r'))=_;rw[GD]
structure Wd where
 T:List (List Int)
 t0:List Nat
 h:Nat
 loose:List Int
 left:List Int
def uz(wild:Bool) (c:Int) (loose:List Int):Nat:=if wild then (c / 8 % loose.length).toNat else loose.length-1
def sg(c x:Int):Int:=x*(1-2*(c / 4 % 2))
def wstep(wild:Bool) (w:Wd) (c:Int):Wd :=
 let r:=w.T.getD w.h []
 if c % 4=1/\w.t0≠[] then { w with t0:=w.t0.dropLast,h:=w.t0.getLast?.getD 0 }
 else if c % 4=2/\w.loose≠[] then { w with T:=w.T.set w.h (r++[w.loose.getD (uz wild c w.loose) 0]),loose:=w.loose.eraseIdx (uz wild c w.loose) }
 else match w.left with
  | []=>w
  |x::left=>if c % 4=0 then { w with T:=w.T.set w.h (r++[sg c x])++[[-(sg c x)]],t0:=w.t0++[w.h],h:=w.T.length,left:=left }
   else { w with T:=w.T.set w.h (r++[sg c x]),loose:=w.loose++[-(sg c x)],left:=left }
def st(v0 v1:Option AV) (wild:Bool) (w:Wd) (v7 v8 v9 v10:Option AV):AS:=[v0,v1,some (.sh (.bl wild)),some (.ow (w.T.map aI)),some (aI (cN (w.t0++[w.h]))),some (aI w.loose),some (aI w.left),v7,v8,v9,v10]
section
variable {T:List (List Int)}{t0:List Nat}{hd:Nat}{loose left r:List Int}{c:Int}{wild:Bool}{v0 v1 v8 v9 v10:Option AV}
theorem Ex:atI ((cN (t0++[hd])).map D.int) (((t0++[hd]).length:Int)-1)=some (.int (hd:Int)):=by
 have:((t0++[hd]).length:Int)-1=(t0.length:Int):=by rw[lAq,lSq];lia
 rw[this];refine rJ ?_;unfold cN;rw[mBq,mBq,gYq (by simp)]
 simp
theorem sj(l:List Nat):(cN l).length=l.length:=lMq ..
def GF:List Nat->MS:=(xr 3 (cD (aR uE (dD bS (ae (af 6) ak)) (rC (.int 0)))) (wB 3 (vd 10 (Ib pX (gM 6 (rC (.int 0))) (aR kX (rC (.int 1)) (aR pX (rC (.int 2)) (aR ee (aR mD (af 7) (rC (.int 4))) (rC (.int 2))))))) (fun path=>ao ((B1 3 (ay 10)) path) (jt (cD (aR qA (aR ee (af 7) (rC (.int 4))) (rC (.int 0)))) (ao (gJ 3 (dW (ar (kSc (qD gD (af 10))) aG))) (gJ 4 (kSc (aR kX (dD bS (ae (af 3) ak)) (rC (.int 1)))))) (gJ 5 (kSc (qD gD (af 10))))))) (fun _=>bh))
def FF:List Nat->MS:=(xr 3 (nY (cD (aR qA (aR ee (af 7) (rC (.int 4))) (rC (.int 1)))) (cD (aR uE (dD bS (ae (af 4) ak)) (rC (.int 1))))) (fun _=>(wx (rW 4))) (xr 3 (nY (cD (aR qA (aR ee (af 7) (rC (.int 4))) (rC (.int 2)))) (cD (aR uE (dD bS (ae (af 5) ak)) (rC (.int 0))))) (wB 3 (aC 9 (kSc (aR kX (dD bS (ae (af 5) ak)) (rC (.int 1))))) (wB 3 (jt (cD (af 2)) (aC 9 (kSc (aR ee (aR mD (af 7) (rC (.int 8))) (dD bS (ae (af 5) ak))))) bh) (vK 3 (gM 5 (af 9))))) GF))
theorem Iu:dr=(Ip 8 3 (N2 3 (G6 3) (aR zB (af 4) (aR kX (dD bS (ae (af 4) ak)) (rC (.int 1))))) FF):=rfl
theorem G8(hr:T[hd]?=some r):dr (st v0 v1 wild ⟨T,t0,hd,loose,left⟩ (some (.sh (.int c))) v8 v9 v10)=FF [hd] (st v0 v1 wild ⟨T,t0,hd,loose,left⟩ (some (.sh (.int c))) none v9 v10):=by
 have hh:hd<T.length:=(gSq.mp hr).1;have n1:=qH hr;have iL:xo T.length (hd:Int)=some hd:=BP hh;have sl:=aE (cN (t0++[hd]));have at4:=Ex (t0:=t0) (hd:=hd);have cl:=sj (t0++[hd]);have q:((8:Nat)≠3/\8<11)=True:=by simp
 rw[Iu]
 simp_arith [st,n1,iL,sl,dI,at4,cl,q]
theorem JE{t:List Nat}{h':Nat}(hr:T[hd]?=some r) (h1:c % 4=1):FF [hd] (st v0 v1 wild ⟨T,t++[h'],hd,loose,left⟩ (some (.sh (.int c))) v8 v9 v10)=some (.nx (st v0 v1 wild ⟨T,t,h',loose,left⟩ (some (.sh (.int c))) v8 v9 v10)):=by
 have m4:=cV (i:=c) (j:=4) (by decide)
 have n1:=qH hr;have sl:=aE (cN (t++[h']++[hd]));have cl:=sj (t++[h']++[hd]);have k1:(1:Int)<((t++[h']++[hd]).length:Int):=by simp;lia
 have ec:(cN (t++[h']++[hd])).map (fun n=>AV.sh (.int n))=(cN (t++[h'])).map (fun n=>AV.sh (.int n))++[.sh (.int (hd:Int))]:=(Ft (t++[h']) hd).symm
 have p1:((cN (t++[h'])).map (fun n=>AV.sh (.int n))++[AV.sh (.int (hd:Int))])[((cN (t++[h'])).map (fun n=>AV.sh (.int n))++[AV.sh (.int (hd:Int))]).length-1]?=some (.sh (.int (hd:Int))):=by
  rw[lAq,lSq,gYq (by lia)]
  simp
 have p2:((cN (t++[h'])).map (fun n=>AV.sh (.int n))++[AV.sh (.int (hd:Int))]).dropLast=(cN (t++[h'])).map (fun n=>AV.sh (.int n)):=Tu
 simp_arith [FF,st,m4,h1,n1,sl,dI,cl,k1,eq_self,ec,p1,p2]
theorem Je(hr:T[hd]?=some r) (hrl:r.length<500000) (hll:loose.length<500000) (h1:¬ c % 4=1) (h2:c % 4=2) (hne:loose≠[]):FF [hd] (st v0 v1 wild ⟨T,t0,hd,loose,left⟩ (some (.sh (.int c))) v8 v9 v10)=some (.nx (st v0 v1 wild ⟨T.set hd (r++[loose.getD (uz wild c loose) 0]),t0,hd,loose.eraseIdx (uz wild c loose),left⟩ (some (.sh (.int c))) v8 (some (.sh (.int (uz wild c loose:Nat)))) v10)):=by
 have m4:=cV (i:=c) (j:=4) (by decide)
 have d8:=kY (i:=c) (j:=8) (by decide) (by decide)
 have hpos:0<loose.length:=U8.mpr hne;have ml:=cV (i:=c / 8) (j:=(loose.length:Int)) (by lia)
 have n1:=qH hr;have l1:r.length<cZ:=by show _<16777216;lia
 have sl:=aE loose;have k0:(0:Int)<(loose.length:Int):=by lia
 have hlt:uz wild c loose<loose.length:=by
  unfold uz;have b0:0<=c / 8 % (loose.length:Int):=Sn _ (by lia)
  have b1:c / 8 % (loose.length:Int)<(loose.length:Int):=Sq _ (by lia)
  split <;> lia
 have ll:loose.length<=cZ:=by show _<=16777216;lia
 have g1:(loose.map fun n=>AV.sh (.int n))[uz wild c loose]?=some (.sh (.int (loose.getD (uz wild c loose) 0))):=by
  rw[gMq,gEg hlt,gDq,gEg hlt];rfl
 have g2:(loose.map fun n=>AV.sh (.int n)).eraseIdx (uz wild c loose)=(loose.eraseIdx (uz wild c loose)).map fun n=>.sh (.int n):=Fc _ _ _
 have p2:=Iv (r':=r++[loose.getD (uz wild c loose) 0]) hr;have a1:=pO r (loose.getD (uz wild c loose) 0);have q:(0<=((uz wild c loose:Nat):Int)/\((uz wild c loose:Nat):Int)<(loose.length:Int)/\loose.length<=cZ)=True:=by simp[ll,hlt]
 have tn:((uz wild c loose:Nat):Int).toNat=uz wild c loose:=Tv _;have h21:¬ (2:Int)=1:=by decide
 cases wild with
 |true =>
  have ea:c / 8 % (loose.length:Int)=((uz true c loose:Nat):Int):=by
   have b0:0<=c / 8 % (loose.length:Int):=Sn _ (by lia)
   show _=(((c / 8 % (loose.length:Int)).toNat:Nat):Int);lia
  simp_arith [FF,st,m4,h2,h21,n1,sl,dI,k0,eq_self,d8,ml,ea,q,tn,g1,g2,l1,a1,p2,true_and]
 |false =>
  have ea:(loose.length:Int)-1=((uz false c loose:Nat):Int):=by
   show _=((loose.length-1:Nat):Int);lia
  simp_arith [FF,st,m4,h2,h21,n1,sl,dI,k0,eq_self,ea,q,tn,g1,g2,l1,a1,p2,true_and]
theorem Eg(hr:T[hd]?=some r) (h1:¬ (c % 4=1/\t0≠[])) (h2:¬ (c % 4=2/\loose≠[])):FF [hd] (st v0 v1 wild ⟨T,t0,hd,loose,left⟩ (some (.sh (.int c))) v8 v9 v10)=GF [hd] (st v0 v1 wild ⟨T,t0,hd,loose,left⟩ (some (.sh (.int c))) v8 v9 v10):=by
 have m4:=cV (i:=c) (j:=4) (by decide)
 have n1:=qH hr;have sl:=aE loose;have sw:=aE (cN (t0++[hd]));have cl:=sj (t0++[hd]);have q1:c % 4=1->decide ((1:Int)<((t0++[hd]).length:Int))=false:=fun h=>by
  by_cases hn:t0=[]
  .subst hn;simp
  .exact absurd ⟨h,hn⟩ h1
 have q2:c % 4=2->decide ((0:Int)<(loose.length:Int))=false:=fun h=>by
  by_cases hn:loose=[]
  .subst hn;simp
  .exact absurd ⟨h,hn⟩ h2
 have h21:¬ (2:Int)=1:=by decide
 have h12:¬ (1:Int)=2:=by decide
 by_cases e1:c % 4=1
 .have q1':=q1 e1
  simp_arith [FF,GF,st,m4,e1,h12,n1,sl,sw,cl,dI,q1',eq_self]
 .by_cases e2:c % 4=2
  .have q2':=q2 e2
   simp_arith [FF,GF,st,m4,e2,h21,n1,sl,sw,cl,dI,q2',eq_self]
  .simp_arith [FF,GF,st,m4,e1,e2,n1,sl,sw,cl,dI,eq_self]
theorem HQ(hr:T[hd]?=some r):GF [hd] (st v0 v1 wild ⟨T,t0,hd,loose,[]⟩ (some (.sh (.int c))) v8 v9 v10)=some (.nx (st v0 v1 wild ⟨T,t0,hd,loose,[]⟩ (some (.sh (.int c))) v8 v9 v10)):=by
 have n1:=qH hr;have k0:decide ((0:Int)<((0:Nat):Int))=false:=by decide
 have sl:=aE []
 simp_arith [GF,st,n1,sl,dI,k0]
theorem KR{x:Int}(hr:T[hd]?=some r) (hrl:r.length<500000) (hTl:T.length<500000) (htl:t0.length<500000) (hll:left.length<500000) (h0:c % 4=0):GF [hd] (st v0 v1 wild ⟨T,t0,hd,loose,x::left⟩ (some (.sh (.int c))) v8 v9 v10)=some (.nx (st v0 v1 wild ⟨T.set hd (r++[sg c x])++[[-(sg c x)]],t0++[hd],T.length,loose,left⟩ (some (.sh (.int c))) v8 v9 (some (.sh (.int (sg c x)))))):=by
 have m4:=cV (i:=c) (j:=4) (by decide)
 have d4:=kY (i:=c) (j:=4) (by decide) (by decide)
 have m2:=cV (i:=c / 4) (j:=2) (by decide)
 have b0:0<=c / 4 % 2:=Sn _ (by decide)
 have b1:c / 4 % 2<2:=Sq _ (by decide)
 have c1:=GP (i:=2) (j:=c / 4 % 2) (by lia) (by lia)
 have c2:=BO (i:=x) (j:=1-2*(c / 4 % 2)) (by lia) (by lia)
 have n1:=qH hr;have sl:=aE (x::left);have k0:(0:Int)<((x::left).length:Int):=by rw[lCq];lia
 have k00:(0:Int)<((left.length+1:Nat):Int):=by lia
 have l1:r.length<cZ:=by show _<16777216;lia
 have q:(0:Int)<=0:=UO _;have lL:left.length+1<=cZ:=by show _<=16777216;lia
 have t0':(0:Int).toNat=0:=rfl;have es:x*(1-2*(c / 4 % 2))=sg c x:=rfl;have a1:=pO r (sg c x);have p2:=Iv (r':=r++[sg c x]) hr;have lT:(T.set hd (r++[sg c x])).length=T.length:=lZq;have l2:T.length<cZ:=by show _<16777216;lia
 have a3:=Bu (T.set hd (r++[sg c x])) (-(sg c x));have lenT:((T.set hd (r++[sg c x])++[[-(sg c x)]]).length:Int)-1=(T.length:Int):=by rw[lAq,lT,lSq];lia
 have lw:(t0++[hd]).length<cZ:=by rw[lAq,lSq];show t0.length+1<16777216;lia
 have a2:=Ft (t0++[hd]) T.length;have cl:=sj (t0++[hd])
 simp_arith [GF,st,m4,h0,d4,m2,c1,c2,n1,sl,dI,k0,k00,q,lL,true_and,t0',es,eq_self,l1,a1,p2,lT,l2,a3,lenT,cl,lw,a2,UB]
theorem FJ{x:Int}(hr:T[hd]?=some r) (hrl:r.length<500000) (hll:loose.length<500000) (hfl:left.length<500000) (h0:¬ c % 4=0):GF [hd] (st v0 v1 wild ⟨T,t0,hd,loose,x::left⟩ (some (.sh (.int c))) v8 v9 v10)=some (.nx (st v0 v1 wild ⟨T.set hd (r++[sg c x]),t0,hd,loose++[-(sg c x)],left⟩ (some (.sh (.int c))) v8 v9 (some (.sh (.int (sg c x)))))):=by
 have m4:=cV (i:=c) (j:=4) (by decide)
 have d4:=kY (i:=c) (j:=4) (by decide) (by decide)
 have m2:=cV (i:=c / 4) (j:=2) (by decide)
 have b0:0<=c / 4 % 2:=Sn _ (by decide)
 have b1:c / 4 % 2<2:=Sq _ (by decide)
 have c1:=GP (i:=2) (j:=c / 4 % 2) (by lia) (by lia)
 have c2:=BO (i:=x) (j:=1-2*(c / 4 % 2)) (by lia) (by lia)
 have n1:=qH hr;have sl:=aE (x::left);have k0:(0:Int)<((x::left).length:Int):=by rw[lCq];lia
 have k00:(0:Int)<((left.length+1:Nat):Int):=by lia
 have l1:r.length<cZ:=by show _<16777216;lia
 have q:(0:Int)<=0:=UO _;have lL:left.length+1<=cZ:=by show _<=16777216;lia
 have t0':(0:Int).toNat=0:=rfl;have es:x*(1-2*(c / 4 % 2))=sg c x:=rfl;have a1:=pO r (sg c x);have p2:=Iv (r':=r++[sg c x]) hr;have l2:loose.length<cZ:=by show _<16777216;lia
 have a2:=pO loose (-(sg c x))
 simp_arith [GF,st,m4,h0,d4,m2,c1,c2,n1,sl,dI,k0,k00,q,lL,true_and,t0',es,eq_self,l1,a1,p2,l2,a2,UB]
end
end K31
--ZQ3 --ZQ4 --ZQ5 --ZQ6 --ZQ8 --ZQ9 --ZQB --ZQC --ZQD --ZQE --ZQF --ZQG
namespace K31
open PySem L2 Mr Z Xe Zl K12
def nT(l:List Int):List Int:=l.flatMap fun x=>[x, -x]
theorem sH(x:Int) (l:List Int) (a:Int):(nT (x::l)).count a=[x, -x].count a+(nT l).count a:=by
 unfold nT;rw[UJ,cAq]
theorem oO:∀l:List Int,(nT l).length=2*l.length
 | []=>rfl
 |x::l=>by
  unfold nT;have:=oO l;unfold nT at this;rw[UJ,lAq,this];show 2+2*l.length=2*(l.length+1);lia
theorem Jh{l:List Int}{z:Int}:z∈nT l↔∃x∈l,z=x∨z = -x:=by
 unfold nT;rw[SC];simp
theorem GR(a c x:Int):[sg c x].count a+[-(sg c x)].count a=[x, -x].count a:=by
 have b0:0<=c / 4 % 2:=Sn _ (by decide)
 have b1:c / 4 % 2<2:=Sq _ (by decide)
 rw[show [x, -x]=[x]++[-x] from rfl,cAq]
 unfold sg;have h:c / 4 % 2=0∨c / 4 % 2=1:=by lia
 rcases h with h|h
 .rw [h,show (1:Int)-2*0=1 from rfl,Wb]
 .rw [h,show (1:Int)-2*1 = -1 from rfl,Int.mul_neg,Wb,Sm]
  lia
structure WOk (nm:List Int) (w:Wd) (n:Nat):Prop where
 hh:w.h<w.T.length
 ht:∀k∈w.t0,k<w.T.length
 lw:w.t0.length<=n
 lT:w.T.length<=n+1
 lf:w.left.length<=nm.length
 cnt:∀a,w.T.flatten.count a+w.loose.count a+(nT w.left).count a=(nT nm).count a
 tr:K11.qV w.T
theorem WOk.len{nm:List Int}{w:Wd}{n:Nat}(h:WOk nm w n):w.T.flatten.length+w.loose.length+(nT w.left).length=2*nm.length:=by
 have:(w.T.flatten++w.loose++nT w.left).Perm (nT nm):=by
  rw[TH];intro a;rw[cAq,cAq];exact h.cnt a
 have:=this.length_eq;rw[lAq,lAq,oO nm]at this;exact this
theorem WOk.step{nm:List Int}{w:Wd}{n:Nat}{wild:Bool}(h:WOk nm w n) (c:Int):WOk nm (wstep wild w c) (n+1):=by
 obtain⟨T,t0,hd,loose,left⟩:=w;obtain⟨hh,ht,lw,lT,lf,cnt,tr⟩:=h;simp only at hh ht lw lT lf cnt tr;have hr:T[hd]?=some (T.getD hd []):=by rw[gDq,gEg hh];rfl
 unfold wstep;simp only;split
 .rename_i q;rcases Uo t0 with z|⟨t,h',z⟩
  .exact absurd z q.2
  .subst z;rw[Up]at ht lw ⊢;rw[Tu,UZ];simp only[UD,VO,UQ];rw[lAq,lSq]at lw;exact⟨ht _ (by simp),fun k hk=>ht k (by simp[hk]),(by simp only;lia),(by simp only;lia),lf,cnt,tr⟩
 .split
  .rename_i q;have hpos:0<loose.length:=U8.mpr q.2;have hlt:uz wild c loose<loose.length:=by
    unfold uz;have b0:0<=c / 8 % (loose.length:Int):=Sn _ (by lia)
    have b1:c / 8 % (loose.length:Int)<(loose.length:Int):=Sq _ (by lia)
    split <;> lia
   refine⟨?_,?_,?_,?_,lf,fun a=>?_,?_⟩
   .simp only [lZq];exact hh
   .simp only [lZq];exact ht
   .simp only;lia
   .simp only [lZq];lia
   .simp only;rw[kE a hr,←cnt a,←pP a hlt];lia
   .exact tr.set hr
  .cases left with
   |nil=>exact⟨hh,ht,(by simp only;lia),(by simp only;lia),lf,cnt,tr⟩
   |cons x left =>
    simp only;rw[lCq]at lf;have cx:=fun a=>sH x left a
    split
    .refine ⟨?_,?_,?_,?_,(by simp only;lia),fun a=>?_,?_⟩
     .simp only [lAq,lZq,lSq];lia
     .intro k hk;simp only[lAq,lZq,lSq]at hk ⊢;rcases mAq.mp hk with hk|hk
      .have:=ht k hk;lia
      .rw [mSq.mp hk];lia
     .simp only [lAq,lSq];lia
     .simp only [lAq,lZq,lSq];lia
     .simp only;rw[fAq,Sf,cAq,kE a hr];have:=cnt a;rw[cx a,←GR a c x]at this;lia
     .exact (tr.set hr).add (by rw[lZq];exact hh) (K11.wN hr (by simp))
    .refine ⟨?_,?_,?_,?_,(by simp only;lia),fun a=>?_,?_⟩
     .simp only [lZq];exact hh
     .simp only [lZq];exact ht
     .simp only;lia
     .simp only [lZq];lia
     .simp only;rw[kE a hr,cAq];have:=cnt a;rw[cx a,←GR a c x]at this;lia
     .exact tr.set hr
theorem DK{nm:List Int}{w:Wd}{n:Nat}{wild:Bool}{c:Int}{v0 v1 v8 v9 v10:Option AV}(h:WOk nm w n) (hn:n<1000) (hm:nm.length<=1000):∃v8' v9' v10',dr (st v0 v1 wild w (some (.sh (.int c))) v8 v9 v10)=some (.nx (st v0 v1 wild (wstep wild w c) (some (.sh (.int c))) v8' v9' v10')):=by
 have hlen:=h.len;obtain⟨T,t0,hd,loose,left⟩:=w;obtain⟨hh,ht,lw,lT,lf,cnt,tr⟩:=h;simp only at hh ht lw lT lf cnt tr hlen;have hr:T[hd]?=some (T.getD hd []):=by rw[gDq,gEg hh];rfl
 have hrl:=Bh hr;rw[G8 hr];unfold wstep;simp only
 by_cases q1:c % 4=1/\t0≠[]
 .rw [if_pos q1];rcases Uo t0 with z|⟨t,h',z⟩
  .exact absurd z q1.2
  .subst z;rw[Up,Tu,UZ];simp only[UD,VO,UQ];exact⟨_,_,_,JE hr q1.1⟩
 .rw [if_neg q1]
  by_cases q2:c % 4=2/\loose≠[]
  .rw [if_pos q2];exact⟨_,_,_,Je hr (by lia) (by lia) (by have:=q2.1;lia) q2.1 q2.2⟩
  .rw [if_neg q2,Eg hr q1 q2];cases left with
   |nil=>exact⟨_,_,_,HQ hr⟩
   |cons x left =>
    simp only;rw[lCq]at lf
    by_cases q0:c % 4=0
    .rw [if_pos q0];exact⟨_,_,_,KR hr (by lia) (by lia) (by lia) (by lia) q0⟩
    .rw [if_neg q0];exact⟨_,_,_,FJ hr (by lia) (by lia) (by lia) q0⟩
def w0(nm:List Int):Wd:=⟨[[]],[],0,[],nm⟩
theorem Fk(nm:List Int):WOk nm (w0 nm) 0:=⟨by simp[w0],(fun k h=>by cases h),Rk _,Rk _,Rk _,(fun a=>by simp[w0]),K11.Ej _⟩
theorem sF{nm:List Int}{wild:Bool}:∀(cs:List Int) {w:Wd}{n:Nat},WOk nm w n->WOk nm (cs.foldl (wstep wild) w) (n+cs.length)
 | [],w,n,h=>h
 |c::cs,w,n,h=>by
  have:=sF (wild:=wild) cs (h.step (wild:=wild) c);rw[Ss,lCq,show n+(cs.length+1)=n+1+cs.length by lia]
  exact this
theorem zY{nm cs:List Int}{wild:Bool}{v7 v8 v9 v10:Option AV}(hc:cs.length<=63) (hn:nm.length<=1000):∃v7' v8' v9' v10',dE 7 dr (cs.map D.int) (st (some (.sh (dI cs))) (some (.sh (dI nm))) wild (w0 nm) v7 v8 v9 v10)=some (.nx (st (some (.sh (dI cs))) (some (.sh (dI nm))) wild (cs.foldl (wstep wild) (w0 nm)) v7' v8' v9' v10')):=by
 have key:=fk (x:=7) (body:=dr) (fun i S=>∃v7 v8 v9 v10,S=st (some (.sh (dI cs))) (some (.sh (dI nm))) wild ((cs.take i).foldl (wstep wild) (w0 nm)) v7 v8 v9 v10) (ds:=cs.map D.int) (S:=st (some (.sh (dI cs))) (some (.sh (dI nm))) wild (w0 nm) v7 v8 v9 v10) ⟨v7,v8,v9,v10,rfl⟩ (by
  rintro i d S hd ⟨v7,v8,v9,v10,rfl⟩;rw[gMq]at hd;obtain⟨c,hc',rfl⟩:=oMq.mp hd;have hi:i<cs.length:=(gSq.mp hc').1;have ok:=sF (nm:=nm) (wild:=wild) (cs.take i) (Fk nm);rw[lTq]at ok;obtain⟨v8',v9',v10',e⟩:=DK (wild:=wild) (c:=c) (v0:=some (.sh (dI cs))) (v1:=some (.sh (dI nm))) (v8:=v8) (v9:=v9) (v10:=v10) ok (by lia) hn
  refine⟨_,e,some (.sh (.int c)),v8',v9',v10',?_⟩;rw[CQ hc'])
 obtain⟨S',e,v7',v8',v9',v10',rfl⟩:=key;rw[lMq,RY]at e;exact⟨v7',v8',v9',v10',e⟩
theorem Dn{T:List (List Int)}{t0:List Nat}{hd:Nat}{loose left r:List Int}{wild:Bool}{v0 v1 v7 v8 v9 v10:Option AV}(hr:T[hd]?=some r) (hl:r.length+loose.length<=10000) :
  cv (cD (aR uE (dD bS (ae (af 5) ak)) (rC (.int 0)))) gP 100000 (st v0 v1 wild ⟨T,t0,hd,loose,left⟩ v7 v8 v9 v10)=some (.nx (st v0 v1 wild ⟨T.set hd (r++loose.reverse),t0,hd,[],left⟩ v7 v8 v9 v10)):=by
 have hh:hd<T.length:=(gSq.mp hr).1;obtain⟨S',e,l2,rfl,z⟩:=hZ (c:=cD (aR uE (dD bS (ae (af 5) ak)) (rC (.int 0)))) (body:=gP)
  (fun S=>∃l1 l2,S=st v0 v1 wild ⟨T.set hd (r++l2),t0,hd,l1,left⟩ v7 v8 v9 v10/\loose=l1++l2.reverse)
  (fun S=>match S with|[_,_,_,_,_,some (.ow l),_,_,_,_,_]=>l.length|_=>0)
  (fun S'=>∃l2,S'=st v0 v1 wild ⟨T.set hd (r++l2),t0,hd,[],left⟩ v7 v8 v9 v10/\loose=l2.reverse) (by
   rintro S ⟨l1,l2,rfl,hz⟩;have hzl:=congrArg S6 hz;rw[lAq,List.length_reverse]at hzl;rcases Uo l1 with rfl|⟨l,x,rfl⟩
   .refine ⟨false,_,?_,fun q=>(nomatch q),fun _=>⟨l2,rfl,by rw[hz];rfl⟩⟩
    have k0:decide ((0:Int)<((0:Nat):Int))=false:=by decide
    have sl:=aE []
    simp_arith [st,sl,dI,k0]
   .rw [Up]at hz hzl ⊢;have hr2:(T.set hd (r++l2))[hd]?=some (r++l2):=Rz hh;have n1:=qH hr2;have iL:xo T.length (hd:Int)=some hd:=BP hh;have lT:(T.set hd (r++l2)).length=T.length:=lZq;have sw:=aE (cN (t0++[hd]));have at4:=Ex (t0:=t0) (hd:=hd);have cl:=sj (t0++[hd]);have sl:=aE (l++[x]);have k0:(0:Int)<((l++[x]).length:Int):=by rw[lAq,lSq];lia
    have ex:(l++[x]).map (fun n=>AV.sh (.int n))=l.map (fun n=>AV.sh (.int n))++[.sh (.int x)]:=by rw[mBq];rfl
    have p1:(l.map (fun n=>AV.sh (.int n))++[AV.sh (.int x)])[(l.map (fun n=>AV.sh (.int n))++[AV.sh (.int x)]).length-1]?=some (.sh (.int x)):=by
     rw[lAq,lSq,gYq (by lia)]
     simp
    have p2:(l.map (fun n=>AV.sh (.int n))++[AV.sh (.int x)]).dropLast=l.map (fun n=>AV.sh (.int n)):=Tu
    have pp:=Iv (r':=r++l2++[x]) hr2;have a1:=pO (r++l2) x;have l1':(r++l2).length<cZ:=by
     rw[lAq,lSq]at hzl;rw[lAq];show _<16777216;lia
    have ess:(T.set hd (r++l2)).set hd (r++l2++[x])=T.set hd (r++(l2++[x])):=by rw[Uc,Rn]
    refine⟨true,st v0 v1 wild ⟨T.set hd (r++l2),t0,hd,l++[x],left⟩ v7 v8 v9 v10,?_,fun _=>⟨st v0 v1 wild ⟨T.set hd (r++(l2++[x])),t0,hd,l,left⟩ v7 v8 v9 v10,?_,⟨l,l2++[x],rfl,by rw[hz];simp⟩,?_⟩,fun q=>(nomatch q)⟩
    .simp_arith [st,sl,dI,k0]
    .simp_arith [gP,st,n1,iL,lT,sw,dI,at4,cl,ex,p1,p2,l1',a1,pp,ess,eq_self,true_and]
    .show (l.map _).length<((l++[x]).map _).length;rw[lMq,lMq,lAq,lSq];lia) 100000 (st v0 v1 wild ⟨T,t0,hd,loose,left⟩ v7 v8 v9 v10) ⟨loose,[],by rw[aNq,Z.sC hr],by simp⟩ (by
   show (loose.map _).length<100000;rw[lMq];lia)
 rw[e,z,UW]
end K31
--ZQ3 --ZQ4 --ZQ5 --ZQ6 --ZQ8 --ZQ9 --ZQB --ZQC --ZQD --ZQE --ZQF --ZQG
namespace K44
open PySem L2 Mr Z Xe Zl
open K18 (Wl Ln nL eS)
open K31 (Wd WOk wstep sg uz nT w0)
def Cm(w:Wd):List (List Int):=w.T.set w.h (w.T.getD w.h []++w.loose.reverse)
structure Pl (nm:List Int) (w:Wd):Prop where
 wl:Wl w.T w.h w.t0.reverse
 ln:∃LL,Ln (Cm w) LL/\nL (Cm w) LL+w.T.length+w.left.length=nm.length+2
theorem M7{nm:List Int}{w:Wd}{n:Nat}(ok:WOk nm w n) (hn:(nT nm).Nodup):(Cm w).flatten.Nodup:=by
 refine SV.mpr fun a=>?_
 have hr:=K18.zS ok.hh;unfold Cm;rw[K12.kE a hr,V2];have:=ok.cnt a;have:=SV.mp hn a;lia
theorem Pl.step{nm:List Int}{w:Wd}{n:Nat}(ok:WOk nm w n) (hn:(nT nm).Nodup) (k:Pl nm w) (c:Int):Pl nm (wstep false w c):=by
 have nd:=M7 ok hn;obtain⟨T,t0,h,loose,left⟩:=w;have hlt:h<T.length:=ok.hh;have hr:T[h]?=some (T.getD h []):=K18.zS hlt;obtain⟨wl,LL,ln,eu⟩:=k;simp only at wl eu;have ca:(Cm ⟨T,t0,h,loose,left⟩)[h]?=some (T.getD h []++loose.reverse):=Rz hlt;have same:∀y,(Cm ⟨T,t0,h,loose,left⟩).set h y=T.set h y:=fun y=>Uc ..
 unfold wstep;simp only;have cmE:Cm ⟨T,t0,h,loose,left⟩=T.set h (T.getD h []++loose.reverse):=rfl;generalize T.getD h []=r at hr ca cmE;have keepW:∀x,Wl (T.set h (r++x)) h t0.reverse:=fun x=>wl.keep (fun j hj=>Ry (by lia)) fun s hs=>⟨x,by
  rw[Rz hlt];rw[hr]at hs;cases hs;rfl⟩
 split
 .rename_i q;obtain⟨t,p,et⟩:∃t p,t0=t++[p]:=⟨t0.dropLast,t0.getLast q.2,(Va q.2).symm⟩;subst et;rw[Tu,UZ];simp only[UD,VO,UQ];rw[TC]at wl;obtain⟨⟨lt,e,p0,n0,h1,h2⟩,w'⟩:=wl;rw[hr]at h2;have er:r = -e::n0:=RD.inj h2;rw[er]at ca;have cp:(Cm ⟨T,t++[p],h,loose,left⟩)[p]?=some (p0++[e]):=by
   rw[cmE,Ry (by lia)]
   exact h1
  obtain⟨LL',l1,l2⟩:=ln.back nd (show h≠p by lia) ca cp
  have own:T.set h r=T:=Z.sC hr;have eC:((Cm ⟨T,t++[p],h,loose,left⟩).set h (-e::n0)).set p (p0++[e]++loose.reverse)=Cm ⟨T,t,p,loose,left⟩:=by
   rw[same,←er,own];show _=T.set p (T.getD p []++loose.reverse);rw[gDq,h1];rfl
  rw[eC]at l1 l2;exact⟨w',LL',l1,by simp only;lia⟩
 .split
  .rename_i q;obtain⟨l',x,el⟩:=eS q.2;subst el;have e1:uz false c (l'++[x])=l'.length:=by
    show (l'++[x]).length-1=_;rw[lAq,lSq,Nat.add_sub_cancel]
   have e2:(l'++[x]).getD l'.length 0=x:=by
    rw[gDq,Vb];rfl
   have e3:(l'++[x]).eraseIdx l'.length=l':=by
    rw[UG (Rk _),TB];simp
   rw[e1,e2,e3];have cm':Cm ⟨T.set h (r++[x]),t0,h,l',left⟩=Cm ⟨T,t0,h,l'++[x],left⟩:=by
    rw[cmE];show (T.set h (r++[x])).set h ((T.set h (r++[x])).getD h []++l'.reverse)=_;rw[gDq,Rz hlt,Uc,TC];show T.set h ((r++[x])++l'.reverse)=T.set h (r++([x]++l'.reverse));rw[Rn]
   exact⟨keepW _,LL,by rw[cm'];exact ln,by rw[cm'];simp only[lZq];exact eu⟩
  .cases left with
   |nil=>exact⟨wl,LL,ln,eu⟩
   |cons x left =>
    simp only;rw[lCq]at eu;generalize sg c x=e;split
    .obtain ⟨LL',l1,l2⟩:=ln.newp nd ca e;have ll:(T.set h (r++[e])).length=T.length:=lZq;have cm':Cm ⟨T.set h (r++[e])++[[-e]],t0++[h],T.length,loose,left⟩=T.set h (r++[e])++[-e::loose.reverse]:=by
      show (T.set h (r++[e])++[[-e]]).set T.length ((T.set h (r++[e])++[[-e]]).getD T.length []++loose.reverse)=_;have g:(T.set h (r++[e])++[[-e]]).getD T.length []=[-e]:=by
       rw[←ll];exact K11.xG
      rw[g];have:=K18.Io (T.set h (r++[e])) [[-e]] 0 ([-e]++loose.reverse);rw[ll,Vv]at this;exact this
     rw[same,←cm']at l1 l2;refine⟨?_,LL',l1,?_⟩
     .show Wl (T.set h (r++[e])++[[-e]]) T.length (t0++[h]).reverse;rw[TC];have gh:(T.set h (r++[e])++[[-e]])[h]?=some (r++[e]):=by
       rw[gZq (by lia),Rz hlt]
      have gn:(T.set h (r++[e])++[[-e]])[T.length]?=some (-e::[]):=by
       rw[←ll,Vb]
      refine⟨⟨hlt,e,r,[],gh,gn⟩,(keepW [e]).keep (fun j hj=>gZq (by lia)) fun s hs=>⟨[],?_⟩⟩
      rw[aNq,gZq (by lia)]
      exact hs
     .simp only [lAq,ll,lSq];lia
    .obtain ⟨LL',l1,l2⟩:=ln.open ca e
     have cm':Cm ⟨T.set h (r++[e]),t0,h,loose++[-e],left⟩=T.set h (r++[e]++(-e::loose.reverse)):=by
      show (T.set h (r++[e])).set h ((T.set h (r++[e])).getD h []++(loose++[-e]).reverse)=_;rw[gDq,Rz hlt,Uc,TC];rfl
     rw[same,←cm']at l1 l2;exact⟨keepW _,LL',l1,by simp only[lZq];lia⟩
theorem Rc(nm:List Int):Pl nm (w0 nm):=⟨trivial,[],⟨fun x y=>rfl,fun c hc=>(by cases hc)⟩,by show 0+1+1+nm.length=nm.length+2;lia⟩
theorem yo{nm:List Int}(hn:(nT nm).Nodup):∀(cs:List Int) {w:Wd}{n:Nat},WOk nm w n->Pl nm w->Pl nm (cs.foldl (wstep false) w)
 | [],w,n,_,h=>h
 |c::cs,w,n,ok,h=>yo hn cs (ok.step (wild:=false) c) (h.step ok hn c)
theorem Gm{nm cs:List Int}{wild:Bool}(hc:cs.length<=63) (hn:nm.length<=100) (hb:(nT nm).Nodup):∃(T:List (List Int)) (left:List Int),K31.ez [dI cs,dI nm,.bl wild]=some (.ow (T.map aI))/\(∀a,T.flatten.count a+(nT left).count a=(nT nm).count a)/\K11.qV T/\0<T.length/\T.length<=64/\(wild=false->∃LL,Ln T LL/\nL T LL+T.length+left.length=nm.length+2):=by
 obtain⟨v7,v8,v9,v10,e⟩:=K31.zY (nm:=nm) (wild:=wild) (v7:=none) (v8:=none) (v9:=none) (v10:=none) hc (by lia)
 have ok:=K31.sF (nm:=nm) (wild:=wild) cs (K31.Fk nm);have pl:wild=false->Pl nm (cs.foldl (wstep wild) (w0 nm)):=fun h=>by
  subst h;exact yo hb cs (K31.Fk nm) (Rc nm)
 rw[SB]at ok;generalize cs.foldl (wstep wild) (w0 nm)=w at e ok pl;have hlen:=ok.len;obtain⟨T,t0,hd,loose,left⟩:=w;obtain⟨hh,ht,lw,lT,lf,cnt,tr⟩:=ok;simp only at hh ht lw lT lf cnt tr hlen;have hr:T[hd]?=some (T.getD hd []):=K18.zS hh;have cmE:Cm ⟨T,t0,hd,loose,left⟩=T.set hd (T.getD hd []++loose.reverse):=rfl;have hrl:=K12.Bh hr;generalize T.getD hd []=r at hr hrl cmE;have e2:=K31.Dn (t0:=t0) (loose:=loose) (left:=left) (wild:=wild) (v0:=some (.sh (dI cs))) (v1:=some (.sh (dI nm))) (v7:=v7) (v8:=v8) (v9:=v9) (v10:=v10) hr (by lia)
 have e':dE 7 K31.dr (cs.map D.int) [some (.sh (dI cs)),some (.sh (dI nm)),some (.sh (.bl wild)),some (.ow [.ow []]),some (.ow [.sh (.int 0)]),some (.ow []),some (aI nm),none,none,none,none]=some (.nx (K31.st (some (.sh (dI cs))) (some (.sh (dI nm))) wild ⟨T,t0,hd,loose,left⟩ v7 v8 v9 v10)):=e;refine⟨T.set hd (r++loose.reverse),left,?_,fun a=>?_,tr.set hr,by rw[lZq];lia,by rw[lZq];lia,fun hw=>?_⟩
 .have e3:((nm.map D.int).map AV.sh)=nm.map fun n=>AV.sh (.int n):=by rw[mPq];rfl
  simp_arith [K31.ez,K31.ud,dI,e3]
  simp -implicitDefEqProofs only [Z.Hi,Th,Ti,SX,SY,Sw,↓reduceIte,reduceCtorEq,dI]at e';rw[e']
  simp_arith [e2]
  simp_arith [K31.st]
 .rw [K12.kE a hr,V2,cnt a]
 .obtain ⟨_,LL,l1,l2⟩:=pl hw;rw[cmE]at l1 l2;exact⟨LL,l1,by rw[lZq];exact l2⟩
end K44
--ZQ3 --ZQ4 --ZQ5 --ZQ6 --ZQ8 --ZQ9 --ZQB --ZQC --ZQD --ZQE --ZQF
namespace K23
open PySem L2 Mr Z Xe Zl
abbrev cz(z:Int):D:=.ins "Cut" [("road", .int z)]
def qW(z:Int) (t:List Int):List Int:=t.filter fun e=>!decide (e∈[z, -z])
def C(z:Int) (rs:List (List Int)):List (List Int):=rs.map (qW z)
section
variable {rs:List (List Int)}{z:Int}
theorem sS:(C z rs).flatten=qW z rs.flatten:=by
 unfold C qW;rw[List.filter_flatten]
end
end K23
namespace K25
open PySem L2 Mr Z Xe Zl K15 K16
section
variable {rs:List (List Int)}
def Rt(rs:List (List Int)) (x:Int) (w:List Int):Prop:=∃u v,u++x::v∈rs/\w=v++u
theorem Rt.of{x:Int}(h:x∈rs.flatten):∃w,Rt rs x w:=by
 obtain⟨r,hr,hx⟩:=mFq.mp h;obtain⟨u,v,rfl⟩:=TQ hx;exact⟨v++u,u,v,hr,rfl⟩
theorem Rt.mem{x:Int}{w:List Int}(h:Rt rs x w):x∈rs.flatten:=by
 obtain⟨u,v,hr,_⟩:=h;exact mFq.mpr ⟨_,hr,by simp⟩
theorem Rt.row{x:Int}{w:List Int}(h:Rt rs x w):∃r∈rs,∀y,y∈r↔y∈x::w:=by
 obtain⟨u,v,hr,rfl⟩:=h;exact⟨_,hr,fun y=>(Sb (l₁:=x::v) (l₂:=u)).symm.mem_iff⟩
theorem Rt.nd(hn:rs.flatten.Nodup) {x:Int}{w:List Int}(h:Rt rs x w):(x::w).Nodup:=by
 obtain⟨u,v,hr,rfl⟩:=h;have:=RC.sublist (RE hr) hn;exact(Sb (l₁:=x::v) (l₂:=u)).nodup_iff.mpr this
theorem Rt.to(hn:rs.flatten.Nodup) {x:Int}{w:List Int}(h:Rt rs x w):nx rs x=w.headD x:=by
 obtain⟨u,v,hr,rfl⟩:=h;refine BV hn hr (j:=u.length) (by simp) ?_
 cases v with
 |nil =>
  rw[show (u++[x]).length=u.length+1 by simp,U5]
  cases u <;> rfl
 |cons y v =>
  rw[Ut (by simp)]
  simp
theorem Rt.step{x a:Int}{w:List Int}(h:Rt rs x (a::w)):Rt rs a (w++[x]):=by
 obtain⟨u,v,hr,e⟩:=h;cases v with
 |nil =>
  rw[Sz]at e;subst e;exact⟨[],w++[x],hr,by simp⟩
 |cons y v =>
  obtain⟨rfl,rfl⟩:=VG.inj e;exact⟨u++[x],v,by simpa using hr,by simp⟩
theorem Rt.go{x:Int}:∀{z:Int}{a b:List Int},Rt rs z (a++x::b)->Rt rs x (b++z::a)
 |z,[],b,h=>h.step
 |z,y::a,b,h=>by
  have:=Rt.go (z:=y) (a:=a) (b:=b++[z]) (by simpa using h.step)
  simpa using this
theorem Rt.filt{x:Int}{w:List Int}(p:Int->Bool) (hx:p x=true) (h:Rt rs x w):Rt (rs.map fun r=>r.filter p) x (w.filter p):=by
 obtain⟨u,v,hr,rfl⟩:=h;refine⟨u.filter p,v.filter p,mMq.mpr ⟨_,hr,?_⟩,by rw[V3]⟩
 rw[V3,Sy hx]
def pz(z e:Int):Bool:=!decide (e∈[z, -z])
theorem bY{z e:Int}:pz z e=true↔e≠z/\e ≠ -z:=by unfold pz;simp
theorem qL{z e:Int}(h:¬ pz z e=true):e=z∨e = -z:=by
 rw[bY]at h;lia
theorem we(z:Int):pz (-z)=pz z:=by
 funext e;rw[RZ,bY,bY];lia
def Pu(z:Int) (f:Int->Int) (x:Int):Int:=if pz z (f x)=true then f x else if pz z (f (f x))=true then f (f x) else f (f (f x))
theorem LF{x z:Int}(hn:rs.flatten.Nodup) (hn':(rs.map fun r=>r.filter (pz z)).flatten.Nodup) (hx:x∈rs.flatten) (hp:pz z x=true):nx (rs.map fun r=>r.filter (pz z)) x=Pu z (nx rs) x:=by
 obtain⟨w,h⟩:=Rt.of hx;have h':=h.filt (pz z) hp;rw[h'.to hn'];have h0:=h.to hn;have nd:=h.nd hn;unfold Pu;cases w with
 |nil =>
  have h0:nx rs x=x:=h0;rw[h0,if_pos hp];rfl
 |cons y w =>
  have h0:nx rs x=y:=h0;rw[h0]
  by_cases py:pz z y=true
  .rw [Sy py,if_pos py];rfl
  .rw [SJ py,if_neg py];have h1:=h.step;have e1:=h1.to hn;cases w with
   |nil =>
    have e1:nx rs y=x:=e1;rw[e1,if_pos hp];rfl
   |cons y2 w =>
    have e1:nx rs y=y2:=e1;rw[e1]
    by_cases py2:pz z y2=true
    .rw [Sy py2,if_pos py2];rfl
    .rw [SJ py2,if_neg py2];have h2:=h1.step;have e2:=h2.to hn;have hw:w.filter (pz z)=w:=List.filter_eq_self.mpr fun e he=>by
      rw[Rp,Rp,Rp]at nd;have a1:=qL py;have a2:=qL py2;have b1:y≠y2:=fun q=>nd.2.1 (q ▸ Rq ..)
      have b2:e≠y:=fun q=>nd.2.1 (q ▸ mCo _ he)
      have b3:e≠y2:=fun q=>nd.2.2.1 (q ▸ he)
      rw[bY];lia
     rw[hw,e2];cases w <;> rfl
def D6(z:Int) (f:Int->Int) (x:Int):Int:=if pz z (f x)=true then f x else if pz z (f (-f x))=true then f (-f x) else f (-f (-f x))
theorem BY(z:Int):D6 (-z)=D6 z:=by
 funext f x;unfold D6;rw[we]
theorem Bs(z:Int):¬ pz z z=true:=by rw[bY];lia
theorem sU(z:Int):¬ pz z (-z)=true:=by rw[bY];lia
theorem NY{D:List (List Int)}(hn:rs.flatten.Nodup) (hD:D.flatten.Nodup) {t x:Int}{a b u v:List Int}(ha:Rt rs t a) (hb:Rt rs (-t) b) (pa:∀e∈a,pz t e=true) (pb:∀e∈b,pz t e=true) (e:a=u++x::v) (h:Rt D x (v++b++u)):nx D x=D6 t (nx rs) x:=by
 subst e;have h1:=ha.go;have e1:=h1.to hn;rw[h.to hD];unfold D6;cases v with
 |cons y v =>
  have e1:nx rs x=y:=e1;rw[e1,if_pos (pa y (by simp))]
  rfl
 |nil =>
  have e1:nx rs x=t:=e1;have e2:=hb.to hn;rw[e1,if_neg (Bs t),e2];cases b with
  |cons y b=>exact(if_pos (pb y (Rq ..))).symm
  |nil =>
   have e3:=ha.to hn;show _=if pz t (-t)=true then _ else nx rs (- -t)
   rw[if_neg (sU t),Sm,e3];cases u <;> rfl
theorem M4{D:List (List Int)}(hn:rs.flatten.Nodup) (hD:D.flatten.Nodup) {t x:Int}{a b u v:List Int}(ha:Rt rs t (a ++ -t::b)) (pa:∀e∈a,pz t e=true) (e:a=u++x::v) (h:Rt D x (v++u)):nx D x=D6 t (nx rs) x:=by
 subst e;have h1:Rt rs x ((v ++ -t::b)++t::u):=Rt.go (by simpa using ha)
 have e1:=h1.to hn;rw[h.to hD];unfold D6;cases v with
 |cons y v =>
  have e1:nx rs x=y:=e1;rw[e1,if_pos (pa y (by simp))]
  rfl
 |nil =>
  have e1:nx rs x = -t:=e1;have e2:=ha.to hn;rw[e1,if_neg (sU t),Sm,e2];have:((u++[x] ++ -t::b).headD t)=u.headD x:=by cases u <;> rfl
  rw[this];refine(if_pos (pa _ ?_)).symm;cases u <;> simp
theorem ED{r:List Int}{a:Int}(ha:a∈r):∀rs:List (List Int),rs.count r<=rs.flatten.count a
 | []=>Rk _
 |s::rs=>by
  have ih:=ED ha rs;rw[Sj,fCq,cAq]
  by_cases h:s=r
  .subst h;have:=RX.mpr ha;simp;lia
  .simp [h];lia
theorem BN{r r':List Int}(hne:r≠r') {a:Int}(ha:a∈r) (ha':a∈r'):∀rs:List (List Int),rs.count r+rs.count r'<=rs.flatten.count a
 | []=>Rk _
 |s::rs=>by
  have ih:=BN hne ha ha' rs;rw[Sj,Sj,fCq,cAq]
  by_cases h:s=r
  .subst h;have:=RX.mpr ha;simp[hne];lia
  .by_cases h':s=r'
   .subst h';have:=RX.mpr ha';simp[h];lia
   .simp [h,h'];lia
theorem IV{z:Int}(hz:z ≠ -z) {r:List Int}(hn:r.Nodup):(if r.filter (pz z)=[] then 1 else 0)=(if r=[] then 1 else 0)+(if r=[z] then 1 else 0)+(if r=[-z] then 1 else 0)+(if r=[z, -z] then 1 else 0)+(if r=[-z,z] then 1 else 0):=by
 have pz1:=Bs z;have pz2:=sU z
 match r,hn with
 | [],_=>simp
 | [a],_ =>
  by_cases h:pz z a=true
  .have h2:=bY.mp h;rw[Sy h];simp[h2.1,h2.2]
  .rw [SJ h];rcases qL h with rfl|rfl
   .simp [hz]
   .simp [hz.symm]
 | [a,b],hn =>
  have hab:a≠b:=by simpa using hn
  by_cases h:pz z a=true
  .have h2:=bY.mp h;rw[Sy h];simp[h2.1,h2.2]
  .rw [SJ h]
   by_cases h3:pz z b=true
   .have h4:=bY.mp h3;rw[Sy h3];simp[h4.1,h4.2]
   .rw [SJ h3];rcases qL h with rfl|rfl <;> rcases qL h3 with rfl|rfl
    .exact absurd rfl hab
    .simp [hz]
    .simp [hz.symm]
    .exact absurd rfl hab
 |a::b::c::r,hn =>
  have:(a::b::c::r).filter (pz z)≠[]:=fun q=>by
   rw[List.filter_eq_nil_iff]at q;have h1:=qL (q a (by simp))
   have h2:=qL (q b (by simp))
   have h3:=qL (q c (by simp))
   simp only[Rp,Rl,not_or]at hn;lia
  rw[if_neg this];simp
theorem xY{z:Int}(hz:z ≠ -z):∀{rs:List (List Int)},(∀r∈rs,r.Nodup)->bare (rs.map fun r=>r.filter (pz z))=bare rs+rs.count [z]+rs.count [-z]+(rs.count [z, -z]+rs.count [-z,z])
 | [],_=>rfl
 |r::rs,h=>by
  have ih:=xY hz (rs:=rs) fun r hr=>h r (mCo _ hr)
  have h1:=IV hz (h r (Rq ..));unfold bare at ih ⊢;rw[Ru,SZ,SZ,Sj,Sj,Sj,Sj,ih];simp only[decide_eq_true_eq,beq_iff_eq]at h1 ⊢;lia
theorem B6(hn:rs.flatten.Nodup) {z:Int}(hz:z∈rs.flatten):rs.count [z]=if nx rs z=z then 1 else 0:=by
 have hle:=ED (r:=[z]) (a:=z) (by simp) rs
 have h1:=SV.mp hn z
 by_cases h:[z]∈rs
 .have:=RX.mpr h;have h0:Rt rs z []:=⟨[],[],h,rfl⟩;have e:nx rs z=z:=h0.to hn;rw[if_pos e];lia
 .rw [Uj h];obtain⟨w,hw⟩:=Rt.of hz;have e:=hw.to hn;have nd:=hw.nd hn;cases w with
  |nil =>
   obtain⟨u,v,hr,q⟩:=hw;obtain⟨rfl,rfl⟩:=TM.mp q.symm;exact absurd hr h
  |cons y w =>
   have e:nx rs z=y:=e;rw[if_neg];rw[e];rintro rfl;exact(Rp.mp nd).1 (Rq ..)
theorem IW(hn:rs.flatten.Nodup) {z y:Int}(hne:z≠y) (hz:z∈rs.flatten):rs.count [z,y]+rs.count [y,z]=if nx rs z=y/\nx rs y=z then 1 else 0:=by
 have hle:=BN (r:=[z,y]) (r':=[y,z]) (a:=z) (by simp[hne]) (by simp) (by simp) rs
 have h1:=SV.mp hn z
 by_cases h:[z,y]∈rs∨[y,z]∈rs
 .have hp:0<rs.count [z,y]+rs.count [y,z]:=by
   rcases h with h|h
   .have:=RX.mpr h;lia
   .have:=RX.mpr h;lia
  have h0:Rt rs z [y]:=by
   rcases h with h|h
   .exact ⟨[],[y],h,rfl⟩
   .exact ⟨[y],[],h,rfl⟩
  have e:nx rs z=y:=h0.to hn;have e2:nx rs y=z:=h0.step.to hn;rw[if_pos ⟨e,e2⟩];lia
 .have h':[z,y]∉rs/\[y,z]∉rs:=⟨fun q=>h (.inl q),fun q=>h (.inr q)⟩
  rw[Uj h'.1,Uj h'.2];obtain⟨w,hw⟩:=Rt.of hz;have nd:=hw.nd hn;rw[if_neg];rintro⟨q1,q2⟩;have e:=hw.to hn;rw[q1]at e;cases w with
  |nil=>exact hne e.symm
  |cons y' w =>
   have e:y=y':=e;subst e;have e2:=hw.step.to hn;rw[q2]at e2;cases w with
   |cons x w =>
    have e2:z=x:=e2;subst e2;exact(Rp.mp nd).1 (by simp)
   |nil =>
    obtain⟨u,v,hr,q⟩:=hw;cases v with
    |nil=>rw[Sz]at q;subst q;exact h'.2 hr
    |cons x v =>
     have q2:=VG.inj q;obtain⟨rfl,rfl⟩:=TM.mp q2.2.symm;rw[←q2.1]at hr;exact h'.1 hr
def rest(z:Int) (rs:List (List Int)):List (List Int):=rs.filter fun r=>!decide (z∈r) && !decide (-z∈r)
theorem lX{z:Int}{r:List Int}:r∈rest z rs↔r∈rs/\z∉r/\-z∉r:=by
 unfold rest;rw[RP];simp
theorem vE(z:Int):bare (rest z rs)=bare rs:=by
 unfold bare rest;rw[List.countP_filter];refine Wa fun r _=>?_
 constructor
 .intro h;exact(TJ _ _ ▸ h).1
 .intro h;have:=of_decide_eq_true h;subst this;simp
structure OS (rs:List (List Int)) (z:Int) (D:List (List Int)):Prop where
 nd:D.flatten.Nodup
 mem:∀x,x∈D.flatten↔x∈rs.flatten/\pz z x=true
 on:∀x∈D.flatten,nx D x=D6 z (nx rs) x
 br:bare D=bare rs+((if nx rs (-z)=z then 1 else 0)+(if nx rs z = -z then 1 else 0)+(if nx rs (-z) = -z/\nx rs z=z then 1 else 0))
 len:D.length<=rs.length+2
theorem fE(hn:rs.flatten.Nodup) {r s:List Int}{x:Int}(hr:r∈rs) (hs:s∈rs) (h1:x∈r) (h2:x∈s):r=s:=by
 obtain⟨i,hi⟩:=Rv.mp hr;obtain⟨j,hj⟩:=Rv.mp hs;have:=same_place hn hi hj h1 h2;subst this;exact RD.inj (hi.symm.trans hj)
theorem yF(z:Int):(rest z rs).length<=rs.length:=S7 _ _
theorem Cd(hn:rs.flatten.Nodup) {z x:Int}{K:List (List Int)}(hx:x∈(rest z rs).flatten) (hD:(rest z rs++K).flatten.Nodup):nx (rest z rs++K) x=D6 z (nx rs) x:=by
 obtain⟨w,u,v,hr,e⟩:=Rt.of hx;have h1:=lX.mp hr;have r1:Rt rs x w:=⟨u,v,h1.1,e⟩;have r2:Rt (rest z rs++K) x w:=⟨u,v,mAq.mpr (.inl hr),e⟩;rw[r2.to hD];have e1:=r1.to hn;unfold D6;rw[e1];refine(if_pos ?_).symm;have hin:w.headD x∈u++x::v:=by
  refine(Sb (l₁:=x::v) (l₂:=u)).mem_iff.mp ?_;rw[TK,←e];cases w <;> simp
 rw[bY];exact⟨fun q=>h1.2.1 (q ▸ hin),fun q=>h1.2.2 (q ▸ hin)⟩
theorem vf(p:List Int->Bool):∀rs:List (List Int),(rs.filter p).flatten.Sublist rs.flatten
 | []=>S5.refl _
 |r::rs=>by
  have ih:=vf p rs;cases h:p r with
  |true=>rw[Sy h,fCq,fCq];exact S5.append_left ih _
  |false=>rw[SJ (by simp[h]),fCq];exact ih.trans (Vm ..)
theorem BH(hn:rs.flatten.Nodup) {z:Int}{K:List (List Int)}(k1:K.flatten.Nodup) (k2:∀x,x∈K.flatten↔pz z x=true/\∃r∈rs,x∈r/\(z∈r∨-z∈r)):(rest z rs++K).flatten.Nodup/\∀x,x∈(rest z rs++K).flatten↔x∈rs.flatten/\pz z x=true:=by
 rw[fAq];refine⟨?_,fun x=>?_⟩
 .rw [nAq];refine⟨RC.sublist (vf _ rs) hn,k1,fun x hx y hy e=>?_⟩
  subst e;obtain⟨r,hr,hxr⟩:=mFq.mp hx;obtain⟨_,s,hs,hxs,q⟩:=(k2 x).mp hy;have h1:=lX.mp hr;have:=fE hn h1.1 hs hxr hxs;subst this;rcases q with q|q
  .exact h1.2.1 q
  .exact h1.2.2 q
 .rw [mAq,k2];constructor
  .rintro (h|⟨h1,r,hr,hx,_⟩)
   .obtain ⟨r,hr,hxr⟩:=mFq.mp h;have h1:=lX.mp hr;refine⟨mFq.mpr ⟨r,h1.1,hxr⟩,bY.mpr ⟨fun q=>h1.2.1 (q ▸ hxr),fun q=>h1.2.2 (q ▸ hxr)⟩⟩
   .exact ⟨mFq.mpr ⟨r,hr,hx⟩,h1⟩
  .rintro ⟨h1,h2⟩;obtain⟨r,hr,hxr⟩:=mFq.mp h1
   by_cases c:z∈r∨-z∈r
   .exact .inr ⟨h2,r,hr,hxr,c⟩
   .exact .inl (mFq.mpr ⟨r,lX.mpr ⟨hr,fun q=>c (.inl q),fun q=>c (.inr q)⟩,hxr⟩)
theorem su(a b:List (List Int)):bare (a++b)=bare a+bare b:=List.countP_append
theorem sQ(a:List Int):bare [a]=if a=[] then 1 else 0:=by
 unfold bare;rw[SZ,List.countP_nil];simp
theorem EE(a b:List Int):bare [a,b]=(if a=[] then 1 else 0)+(if b=[] then 1 else 0):=by
 rw[show [a,b]=[a]++[b] from rfl,su,sQ,sQ]
theorem BM(hn:rs.flatten.Nodup) {z:Int}(hz:z ≠ -z) {a b:List Int}(h:Rt rs z (a ++ -z::b)):OS rs z (rest z rs++[a,b]):=by
 have h':Rt rs (-z) (b ++ - -z::a):=by rw[Sm];exact h.go
 have nd:=h.nd hn;obtain⟨r,hr,er⟩:=h.row;have nda:∀e∈a,pz z e=true:=fun e he=>by
  rw[Rp,nAq]at nd;exact bY.mpr ⟨fun q=>nd.1 (mAq.mpr (.inl (q ▸ he))),fun q=>nd.2.2.2 _ he _ (Rq ..) q⟩
 have ndb:∀e∈b,pz z e=true:=fun e he=>by
  rw[Rp,nAq,Rp]at nd;exact bY.mpr ⟨fun q=>nd.1 (mAq.mpr (.inr (mCo _ (q ▸ he)))),fun q=>nd.2.2.1.1 (q ▸ he)⟩
 have k1:[a,b].flatten.Nodup:=by
  rw[show [a,b].flatten=a++b by simp]
  exact RC.sublist (S5.append_left (List.sublist_cons_self ..) _) (Rp.mp nd).2
 have zr:z∈r:=(er z).mpr (by simp)
 have zr':-z∈r:=(er (-z)).mpr (by simp)
 obtain⟨d1,d2⟩:=BH hn (z:=z) k1 fun x=>by
  rw[show [a,b].flatten=a++b by simp,mAq]
  constructor
  .intro q;have hx:pz z x=true:=by
    rcases q with q|q
    .exact nda x q
    .exact ndb x q
   refine⟨hx,r,hr,(er x).mpr ?_,.inl zr⟩;rcases q with q|q <;> simp[q]
  .rintro ⟨hx,s,hs,hxs,q⟩;have:s=r:=by
    rcases q with q|q
    .exact fE hn hs hr q zr
    .exact fE hn hs hr q zr'
   subst this;have:=(er x).mp hxs;have hx:=bY.mp hx;simp[hx.1,hx.2]at this;exact this
 refine⟨d1,d2,fun x hx=>?_,?_,by rw[lAq];have:=yF (rs:=rs) z;show _+2<=_;lia⟩
 .rw [fAq]at hx;rcases mAq.mp hx with q|q
  .exact Cd hn q d1
  .rw [show [a,b].flatten=a++b by simp]at q
   rcases mAq.mp q with q|q
   .obtain ⟨u,v,e⟩:=TQ q;exact M4 hn d1 h nda e ⟨u,v,by rw[←e];simp,rfl⟩
   .obtain ⟨u,v,e⟩:=TQ q;rw[←BY];exact M4 hn d1 h' (by rw[we];exact ndb) e ⟨u,v,by rw[←e];simp,rfl⟩
 .rw [su,vE,EE];have e1:=h.to hn;have e2:=h'.to hn;rw[Sm]at e2;have q1:(nx rs z = -z)↔a=[]:=by
   rw[e1];cases a with
   |nil=>simp
   |cons y a =>
    have:=bY.mp (nda y (by simp))
    simp[this.2]
  have q2:(nx rs (-z)=z)↔b=[]:=by
   rw[e2];cases b with
   |nil=>simp
   |cons y b =>
    have:=bY.mp (ndb y (by simp))
    simp[this.1]
  have q3:¬ (nx rs (-z) = -z/\nx rs z=z):=by
   rintro⟨q,_⟩;rw[e2]at q;cases b with
   |nil=>exact hz q
   |cons y b =>
    have:=bY.mp (ndb y (by simp))
    exact this.2 q
  simp only[q1,q2,if_neg q3];lia
theorem BQ(hn:rs.flatten.Nodup) {z:Int}(hz:z ≠ -z) {a b:List Int}(h:Rt rs z a) (h':Rt rs (-z) b) (hna:-z∉a):OS rs z (rest z rs++[a++b]):=by
 have nd:=h.nd hn;have nd':=h'.nd hn;obtain⟨r,hr,er⟩:=h.row;obtain⟨s,hs,es⟩:=h'.row;have zr:z∈r:=(er z).mpr (by simp)
 have zs':-z∈s:=(es (-z)).mpr (by simp)
 have hrs:r≠s:=fun q=>by
  subst q;have:=(er (-z)).mp zs';rcases Rl.mp this with q|q
  .exact hz q.symm
  .exact hna q
 have zb:z∉b:=fun q=>hrs (fE hn hr hs zr ((es z).mpr (mCo _ q)))
 have nda:∀e∈a,pz z e=true:=fun e he=>bY.mpr ⟨fun q=>(Rp.mp nd).1 (q ▸ he),fun q=>hna (q ▸ he)⟩
 have ndb:∀e∈b,pz z e=true:=fun e he=>bY.mpr ⟨fun q=>zb (q ▸ he),fun q=>(Rp.mp nd').1 (q ▸ he)⟩
 have k1:[a++b].flatten.Nodup:=by
  rw[show [a++b].flatten=a++b by simp,nAq]
  refine⟨(Rp.mp nd).2,(Rp.mp nd').2,fun x hx y hy e=>?_⟩
  subst e;exact hrs (fE hn hr hs ((er x).mpr (mCo _ hx)) ((es x).mpr (mCo _ hy)))
 obtain⟨d1,d2⟩:=BH hn (z:=z) k1 fun x=>by
  rw[show [a++b].flatten=a++b by simp,mAq]
  constructor
  .rintro (q|q)
   .exact ⟨nda x q,r,hr,(er x).mpr (mCo _ q),.inl zr⟩
   .exact ⟨ndb x q,s,hs,(es x).mpr (mCo _ q),.inr zs'⟩
  .rintro ⟨hx,t,ht,hxt,q⟩;have hx:=bY.mp hx;rcases q with q|q
   .have:=fE hn ht hr q zr;subst this;have:=(er x).mp hxt;simp[hx.1]at this;exact .inl this
   .have:=fE hn ht hs q zs';subst this;have:=(es x).mp hxt;simp[hx.2]at this;exact .inr this
 refine⟨d1,d2,fun x hx=>?_,?_,by rw[lAq];have:=yF (rs:=rs) z;show _+1<=_;lia⟩
 .rw [fAq]at hx;rcases mAq.mp hx with q|q
  .exact Cd hn q d1
  .rw [show [a++b].flatten=a++b by simp]at q
   rcases mAq.mp q with q|q
   .obtain ⟨u,v,e⟩:=TQ q;exact NY hn d1 h h' nda ndb e ⟨u,v++b,by rw[e];simp,rfl⟩
   .obtain ⟨u,v,e⟩:=TQ q;rw[←BY];exact NY hn d1 h' (by rw[Sm];exact h) (by rw[we];exact ndb) (by rw[we];exact nda) e ⟨a++u,v,by rw[e];simp,by simp⟩
 .rw [su,vE,sQ];have e1:=h.to hn;have e2:=h'.to hn;have q1:¬ (nx rs z = -z):=by
   rw[e1];cases a with
   |nil=>exact hz
   |cons y a=>exact(bY.mp (nda y (by simp))).2
  have q2:¬ (nx rs (-z)=z):=by
   rw[e2];cases b with
   |nil=>exact hz.symm
   |cons y b=>exact(bY.mp (ndb y (by simp))).1
  have q3:(nx rs (-z) = -z/\nx rs z=z)↔a++b=[]:=by
   rw[e1,e2];cases a with
   |cons y a =>
    have:=(bY.mp (nda y (by simp))).1
    simp[this]
   |nil =>
    cases b with
    |cons y b =>
     have:=(bY.mp (ndb y (by simp))).2
     simp[this]
    |nil=>simp
  simp only[if_neg q1,if_neg q2,q3];lia
end
section
variable {rs:List (List Int)}
theorem jy(rs:List (List Int)):bare rs=rs.count []:=by
 unfold bare;rw[List.count];congr 1;funext r;cases r <;> rfl
theorem xj{r:List Int}:good r=[]↔r=[]:=by
 rw[←R9,lW,R9]
theorem uW:∀rs:List (List Int),bare (rs.map good)=bare rs
 | []=>rfl
 |r::rs=>by
  have ih:=uW rs;unfold bare at ih ⊢;rw[Ru,SZ,SZ,ih];simp only[xj]
theorem yy(rs:List (List Int)):bare (dw (rs.map good))=bare rs:=by
 rw[jy,(aV _).count_eq,←jy,uW]
theorem EA(rs:List (List Int)):(hU rs).flatten=[]:=by
 unfold hU;refine UC.mpr fun l hl=>?_
 obtain⟨x,_,rfl⟩:=mMq.mp hl;rfl
theorem rA(hm:Mp rs):∃M:List (List Int),cP [dM rs]=some (.ow (M.map aI))/\M.flatten.Perm rs.flatten/\bare M=bare rs/\M.length<=rs.length+rs.flatten.length/\∀x∈M.flatten,nx M x=fw rs x:=by
 obtain⟨L,o1,e1⟩:=lands_ok hm;have pL:L.flatten.Perm rs.flatten:=(Si o1.dj hm.hn).mpr o1.all;have hL1:∀l∈L,1<=l.length:=fun l hl=>by obtain⟨e,c⟩:=o1.cy l hl;exact c.len
 have hLl:=tW hL1;rw[pL.length_eq]at hLl;have hf0:(hU rs++L).flatten=L.flatten:=by rw[fAq,EA,Sz]
 have pM:(dw ((hU rs++L).map good)).flatten.Perm rs.flatten:=by
  refine(dq (aV _)).trans ((bI aY _).trans ?_);rw[hf0];exact pL
 have hcnt:(dw ((hU rs++L).map good)).count []=rs.count []:=by
  rw[(aV _).count_eq,mBq,cAq,ui hL1,iR,V1,show good []=[] from rfl,Vk]
  rfl
 have hMl:(dw ((hU rs++L).map good)).length<=rs.length+rs.flatten.length:=by
  have:=Av rs;rw[dm,lMq,lAq];lia
 have hrow:∀l∈dw ((hU rs++L).map good),l=[]∨∃e,Cy (fw rs) e l:=fun l hl=>by
  obtain⟨m,hm',rfl⟩:=mMq.mp ((aV _).mem_iff.mp hl);rcases mAq.mp hm' with q|q
  .left;unfold hU at q;obtain⟨x,_,rfl⟩:=mMq.mp q;rfl
  .right;obtain⟨e,c⟩:=o1.cy m q;exact vZ c
 refine⟨_,e1,pM,by rw[jy,jy,hcnt],hMl,fun x hx=>Ha (pM.nodup_iff.mpr hm.hn) hrow hx⟩
theorem Kr{T:List (List Int)}(hn:T.flatten.Nodup) {x:Int}(hx:x∈T.flatten):nx (dw (T.map good)) x=nx T x:=by
 have pN:(dw (T.map good)).flatten.Perm T.flatten:=(dq (aV _)).trans (bI aY _);refine Ha (pN.nodup_iff.mpr hn) (fun l hl=>?_) (pN.mem_iff.mpr hx)
 obtain⟨m,hm',rfl⟩:=mMq.mp ((aV _).mem_iff.mp hl);cases m with
 |nil=>exact .inl rfl
 |cons y m=>exact .inr (vZ (zU hn hm' rfl))
theorem FN{T D:List (List Int)}(hm:Mp T) (hD:D.flatten.Nodup) (hE:∀x,x∈T.flatten↔x∈D.flatten) (hf:∀x∈T.flatten,fw T x=nx D x) (hb:bare T=bare D):cP [dM T]=some (.ow ((dw (D.map good)).map aI)):=by
 obtain⟨L,o,e⟩:=lands_ok hm;have o':=ve (jl hm) hf hE o;have hp:=o'.perm (Al hD) (yv hD);rw[e];have hq:((hU T++L).map good).Perm (D.map good):=by
  rw[mBq,iR T,←jy,hb,jy,←iR D];refine(SU.append_left _ hp).trans ?_;rw[←mBq];exact(rQ D).map good
 rw[uY hq]
theorem NR(z:Int) (M:List (List Int)):K23.C z M=M.map fun r=>r.filter (pz z):=rfl
theorem drawn(hm:Mp rs) (hlen:rs.length+rs.flatten.length<=900) {z:Int}(hz:z∈rs.flatten) (hne:z ≠ -z):∃M:List (List Int),cP [dM rs]=some (.ow (M.map aI))/\M.flatten.Perm rs.flatten/\M.length<=900/\∀D,OS rs z D->bare (K23.C z M)=bare D/\cP [dM (dw ((K23.C z M).map good))]=some (.ow ((dw (D.map good)).map aI)):=by
 obtain⟨M,e1,pM,bM,lM,hx⟩:=rA hm;have nM:M.flatten.Nodup:=pM.nodup_iff.mpr hm.hn;have hz':=hm.hneg z hz;refine⟨M,e1,pM,by lia,fun D hD=>?_⟩
 have x1:nx M z=nx rs (-z):=hx z (pM.mem_iff.mpr hz);have x2:nx M (-z)=nx rs z:=by rw[hx (-z) (pM.mem_iff.mpr hz')];unfold fw;rw[Sm]
 have b1:=xY hne (rs:=M) fun r hr=>RC.sublist (RE hr) nM
 rw[B6 nM (pM.mem_iff.mpr hz),B6 nM (pM.mem_iff.mpr hz'),IW nM hne (pM.mem_iff.mpr hz),x1,x2,bM]at b1;have hb:bare (K23.C z M)=bare D:=by
  rw[NR,b1,hD.br];lia
 refine⟨hb,?_⟩;have cf:(K23.C z M).flatten=M.flatten.filter (pz z):=K23.sS;have nC:(K23.C z M).flatten.Nodup:=by rw[cf];exact RC.sublist Sr nM
 have pN:(dw ((K23.C z M).map good)).flatten.Perm (K23.C z M).flatten:=(dq (aV _)).trans (bI aY _);have hmem:∀x,x∈(dw ((K23.C z M).map good)).flatten↔x∈rs.flatten/\pz z x=true:=fun x=>by rw[pN.mem_iff,cf,RP,pM.mem_iff]
 have hlC:(K23.C z M).length=M.length:=by unfold K23.C;rw[lMq]
 have neg:∀x,pz z x=true->pz z (-x)=true:=fun x h=>by rw[bY]at h ⊢;lia
 have mpN:Mp (dw ((K23.C z M).map good)):=⟨pN.nodup_iff.mpr nC,by
   rw[pN.length_eq,cf];have:=S7 (pz z) M.flatten;rw[pM.length_eq]at this;lia,by rw[dm,lMq,hlC];lia,fun e he=>by
   have:=(hmem e).mp he;exact(hmem (-e)).mpr ⟨hm.hneg e this.1,neg e this.2⟩⟩
 refine FN mpN hD.nd (fun x=>by rw[hmem,hD.mem]) (fun x hxN=>?_) (by rw[yy,hb])
 have h1:=(hmem x).mp hxN;have hn1:-x∈rs.flatten:=hm.hneg x h1.1;have hn2:-x∈(K23.C z M).flatten:=by rw[cf,RP,pM.mem_iff];exact⟨hn1,neg x h1.2⟩
 rw[hD.on x ((hD.mem x).mpr h1)];show nx (dw ((K23.C z M).map good)) (-x)=_;rw[Kr nC hn2,NR,LF nM nC (pM.mem_iff.mpr hn1) (neg x h1.2)];have f1:∀t∈rs.flatten,nx M t=nx rs (-t):=fun t ht=>hx t (pM.mem_iff.mpr ht)
 have g1:nx M (-x)=nx rs x:=by rw[f1 _ hn1,Sm]
 have m1:=rZ hm.hn h1.1;have m2:=rZ hm.hn (hm.hneg _ m1);unfold Pu D6;rw[g1,f1 _ m1,f1 _ m2]
end
end K25
namespace K43
open PySem L2 Mr Z Xe Zl
open K51 (eJ Ps Pc)
section
variable {rs A B:List (List Int)}
theorem vc(h:Mp rs):K51.Mp rs:=⟨h.hn,h.hl,h.hr,h.hneg⟩
theorem FH(e:Int):K51.plc rs e=plc rs e:=rfl
structure Ni (rs:List (List Int)) (l:List Nat):Prop where
 lt:∀k∈l,k<rs.length
 pw:l.Pairwise fun a b=>¬ eJ rs a b
theorem Ni.nd{l:List Nat}(h:Ni rs l):l.Nodup:=by
 rw[Rw];exact h.pw.imp (fun {a b} n (e:a=b)=>n (e ▸ (.base:eJ rs a a)))
theorem FR{PS:List (List Nat)}{k:Nat}(h:∃ps∈PS,k∈ps):∃ps,PS[PS.findIdx fun p=>decide (k∈p)]?=some ps/\k∈ps:=by
 obtain⟨ps,h1,h2⟩:=h;have hl:PS.findIdx (fun p=>decide (k∈p))<PS.length:=T5 ⟨ps,h1,decide_eq_true h2⟩
 have h3:=UX (xs:=PS) (p:=fun p=>decide (k∈p)) (w:=hl)
 exact⟨_,gEg hl,of_decide_eq_true h3⟩
theorem nu(hm:Mp rs) {kn:List Nat}{PS:List (List Nat)}(hp:Ps rs rs.length kn PS) {l:List Nat}(h:Ni rs l):l.length<=PS.length:=by
 have hf:∀k∈l,∃ps,PS[PS.findIdx fun p=>decide (k∈p)]?=some ps/\k∈ps:=fun k hk=>FR (hp.mem k (hp.all k (h.lt k hk)))
 have:=K51.Mn PS.length (l.map fun k=>PS.findIdx fun p=>decide (k∈p)) (by
  rw[Rw,RW];refine RC.imp_of_mem (fun {a b} ha hb n e=>n ?_) h.pw
  obtain⟨p,p1,p2⟩:=hf a ha;obtain⟨q,q1,q2⟩:=hf b hb;rw[e,q1]at p1;have epq:=RD.inj p1;subst epq;obtain⟨s,_,pc⟩:=hp.pc q (mGq q1);exact(K51.eJ.symm (vc hm) ((pc.iff a).mp p2)).trans ((pc.iff b).mp q2)) (fun x hx=>by
  obtain⟨k,hk,rfl⟩:=mMq.mp hx;obtain⟨p,p1,_⟩:=hf k hk;exact(gSq.mp p1).1)
 rwa [lMq]at this
theorem KZ{ps:List Nat}(h:ps≠[]):ps.headD 0∈ps:=by
 cases ps with
 |nil=>exact absurd rfl h
 |cons a ps=>exact Rq ..
theorem tu(hm:Mp rs) {kn:List Nat}{PS:List (List Nat)}(hp:Ps rs rs.length kn PS):∃l,Ni rs l/\l.length=PS.length/\∀k,k<rs.length->∃r∈l,eJ rs k r:=by
 have hne:∀ps∈PS,ps.headD 0∈ps:=fun ps h=>KZ fun e=>by
  obtain⟨s,_,pc⟩:=hp.pc ps h;have:=(pc.iff s).mpr .base;rw[e]at this;cases this
 have cls:∀ps∈PS,∀a∈ps,∀b,eJ rs a b->b∈ps:=fun ps h a ha b hab=>by
  obtain⟨s,_,pc⟩:=hp.pc ps h;exact(pc.iff b).mpr (((pc.iff a).mp ha).trans hab)
 refine⟨PS.map fun ps=>ps.headD 0,⟨fun k hk=>?_,?_⟩,lMq _,fun k hk=>?_⟩
 .obtain ⟨ps,h,rfl⟩:=mMq.mp hk;exact hp.lt _ (hp.sub ps h _ (hne ps h))
 .rw [RW];refine RC.imp_of_mem (fun {a b} ha hb d r=>?_) hp.dj
  exact d _ (cls a ha _ (hne a ha) _ r) (hne b hb)
 .obtain ⟨ps,h1,h2⟩:=hp.mem k (hp.all k hk);refine⟨_,mMq.mpr ⟨ps,h1,rfl⟩,?_⟩;obtain⟨s,_,pc⟩:=hp.pc ps h1;exact(K51.eJ.symm (vc hm) ((pc.iff k).mp h2)).trans ((pc.iff _).mp (hne ps h1))
theorem Et{R:Nat->Nat->Prop}(sy:∀{a b:Nat},R a b->R b a):∀{l:List Nat},l.Pairwise R->∀{a b:Nat},a∈l->b∈l->a≠b->R a b
 | [],_,a,b,ha,_,_=>by cases ha
 |x::l,h,a,b,ha,hb,n=>by
  obtain⟨h1,h2⟩:=To.mp h;rcases Rl.mp ha with e1|ha1
  .rcases Rl.mp hb with e2|hb1
   .exact absurd (e1.trans e2.symm) n
   .rw [e1];exact h1 b hb1
  .rcases Rl.mp hb with e2|hb1
   .rw [e2];exact sy (h1 a ha1)
   .exact Et sy h2 ha1 hb1 n
section
variable {M:List (List Int)}{z:Int}
theorem wC{k:Nat}{r:List Int}(h:M[k]?=some r):(K23.C z M)[k]?=some (K23.qW z r):=by
 unfold K23.C;rw[gMq,h];rfl
theorem gK{r:List Int}{e:Int}:e∈K23.qW z r↔e∈r/\e≠z/\e ≠ -z:=by
 unfold K23.qW;rw[RP];simp
theorem sO{e:Int}:e∈(K23.C z M).flatten↔e∈M.flatten/\e≠z/\e ≠ -z:=by
 rw[K23.sS];exact gK
theorem nt(hm:Mp M):Mp (K23.C z M):=by
 have hs:(K23.C z M).flatten.length<=M.flatten.length:=by rw[K23.sS];exact S7 _ _
 refine⟨by rw[K23.sS];exact RC.sublist Sr hm.hn,by have:=hm.hl;lia,by unfold K23.C;rw[lMq];exact hm.hr,fun e he=>?_⟩
 have h:=sO.mp he;exact sO.mpr ⟨hm.hneg e h.1,by lia,by lia⟩
theorem BC(hm:Mp M) {e:Int}(h:e∈(K23.C z M).flatten):plc (K23.C z M) e=plc M e:=by
 obtain⟨r,h1,h2⟩:=hm.at (sO.mp h).1;exact plc_eq (nt hm).hn (wC h1) (gK.mpr ⟨h2,(sO.mp h).2⟩)
theorem qt:(K23.C z M).length=M.length:=by unfold K23.C;rw[lMq]
theorem Bn(hm:Mp M) {i j:Nat}(h:eJ (K23.C z M) i j):eJ M i j:=by
 induction h with
 |base=>exact .base
 | @step k r e _ h1 h2 ih =>
  have hk:k<M.length:=by rw[←qt (z:=z)];exact(gSq.mp h1).1
  have hr:M[k]?=some M[k]:=gEg hk;rw[wC hr]at h1;cases h1;have he:e∈(K23.C z M).flatten:=mFq.mpr ⟨_,mGq (wC hr),h2⟩;have hn:=(nt hm).hneg e he;have:K51.plc (K23.C z M) (-e)=K51.plc M (-e):=BC hm hn;rw[this];exact .step ih hr (gK.mp h2).1
theorem MJ(hm:Mp M) (hz:z∈M.flatten) {i j:Nat}(h:eJ M i j):eJ (K23.C z M) i j∨(eJ (K23.C z M) i (plc M z)/\eJ (K23.C z M) (plc M (-z)) j)∨(eJ (K23.C z M) i (plc M (-z))/\eJ (K23.C z M) (plc M z) j):=by
 have hw:=vc (nt (z:=z) hm)
 induction h with
 |base=>exact .inl .base
 | @step k r e _ h1 h2 ih =>
  by_cases e1:e=z
  .subst e1;have hk:plc M e=k:=plc_eq hm.hn h1 h2;show _∨_∨_;rw[FH];rcases ih with q|⟨q1,q2⟩|⟨q1,q2⟩
   .exact .inr (.inl ⟨hk ▸ q,.base⟩)
   .rw [←hk]at q2;exact .inl (q1.trans (q2.symm hw))
   .exact .inl q1
  .by_cases e2:e = -z
   .subst e2;have hk:plc M (-z)=k:=plc_eq hm.hn h1 h2;rw[FH,Sm];rcases ih with q|⟨q1,q2⟩|⟨q1,q2⟩
    .exact .inr (.inr ⟨hk ▸ q,.base⟩)
    .exact .inl q1
    .rw [←hk]at q2;exact .inl (q1.trans (q2.symm hw))
   .have he:e∈K23.qW z r:=gK.mpr ⟨h2,e1,e2⟩;have hf:e∈(K23.C z M).flatten:=mFq.mpr ⟨_,mGq (wC h1),he⟩;have hp:plc (K23.C z M) (-e)=plc M (-e):=BC hm ((nt hm).hneg e hf);rw[FH,←hp];rcases ih with q|⟨q1,q2⟩|⟨q1,q2⟩
    .exact .inl (.step q (wC h1) he)
    .exact .inr (.inl ⟨q1,.step q2 (wC h1) he⟩)
    .exact .inr (.inr ⟨q1,.step q2 (wC h1) he⟩)
theorem yV(hm:Mp M) (hz:z∈M.flatten) (hb:eJ (K23.C z M) (plc M z) (plc M (-z))) {kn kn':List Nat}{PS PS':List (List Nat)}(hp:Ps M M.length kn PS) (hp':Ps (K23.C z M) (K23.C z M).length kn' PS'):PS'.length=PS.length:=by
 have hw:=vc (nt (z:=z) hm);have key:∀{i j},eJ M i j->eJ (K23.C z M) i j:=fun {i j} h=>by
  rcases MJ hm hz h with q|⟨q1,q2⟩|⟨q1,q2⟩
  .exact q
  .exact (q1.trans hb).trans q2
  .exact (q1.trans (hb.symm hw)).trans q2
 obtain⟨l,i1,l1,_⟩:=tu hm hp;obtain⟨l',i2,l2,_⟩:=tu (nt hm) hp';have a:=nu (nt hm) hp' (l:=l) ⟨fun k hk=>by rw[qt];exact i1.lt k hk,i1.pw.imp fun n h=>n (Bn hm h)⟩
 have b:=nu hm hp (l:=l') ⟨fun k hk=>by rw[←qt (z:=z)];exact i2.lt k hk,i2.pw.imp fun n h=>n (key h)⟩
 lia
theorem yq(hm:Mp M) (hz:z∈M.flatten) (hb:¬ eJ (K23.C z M) (plc M z) (plc M (-z))) {kn kn':List Nat}{PS PS':List (List Nat)}(hp:Ps M M.length kn PS) (hp':Ps (K23.C z M) (K23.C z M).length kn' PS'):PS'.length=PS.length+1:=by
 have hw:=vc (nt (z:=z) hm);have hkm:=vc hm;have hz':=hm.hneg z hz;have zm:eJ M (plc M z) (plc M (-z)):=by
  obtain⟨r,h1,h2⟩:=hm.at hz;exact .step .base h1 h2
 obtain⟨l,i1,l1,c1⟩:=tu hm hp;obtain⟨l',i2,l2,_⟩:=tu (nt hm) hp';have b:=nu hm hp (l:=l'.filter fun k=>!@decide (eJ (K23.C z M) (plc M (-z)) k) (RQ _)) ⟨fun k hk=>by rw[←qt (z:=z)];exact i2.lt k (RP.mp hk).1,by
  have hs:=i2.pw.sublist (Sr (p:=fun k=>!@decide (eJ (K23.C z M) (plc M (-z)) k) (RQ _)))
  refine RC.imp_of_mem (fun {x y} hx hy n h=>?_) hs
  have nx:¬ eJ (K23.C z M) (plc M (-z)) x:=by simpa using (RP.mp hx).2
  have ny:¬ eJ (K23.C z M) (plc M (-z)) y:=by simpa using (RP.mp hy).2
  rcases MJ hm hz h with q|⟨q1,q2⟩|⟨q1,q2⟩
  .exact n q
  .exact ny q2
  .exact nx (q1.symm hw)⟩
 have few:(l'.filter fun k=>@decide (eJ (K23.C z M) (plc M (-z)) k) (RQ _)).length<=1:=by
  have hs:=i2.pw.sublist (Sr (p:=fun k=>@decide (eJ (K23.C z M) (plc M (-z)) k) (RQ _)))
  have hm':∀x∈l'.filter fun k=>@decide (eJ (K23.C z M) (plc M (-z)) k) (RQ _),eJ (K23.C z M) (plc M (-z)) x:=fun x hx=>by simpa using (RP.mp hx).2
  generalize (l'.filter fun k=>@decide (eJ (K23.C z M) (plc M (-z)) k) (RQ _))=L at hs hm'
  match L,hs,hm' with
  | [],_,_=>exact Sl _
  | [x],_,_=>exact Rk _
  |x::y::L,hs,hm' =>
   exact absurd (((hm' x (by simp)).symm hw).trans (hm' y (by simp))) ((To.mp hs).1 y (by simp))
 have tot:=SG (p:=fun k=>@decide (eJ (K23.C z M) (plc M (-z)) k) (RQ _)) (l:=l')
 rw[R8,R8]at tot;have e1:(l'.filter fun a=>decide ¬ (@decide (eJ (K23.C z M) (plc M (-z)) a) (RQ _))=true)=l'.filter fun k=>!@decide (eJ (K23.C z M) (plc M (-z)) k) (RQ _):=by
  congr 1;funext k;rw[RZ];simp
 obtain⟨r,hr,ra⟩:=c1 (plc M z) (hm.lt hz);have a:=nu (nt hm) hp' (l:=plc M z::plc M (-z)::l.erase r) ⟨fun k hk=>by
   rw[qt];rcases Rl.mp hk with rfl|hk
   .exact hm.lt hz
   .rcases Rl.mp hk with rfl|hk
    .exact hm.lt hz'
    .exact i1.lt k (VM hk),by
  have out:∀k∈l.erase r,¬ eJ M r k:=fun k hk h=>by
   have hne:r≠k:=fun e=>by
    subst e;exact(List.Nodup.not_mem_erase i1.nd) hk
   have hin:=VM hk;exact Et (R:=fun a b=>¬ eJ M a b) (fun n c=>n (c.symm hkm)) i1.pw hr hin hne h
  refine To.mpr ⟨fun k hk q=>?_,To.mpr ⟨fun k hk q=>?_,(i1.pw.sublist List.erase_sublist).imp fun n h=>n (Bn hm h)⟩⟩
  .rcases Rl.mp hk with rfl|hk
   .exact hb q
   .exact out k hk ((ra.symm hkm).trans (Bn hm q))
  .exact out k hk ((ra.symm hkm).trans (zm.trans (Bn hm q)))⟩
 have le:=Vo hr;have lp:=UK hr;rw[lCq,lCq,le]at a;rw[e1]at tot;lia
end
structure Nt (A B:List (List Int)):Prop where
 sub:∀e∈A.flatten,e∈B.flatten
 row:∀r∈A,∀e∈r,∀e'∈r,plc B e=plc B e'
theorem JN(ha:Mp A) (hb:Mp B) (t:Nt A B) {s j:Nat}(h:eJ A s j) {r r':List Int}(hs:A[s]?=some r) (hj:A[j]?=some r') {e e':Int}(he:e∈r) (he':e'∈r'):eJ B (plc B e) (plc B e'):=by
 induction h generalizing r' e' with
 |base =>
  rw[hs]at hj;cases hj;rw[t.row r (mGq hs) e he e' he'];exact .base
 | @step k q x h1 h2 h3 ih =>
  have i1:=ih h2 h3;have hx:x∈A.flatten:=mFq.mpr ⟨q,mGq h2,h3⟩;obtain⟨p,p1,p2⟩:=hb.at (t.sub x hx);have i2:=eJ.step i1 p1 p2;obtain⟨u,u1,u2⟩:=ha.at (ha.hneg x hx);rw[FH]at hj i2;have eu:u=r':=RD.inj (u1.symm.trans hj);subst eu;rw[←t.row u (mGq u1) (-x) u2 e' he'];exact i2
def emp(B:List (List Int)):List Nat:=(Sg B.length).filter fun k=>decide (B.getD k []=[])
theorem getD_some{k:Nat}(h:k<B.length):B[k]?=some (B.getD k []):=by rw[gDq,gEg h];rfl
theorem zN(B:List (List Int)):(Sg B.length).map (fun k=>B.getD k [])=B:=by
 refine T1 fun i=>?_
 rw[gMq]
 by_cases h:i<B.length
 .rw [TF h,getD_some h];rfl
 .rw [Se (by rw[R6];lia),Se (by lia)]
  rfl
theorem rN(B:List (List Int)):(emp B).length=bare B:=by
 unfold emp bare;rw[←R8];have:B.countP (fun r=>decide (r=[]))=((Sg B.length).map (fun k=>B.getD k [])).countP (fun r=>decide (r=[])):=by rw[zN]
 rw[this,List.countP_map];rfl
theorem iT{k:Nat}:k∈emp B↔k<B.length/\B.getD k []=[]:=by
 unfold emp;rw[RP,Tq];simp
theorem rL{k j:Nat}(h:eJ B k j) (he:B.getD k []=[]):j=k:=by
 induction h with
 |base=>rfl
 | @step k' r e h1 h2 h3 ih =>
  have:=ih;subst this;rw[gDq,h2]at he;rw[show r=[] from he]at h3
  cases h3
theorem uV(ha:Mp A) (hb:Mp B) (t:Nt A B) (t':Nt B A) (hbare:bare A=bare B) {kn kn':List Nat}{PS PS':List (List Nat)}(hp:Ps A A.length kn PS) (hp':Ps B B.length kn' PS'):PS.length<=PS'.length:=by
 obtain⟨l,i1,l1,_⟩:=tu ha hp
 let f:Nat->Nat:=fun k=>plc B ((A.getD k []).headD 0)
 have hd:∀k∈l.filter (fun k=>!decide (A.getD k []=[])),A[k]?=some (A.getD k [])/\(A.getD k []).headD 0∈A.getD k []/\(A.getD k []).headD 0∈A.flatten:=fun k hk=>by
  obtain⟨h1,h2⟩:=RP.mp hk;have g:=getD_some (i1.lt k h1);have h3:A.getD k []≠[]:=by simpa using h2
  have h4:(A.getD k []).headD 0∈A.getD k []:=by
   generalize A.getD k []=r at h3;cases r with
   |nil=>exact absurd rfl h3
   |cons x r=>exact Rq ..
  exact⟨g,h4,mFq.mpr ⟨_,mGq g,h4⟩⟩
 have key:=nu hb hp' (l:=(l.filter fun k=>!decide (A.getD k []=[])).map f++emp B) ⟨fun k hk=>by
   rcases mAq.mp hk with q|q
   .obtain ⟨k0,hk0,rfl⟩:=mMq.mp q;exact hb.lt (t.sub _ (hd k0 hk0).2.2)
   .exact (iT.mp q).1,by
  refine RN.mpr ⟨?_,?_,fun a ha' b hb' h=>?_⟩
  .rw [RW];refine RC.imp_of_mem (fun {x y} hx hy n h=>n ?_) (i1.pw.sublist Sr)
   obtain⟨x1,x2,x3⟩:=hd x hx;obtain⟨y1,y2,y3⟩:=hd y hy;obtain⟨p,p1,p2⟩:=hb.at (t.sub _ x3);obtain⟨q,q1,q2⟩:=hb.at (t.sub _ y3);have:=JN hb ha t' h p1 q1 p2 q2
   rwa [plc_eq ha.hn x1 x2,plc_eq ha.hn y1 y2]at this
  .have nd:(emp B).Nodup:=RC.sublist Sr UT;refine RC.imp_of_mem (fun {x y} hx hy n h=>n ?_) (Rw.mp nd)
   exact(rL h (iT.mp hx).2).symm
  .obtain ⟨k,hk,rfl⟩:=mMq.mp ha';have e:=rL (h.symm (vc hb)) (iT.mp hb').2;obtain⟨p,p1,p2⟩:=hb.at (t.sub _ (hd k hk).2.2);have:=(iT.mp hb').2;rw[←e,gDq]at this;rw[show B[f k]?=some p from p1]at this
   rw[show p=[] from this]at p2
   cases p2⟩
 rw[lAq,lMq,rN]at key;have few:(l.filter fun k=>decide (A.getD k []=[])).length<=bare A:=by
  rw[←rN];have hs:=i1.nd.sublist (Sr (p:=fun k=>decide (A.getD k []=[])))
  have hsub:∀x∈l.filter fun k=>decide (A.getD k []=[]),x∈emp A:=fun x hx=>by
   obtain⟨h1,h2⟩:=RP.mp hx;exact iT.mpr ⟨i1.lt x h1,of_decide_eq_true h2⟩
  have:=Du ((l.filter fun k=>decide (A.getD k []=[])).map fun k:Nat=>(k:Int)) ((emp A).map fun k:Nat=>(k:Int)) (by
   rw[Rw,RW];exact(Rw.mp hs).imp (fun {a b} n e=>n (by lia))) (fun x hx=>by
   obtain⟨k,hk,rfl⟩:=mMq.mp hx;exact mMq.mpr ⟨k,hsub k hk,rfl⟩)
  rwa [lMq,lMq]at this
 have tot:=SG (p:=fun k=>decide (A.getD k []=[])) (l:=l)
 rw[R8,R8]at tot;have e1:(l.filter fun a=>decide ¬ (decide (A.getD a []=[])=true))=l.filter fun k=>!decide (A.getD k []=[]):=by
  congr 1;funext k;rw[RZ];simp
 rw[e1]at tot;lia
theorem Gw{T:List (List Int)}(hn:T.flatten.Nodup):Nt T (dw (T.map good))/\Nt (dw (T.map good)) T:=by
 have pf:=vw T;have hn':(dw (T.map good)).flatten.Nodup:=pf.nodup_iff.mpr hn;refine⟨⟨fun e he=>pf.mem_iff.mpr he,fun r hr e he e' he'=>?_⟩,⟨fun e he=>pf.mem_iff.mp he,fun r hr e he e' he'=>?_⟩⟩
 .have hg:good r∈dw (T.map good):=(aV _).mem_iff.mpr (mMq.mpr ⟨r,hr,rfl⟩);obtain⟨i,hi⟩:=Rv.mp hg;rw[plc_eq hn' hi ((aY r).mem_iff.mpr he),plc_eq hn' hi ((aY r).mem_iff.mpr he')]
 .obtain ⟨q,hq,rfl⟩:=mMq.mp ((aV _).mem_iff.mp hr);obtain⟨i,hi⟩:=Rv.mp hq;rw[plc_eq hn hi ((aY q).mem_iff.mp he),plc_eq hn hi ((aY q).mem_iff.mp he')]
end
end K43
--ZQ3 --ZQ4 --ZQ5 --ZQ6 --ZQ8 --ZQ9 --ZQB --ZQC --ZQD --ZQE --ZQF --ZQG
namespace K31
open PySem L2 Mr Z Xe Zl
end K31
--ZQ3 --ZQ4 --ZQ5 --ZQ6 --ZQ8 --ZQ9 --ZQB --ZQC --ZQD --ZQE --ZQF --ZQG
namespace K31
open PySem L2 Mr Z Xe Zl
structure Nm (nm:List Int):Prop where
 len:nm.length<=100
 nd:nm.Nodup
 lo:∀x∈nm,1<=x
structure Wm (nm:List Int) (T:List (List Int)):Prop where
 cnt:∃left,∀a,T.flatten.count a+(nT left).count a=(nT nm).count a
 tr:K11.qV T
 pos:0<T.length
 len:T.length<=64
theorem qp{nm:List Int}(h:Nm nm):(nT nm).Nodup:=K12.se h.nd h.lo
theorem Bk(l:List Int) (a:Int):(nT l).count (-a)=(nT l).count a:=by
 induction l with
 |nil=>rfl
 |cons x l ih =>
  rw[sH,sH,ih];congr 1;rw[show [x, -x]=[x]++[-x] from rfl,cAq,cAq]
  simp only[List.count_singleton];have e1:(x == -a)=(-x == a):=by rw[RZ];simp <;> lia
  have e2:(-x == -a)=(x == a):=by rw[RZ];simp <;> lia
  rw[e1,e2];lia
theorem Wm.nodup{nm:List Int}{T:List (List Int)}(hn:Nm nm) (h:Wm nm T):T.flatten.Nodup:=by
 obtain⟨left,hc⟩:=h.cnt;rw[SV];intro a;have h1:=SV.mp (qp hn) a;have:=hc a;lia
theorem Wm.sub{nm:List Int}{T:List (List Int)}(h:Wm nm T) {z:Int}(hz:z∈T.flatten):z∈nT nm:=by
 obtain⟨left,hc⟩:=h.cnt;have h1:=RX.mpr hz;have:=hc z;exact RX.mp (by lia)
theorem Wm.neg{nm:List Int}{T:List (List Int)}(hn:Nm nm) (h:Wm nm T) {z:Int}(hz:z∈T.flatten):-z∈T.flatten:=by
 obtain⟨left,hc⟩:=h.cnt;have h1:=RX.mpr hz;have h2:=SV.mp (qp hn) z;have e1:=hc z;have e2:=hc (-z);rw[Bk,Bk]at e2;exact RX.mp (by lia)
theorem Wm.le{nm:List Int}{T:List (List Int)}(h:Wm nm T):T.flatten.length<=2*nm.length:=by
 obtain⟨left,hc⟩:=h.cnt;have:(T.flatten++nT left).Perm (nT nm):=by
  rw[TH];intro a;rw[cAq];exact hc a
 have:=this.length_eq;rw[lAq,oO nm]at this;lia
end K31
--ZQ3 --ZQ4 --ZQ5 --ZQ6 --ZQ8 --ZQ9 --ZQB --ZQC --ZQD --ZQE --ZQF --ZQG
namespace K31
open PySem L2 Mr Z Xe Zl
open K12 (DV Bl)
def Jp(st sh a b:Int) (n:Nat):List Int:=(Sg n).map fun k:Nat=>DV st sh a b k
theorem Jr{st sh a b:Int}(h1:1<=st) (h2:0<=sh) (k:Nat):1<=DV st sh a b k:=by
 have b1:0<=(a*(k:Int)+b) % 67:=Sn _ (by decide)
 have l1:1*1<=st*((a*(k:Int)+b) % 67+1):=Int.mul_le_mul h1 (by lia) (by decide) (by lia)
 show 1<=st*((a*(k:Int)+b) % 67+1)+sh;lia
theorem Fb{st sh a b:Int}{n:Nat}(hn:n<=67) (h1:1<=st) (h2:0<=sh) (h3:1<=a) (h4:a<=66):Nm (Jp st sh a b n):=by
 refine⟨by unfold Jp;rw[lMq,R6];lia,?_,fun x h=>?_⟩
 .unfold Jp;rw[Rw,RW];refine RC.imp_of_mem (fun {x y} hx hy hne e=>hne (Bl h1 h3 h4 (by have:=Tq.mp hx;lia) (by have:=Tq.mp hy;lia) e)) (Rw.mp UT)
 .obtain ⟨k,_,rfl⟩:=mMq.mp h;exact Jr h1 h2 k
theorem sX{one two st sh a b:Int}{n:Nat}(h:∀k:Nat,eO [.int one,.int two,.int (k:Int)]=some (.sh (.int (DV st sh a b k)))):cE cX (kSc (bE K31.eO (ae (af 1) (ae (af 2) (ae (af 0) ak))))) [some (.sh (.int one)),some (.sh (.int two))] (bP 0 n)=some ((Jp st sh a b n).map fun z=>.sh (.int z)):=by
 have key:=fi (te:=kSc (bE K31.eO (ae (af 1) (ae (af 2) (ae (af 0) ak))))) (cap:=[some (.sh (.int one)),some (.sh (.int two))])
  (fun d=>match d with|.int k=>.sh (.int (DV st sh a b k))|_=>.sh .non) (ds:=bP 0 n) (by
  intro d hd;rw[qB]at hd;obtain⟨k,_,rfl⟩:=mMq.mp hd;have hk:=h k;refine⟨[some (.sh (.int (k:Int))),some (.sh (.int one)),some (.sh (.int two))],?_⟩
  simp_arith [hk])
 rw[key,qB,mPq];unfold Jp;rw[mPq];rfl
theorem vg{l:List Int}(hl:l.length<=500000):fU [dI l]=some (.sh (.bl true)):=by
 have key:cE cX (kSc (uA (dD nO (ae (af 0) (ae (rC (.ty "int")) ak))) (E6 (dD nO (ae (af 0) (ae (rC (.ty "bool")) ak)))))) [] (l.map D.int)=some (l.map fun _=>.sh (.bl true)):=by
  rw[Z.fi fun _=>.sh (.bl true)]
  .rw [mPq];rfl
  .intro d hd;obtain⟨s,hs,rfl⟩:=mMq.mp hd;refine⟨[some (.sh (.int s))],?_⟩
   simp_arith []
 have e:(l.map fun _=>AV.sh (.bl true)).map aA=(l.map fun _=>true).map D.bl:=by
  rw[mPq,mPq];exact mCq fun c _=>by simp
 have fa:yX [.list ((l.map fun _=>true).map D.bl)]=some (.bl true):=by
  rw[JQ,yp];have:(l.map fun _=>true).all id=true:=by rw[Vt];intro b hb;obtain⟨_,_,rfl⟩:=mMq.mp hb;rfl
  rw[Td,this]
 have lk:l.length<=cZ:=by show _<=16777216;lia
 simp_arith [fU,qu,dI,key,lk,e,fa]
end K31
--ZQ3 --ZQ4 --ZQ5 --ZQ6 --ZQ8 --ZQ9 --ZQB --ZQC --ZQD --ZQE --ZQF --ZQG
namespace K43
open PySem L2 Mr Z Xe Zl
open K51 (eJ Ps Pc)
section
variable {M:List (List Int)}{z:Int}
theorem QY(i z:Int):uL true (.int i) (.list [.int z,.int (-z)])=some (.bl (!decide (i∈[z, -z]))):=zX true i [z, -z]
theorem IP(z:Int) (t:List Int):cE (cD (aR (uL true) (af 0) (af 1))) (ay 0) [some (.sh (.list [.int z,.int (-z)]))] (t.map D.int)=some ((K23.qW z t).map fun n=>.sh (.int n)):=by
 rw[Z.eY (fun d=>match d with|.int e=>!decide (e∈[z, -z])|_=>false) (fun d=>.sh d)]
 .rw [Uw,mPq];rfl
 .intro d hd;obtain⟨e,_,rfl⟩:=mMq.mp hd;have h:=QY e z;refine⟨[some (.sh (.int e)),some (.sh (.list [.int z,.int (-z)]))],?_,fun _=>⟨[some (.sh (.int e)),some (.sh (.list [.int z,.int (-z)]))],?_⟩⟩
  .simp_arith [h]
  .simp_arith []
theorem JF(z:Int) (t:List Int) (ht:t.length<=1000):K23.gV [dI t,.list [.int z,.int (-z)]]=some (aI (K23.qW z t)):=by
 have h:=IP z t;have hl2:t.length<=cZ:=kx (by lia)
 simp_arith [K23.gV,K23.tN,dI,h,hl2]
theorem HN(z:Int) {rs:List (List Int)}(hr:∀r∈rs,r.length<=1000):cE cX (aM K23.gV (ar (ay 0) (ar (ay 1) aG))) [some (.sh (.list [.int z,.int (-z)]))] (rs.map dI)=some ((K23.C z rs).map aI):=by
 rw[Z.fi fun d=>aI (K23.qW z (nJ d))]
 .rw [tE fun r=>aI (K23.qW z r)]
  unfold K23.C;rw[mPq];rfl
 .intro d hd;obtain⟨r,hr',rfl⟩:=wK hd;refine⟨[some (.sh (dI r)),some (.sh (.list [.int z,.int (-z)]))],?_⟩
  simp_arith [JF z r (hr r hr'),iZ]
theorem CV(z:Int):cE cX (kSc (qD gD (af 0))) [] [D.int z]=some [.sh (.int (-z))]:=by
 have:=Z.fi (te:=kSc (qD gD (af 0))) (cap:=[]) (fun d=>match d with|.int i=>AV.sh (.int (-i))|_=>.sh .non) (ds:=[D.int z]) (by
  intro d hd;rw[mSq.mp hd];refine⟨[some (.sh (.int z))],?_⟩
  simp_arith [])
 exact this
theorem Ba(hm:Mp M):dF [dM M,.list [.int z]]=some (.ow ((K23.C z M).map aI)):=by
 have nc:=CV z;have wc:=HN z (rs:=M) fun r hr=>by have:=Lk hr;have:=hm.hl;lia
 have l1:M.length<=cZ:=kx (by have:=hm.hr;lia)
 have l2:1<=cZ:=by decide
 simp_arith [dF,jD,nc,wc,l1,l2]
def mJ(M:List (List Int)) (z:Int):Bool:=@decide (¬ eJ (K23.C z M) (plc M z) (plc M (-z))) (RQ _)
theorem vN(hm:Mp M) (hz:z∈M.flatten):fc [dM M,.int z]=some (.sh (.bl (mJ M z))):=by
 have hl:=hm.hl;have pa:=om (rs:=M) hm.hn (by lia)
 have g1:=hm.kv hz;have g2:=hm.kv (hm.hneg z hz);have wo:=Ba (z:=z) hm;have sW:((K23.C z M).map aI).map aA=(K23.C z M).map dI:=by rw[mPq];exact mCq fun r _=>aE r
 obtain⟨ps,pc,re⟩:=K51.uf (vc (nt (z:=z) hm)) (s:=plc M z) (by rw[qt];exact hm.lt hz)
 have sP:=aE (ps.map fun k:Nat=>(k:Int))
 have hin:=zX true (plc M (-z):Int) (ps.map fun k:Nat=>(k:Int))
 have e:(!decide ((plc M (-z):Int)∈ps.map fun k:Nat=>(k:Int)))=mJ M z:=by
  unfold mJ;rw[RZ];simp only[V7,decide_eq_false_iff_not,decide_eq_true_eq];rw[←pc.iff];constructor
  .intro h q;exact h (mMq.mpr ⟨_,q,rfl⟩)
  .intro h q;obtain⟨k,hk,ek⟩:=mMq.mp q;have:k=plc M (-z):=by lia
   exact h (this ▸ hk)
 rw[if_pos rfl,e]at hin
 simp_arith [fc,oN,pa,g1,g2,wo,sW,re,sP,dI,hin]
theorem H0(hm:Mp M) {R:List Int}(hR:∀z∈R,z∈M.flatten):cE (cD (bE K43.fc (ae (af 1) (ae (af 0) ak)))) (ay 0) [some (.sh (dM M))] (R.map D.int)=some ((R.filter (mJ M)).map fun n=>.sh (.int n)):=by
 rw[Z.eY (fun d=>match d with|.int e=>mJ M e|_=>false) (fun d=>.sh d)]
 .rw [Uw,mPq];rfl
 .intro d hd;obtain⟨e,he,rfl⟩:=mMq.mp hd;have h:=vN hm (hR e he);refine⟨[some (.sh (.int e)),some (.sh (dM M))],?_,fun _=>⟨[some (.sh (.int e)),some (.sh (dM M))],?_⟩⟩
  .simp_arith [h]
  .simp_arith []
def rds(M:List (List Int)):List Int:=(bV M.flatten).filter fun z=>decide (0<z)
theorem Hz{x:Int}:x∈rds M↔x∈M.flatten/\0<x:=by
 unfold rds;rw[RP,(cJ _).mem_iff];simp
theorem ug(hm:Mp M):gS [dM M]=some (aI ((rds M).filter (mJ M))):=by
 have hl:=hm.hl;have ro:eW [dM M]=some (aI (rds M)):=G9 (rs:=M) (by lia)
 have bc:=H0 hm (R:=rds M) fun z h=>(Hz.mp h).1
 have sR:=aE (rds M);have lR:(rds M).length<=cZ:=kx (by
  have:(rds M).length<=(bV M.flatten).length:=S7 _ _;rw[(cJ _).length_eq]at this;lia)
 simp_arith [gS,uC,ro,sR,dI,bc,lR]
end
end K43
namespace K17
open PySem L2 Mr Z Xe Zl
open K15 (nx fw rZ lands_ok hU)
open K25 (Rt OS bY pz rA drawn BM BQ lX)
open K43 (vc FH wC gK sO nt BC qt mJ Ni nu emp rN iT rL)
open K51 (eJ Ps Pc)
section
variable {M N:List (List Int)}{z:Int}
theorem zI(hm:Mp M) {e:Int}(he:e∈M.flatten):plc M (nx M e)=plc M e:=by
 obtain⟨w,h⟩:=Rt.of he;have e1:=h.to hm.hn;obtain⟨r,hr,q⟩:=h.row;obtain⟨i,hi⟩:=Rv.mp hr;have h1:e∈r:=(q e).mpr (Rq ..);have h2:nx M e∈r:=(q _).mpr (by rw[e1];cases w <;> simp)
 rw[plc_eq hm.hn hi h1,plc_eq hm.hn hi h2]
theorem EW(hm:Mp M) {y:Int}(hy:y∈M.flatten) (h1:y≠z) (h2:y ≠ -z):eJ (K23.C z M) (plc M y) (plc M (-y)):=by
 obtain⟨r,hr,hyr⟩:=hm.at hy;have hw:y∈(K23.C z M).flatten:=sO.mpr ⟨hy,h1,h2⟩;have e:K51.plc (K23.C z M) (-y)=plc M (-y):=BC hm ((nt hm).hneg y hw);rw[←e];exact .step .base (wC hr) (gK.mpr ⟨hyr,h1,h2⟩)
theorem Ke(hm:Mp M) (hN:N.flatten.Nodup) (hx:∀x∈N.flatten,nx N x=fw M x) (hs:∀x,x∈N.flatten↔x∈M.flatten):∀(w:List Int) {y:Int}{c:List Int},Rt N y (w++z::c)->y≠z->y ≠ -z->(∀x∈w,x≠z/\x ≠ -z)->eJ (K23.C z M) (plc M y) (plc M z)
 | [],y,c,h,h1,h2,_=>by
  have hy:y∈M.flatten:=(hs y).mp h.mem;have e1:nx N y=z:=h.to hN;rw[hx y h.mem]at e1;have e2:=zI hm (hm.hneg y hy);have e3:nx M (-y)=z:=e1;rw[e3]at e2;rw[e2];exact EW hm hy h1 h2
 |x::w,y,c,h,h1,h2,hw=>by
  have hy:y∈M.flatten:=(hs y).mp h.mem;have e1:nx N y=x:=h.to hN;rw[hx y h.mem]at e1;have e2:=zI hm (hm.hneg y hy);have e3:nx M (-y)=x:=e1;rw[e3]at e2;have h3:Rt N x (w++z::(c++[y])):=by simpa using h.step
  have i1:=Ke hm hN hx hs w h3 (hw x (Rq ..)).1 (hw x (Rq ..)).2 fun x' hx'=>hw x' (mCo _ hx')
  rw[e2]at i1;exact(EW hm hy h1 h2).trans i1
theorem Dj(hm:Mp M) (hN:N.flatten.Nodup) (hx:∀x∈N.flatten,nx N x=fw M x) (hs:∀x,x∈N.flatten↔x∈M.flatten) (hz:z ≠ -z) {a:List Int}(h:Rt N z a) (hna:-z∉a):mJ M z=false:=by
 have hw:=vc (nt (z:=z) hm);have hzM:z∈M.flatten:=(hs z).mp h.mem;have nd:=h.nd hN;have e1:=h.to hN;rw[hx z h.mem]at e1;have e2:=zI hm (hm.hneg z hzM);have e3:nx M (-z)=a.headD z:=e1;rw[e3]at e2;have key:eJ (K23.C z M) (plc M (-z)) (plc M z):=by
  cases a with
  |nil =>
   have:plc M z=plc M (-z):=e2;rw[this];exact .base
  |cons x w =>
   have e4:plc M x=plc M (-z):=e2;rw[←e4];have h3:Rt N x (w++z::[]):=by simpa using h.step
   rw[Rp]at nd;have out:∀y∈x::w,y≠z/\y ≠ -z:=fun y hy=>⟨fun q=>nd.1 (q ▸ hy),fun q=>hna (q ▸ hy)⟩
   exact Ke hm hN hx hs w h3 (out x (by simp)).1 (out x (by simp)).2 fun y hy=>out y (mCo _ hy)
 unfold mJ;simp only[decide_eq_false_iff_not,V9];exact key.symm hw
theorem Ca(z:Int):∀rs:List (List Int),rs.countP (fun r=>decide (z∈r))<=rs.flatten.count z
 | []=>Rk _
 |r::rs=>by
  have ih:=Ca z rs;rw[SZ,fCq,cAq]
  by_cases h:z∈r
  .have:=RX.mpr h;simp[h];lia
  .simp [h];lia
theorem wR(hn:N.flatten.Nodup) (hz:z∈N.flatten):N.countP (fun r=>decide (z∈r))=1:=by
 have h1:=Ca z N;have h2:=SV.mp hn z;obtain⟨r,hr,hzr⟩:=mFq.mp hz;have h3:0<N.countP (fun r=>decide (z∈r)):=List.countP_pos_iff.mpr ⟨r,hr,decide_eq_true hzr⟩
 lia
theorem G1{p q:List Int->Bool}:∀{rs:List (List Int)},(∀r∈rs,¬ (p r=true/\q r=true))->rs.countP (fun r=>p r || q r)=rs.countP p+rs.countP q
 | [],_=>rfl
 |r::rs,h=>by
  have ih:=G1 (p:=p) (q:=q) (rs:=rs) fun r hr=>h r (mCo _ hr)
  have h1:=h r (Rq ..);rw[SZ,SZ,SZ,ih];cases a:p r <;> cases b:q r <;> simp[a,b]at h1 ⊢ <;> lia
theorem Ez(z:Int) (rs:List (List Int)):rs.length=(K25.rest z rs).length+rs.countP (fun r=>decide (z∈r) || decide (-z∈r)):=by
 have:=SG (p:=fun r:List Int=>decide (z∈r) || decide (-z∈r)) (l:=rs)
 unfold K25.rest;rw[←R8];have e:rs.countP (fun a=>decide ¬ ((decide (z∈a) || decide (-z∈a))=true))=rs.countP (fun r=>!decide (z∈r) && !decide (-z∈r)):=by
  congr 1;funext r;rw[RZ];simp
 rw[e]at this;lia
theorem CI(hm:Mp M) (gd:dw (M.map good)=M) (hlen:M.length+M.flatten.length<=400) (hz:z∈M.flatten) (hne:z ≠ -z):∃F G:List (List Int),K15.cP [dM M]=some (.ow (F.map aI))/\K15.cP [dM (dw ((K23.C z M).map good))]=some (.ow (G.map aI))/\((G.length=F.length+1/\∃r∈F,z∈r/\-z∈r)∨(G.length+1=F.length/\mJ M z=false/\∀r∈F,z∈r->-z∉r)):=by
 obtain⟨F,e1,pF,bF,lF,hx⟩:=rA hm;have nF:F.flatten.Nodup:=pF.nodup_iff.mpr hm.hn;have mpF:Mp F:=⟨nF,by rw[pF.length_eq];exact hm.hl,by lia,fun e he=>pF.mem_iff.mpr (hm.hneg e (pF.mem_iff.mp he))⟩
 have hzF:z∈F.flatten:=pF.mem_iff.mpr hz;have hzF':-z∈F.flatten:=pF.mem_iff.mpr (hm.hneg z hz);obtain⟨M2,e2,_,_,hD⟩:=drawn (rs:=F) (z:=z) mpF (by rw[pF.length_eq];lia) hzF hne
 obtain⟨F',f1,_,f2,_⟩:=K16.Gv hm (by lia)
 rw[e1]at f1;have eF:F.map aI=F'.map aI:=AV.ow.inj (RD.inj f1);have inj:∀{A B:List (List Int)},A.map aI=B.map aI->A=B:=fun {A B} h=>by
  have:(A.map aI).map aA=(B.map aI).map aA:=by rw[h]
  rw[mPq,mPq]at this;have h2:A.map dI=B.map dI:=by
   rw[←mCq (f:=aA∘aI) fun r _=>aE r,←mCq (f:=aA∘aI) (l:=B) fun r _=>aE r]
   exact this
  have h3:(A.map dI).map nJ=(B.map dI).map nJ:=by rw[h2]
  rw[mPq,mPq]at h3;have idA:∀C:List (List Int),C.map (nJ∘dI)=C:=fun C=>(mCq fun r _=>iZ r).trans (TR _)
  rw[idA,idA]at h3;exact h3
 have eF':=inj eF;rw[←eF',e2,gd]at f2;have eM:M2=M:=inj (AV.ow.inj (RD.inj f2));subst eM;obtain⟨a,ha⟩:=Rt.of hzF;have rc:=Ez z F;have hs:∀x,x∈F.flatten↔x∈M2.flatten:=fun x=>pF.mem_iff
 by_cases c:-z∈a
 .obtain ⟨u,v,rfl⟩:=TQ c;have due:=BM nF hne ha;obtain⟨_,e3⟩:=hD _ due;obtain⟨r,hr,er⟩:=ha.row;have zr:z∈r:=(er z).mpr (by simp)
  have zr':-z∈r:=(er (-z)).mpr (by simp)
  refine⟨F,_,e1,e3,.inl ⟨?_,r,hr,zr,zr'⟩⟩;have cc:F.countP (fun r=>decide (z∈r) || decide (-z∈r))=F.countP (fun r=>decide (z∈r)):=by
   refine Wa fun s hs'=>?_
   simp only[Wo,decide_eq_true_eq];constructor
   .rintro (q|q)
    .exact q
    .have:=K25.fE nF hs' hr q zr';rw[this];exact zr
   .exact fun q=>.inl q
  rw[cc,wR nF hzF]at rc;rw[dm,lMq,lAq];show (K25.rest z F).length+2=_;lia
 .obtain ⟨b,hb⟩:=Rt.of hzF';have due:=BQ nF hne ha hb c;obtain⟨_,e3⟩:=hD _ due;obtain⟨r,hr,er⟩:=ha.row;have zr:z∈r:=(er z).mpr (by simp)
  have no:∀s∈F,z∈s->-z∉s:=fun s hs' q1 q2=>by
   have:=K25.fE nF hs' hr q1 zr;rw[this]at q2;rcases Rl.mp ((er (-z)).mp q2) with e|e
   .exact hne e.symm
   .exact c e
  refine⟨F,_,e1,e3,.inr ⟨?_,Dj hm nF hx hs hne ha c,no⟩⟩;have cc:=G1 (p:=fun r=>decide (z∈r)) (q:=fun r=>decide (-z∈r)) (rs:=F) fun s hs' q=>no s hs' (of_decide_eq_true q.1) (of_decide_eq_true q.2)
  rw[cc,wR nF hzF,wR nF hzF']at rc;rw[dm,lMq,lAq];show (K25.rest z F).length+1+1=_;lia
theorem G0(hm:Mp M) (gd:dw (M.map good)=M) (nz:∀e∈M.flatten,e≠0) (hl:M.length<=200) (h128:M.flatten.length<=128) (hz:z∈M.flatten) {kn:List Nat}{PS:List (List Nat)}(hp:Ps M M.length kn PS)
  (IH:∀{B:List (List Int)}{kB:List Nat}{PB:List (List Nat)},B.flatten.length<M.flatten.length->Mp B->dw (B.map good)=B->(∀e∈B.flatten,e≠0)->B.length<=200->Ps B B.length kB PB->∃(G:List (List Int)) (g:Nat),K15.cP [dM B]=some (.ow (G.map aI))/\4*PB.length+B.flatten.length=2*B.length+2*G.length+4*g) :
  ∃(F:List (List Int)) (g:Nat),K15.cP [dM M]=some (.ow (F.map aI))/\4*PS.length+M.flatten.length=2*M.length+2*F.length+4*g/\(mJ M z=true->∃r∈F,z∈r/\-z∈r)/\((∃r∈F,z∈r/\-z∈r)->mJ M z=false->0<g):=by
 have z0:=nz z hz;have hne:z ≠ -z:=by lia
 have hw:=nt (z:=z) hm;have pf:=vw (K23.C z M);have mpB:Mp (dw ((K23.C z M).map good)):=⟨pf.nodup_iff.mpr hw.hn,by rw[pf.length_eq];exact hw.hl,by rw[dm,lMq];exact hw.hr,fun e he=>pf.mem_iff.mpr (hw.hneg e (pf.mem_iff.mp he))⟩
 have gB:=nA hw.hn;have lB:(dw ((K23.C z M).map good)).length=M.length:=by rw[dm,lMq,qt]
 have cz:(K23.C z M).flatten.length+2=M.flatten.length:=by
  rw[K23.sS];have pm:M.flatten.Perm (z :: -z::K23.qW z M.flatten):=by
   rw[Si hm.hn (by
    refine Rp.mpr ⟨?_,Rp.mpr ⟨fun h=>(gK.mp h).2.2 rfl,RC.sublist Sr hm.hn⟩⟩
    intro h;rcases Rl.mp h with q|q
    .exact hne q
    .exact (gK.mp q).2.1 rfl)]
   intro x;rw[Rl,Rl,gK];constructor
   .intro h
    by_cases q1:x=z
    .exact .inl q1
    .by_cases q2:x = -z
     .exact .inr (.inl q2)
     .exact .inr (.inr ⟨h,q1,q2⟩)
   .rintro (q|q|q)
    .rw [q];exact hz
    .rw [q];exact hm.hneg z hz
    .exact q.1
  have:=pm.length_eq;rw[lCq,lCq]at this;lia
 obtain⟨F,G,e1,e2,hc⟩:=CI hm gd (by lia) hz hne
 obtain⟨kB,PB,hB,_⟩:=K51.mv (vc mpB);obtain⟨kW,PW,hW,_⟩:=K51.mv (vc hw);obtain⟨t1,t2⟩:=K43.Gw hw.hn;have hb:=K25.yy (K23.C z M);have x1:=K43.uV hw mpB t1 t2 hb.symm hW hB;have x2:=K43.uV mpB hw t2 t1 hb hB hW;have x3:PW.length=PS.length+(if mJ M z=true then 1 else 0):=by
  unfold mJ
  by_cases q:eJ (K23.C z M) (plc M z) (plc M (-z))
  .rw [K43.yV hm hz q hp hW,if_neg (by simp[q])]
   rfl
  .rw [K43.yq hm hz q hp hW,if_pos (by simp[q])]
 obtain⟨G',g,e3,eq⟩:=IH (B:=dw ((K23.C z M).map good)) (by rw[pf.length_eq];lia) mpB gB (fun e he=>nz e ((sO.mp (pf.mem_iff.mp he)).1)) (by lia) hB
 rw[e2]at e3;have lG:G'.length=G.length:=by
  have:G.map aI=G'.map aI:=AV.ow.inj (RD.inj e3);have:=congrArg S6 this;rw[lMq,lMq]at this;exact this.symm
 rw[lB,pf.length_eq]at eq;rcases hc with ⟨c1,sm⟩|⟨c1,c2,c3⟩
 .by_cases q:mJ M z=true
  .rw [if_pos q]at x3;exact⟨F,g,e1,by lia,fun _=>sm,fun _ h=>by rw[q]at h;cases h⟩
  .rw [if_neg q]at x3;exact⟨F,g+1,e1,by lia,fun _=>sm,fun _ _=>Wy _⟩
 .have x4:=x3;rw[c2,if_neg (by simp)]at x4
  exact⟨F,g,e1,by lia,fun h=>(by rw[c2]at h;cases h),fun⟨r,h1,h2,h3⟩=>absurd h3 (c3 r h1 h2)⟩
theorem JZ:∀(n:Nat) {M:List (List Int)},M.flatten.length=n->Mp M->dw (M.map good)=M->(∀e∈M.flatten,e≠0)->M.length<=200->n<=128->∀{kn:List Nat}{PS:List (List Nat)},Ps M M.length kn PS->∃(F:List (List Int)) (g:Nat),K15.cP [dM M]=some (.ow (F.map aI))/\4*PS.length+n=2*M.length+2*F.length+4*g:=by
 intro n
 induction n using U0 with
 |_ n ih =>
  intro M hn hm gd nz hl h128 kn PS hp;cases hfl:M.flatten with
  |nil =>
   obtain⟨F,e1,pF,bF,lF,_⟩:=rA hm;rw[hfl]at hn pF;have allE:∀rs:List (List Int),rs.flatten=[]->bare rs=rs.length:=fun rs h=>by
    unfold bare;rw[List.countP_eq_length];intro r hr;have:=UC.mp h r hr;simp[this]
   have bM:=allE M hfl;have bF':=allE F pF.eq_nil;have i1:=nu hm hp (l:=emp M) ⟨fun k hk=>(iT.mp hk).1,by
    have nd:(emp M).Nodup:=RC.sublist Sr UT;refine RC.imp_of_mem (fun {x y} hx hy n h=>n ?_) (Rw.mp nd)
    exact(rL h (iT.mp hx).2).symm⟩
   rw[rN]at i1;have i2:=hp.len;refine⟨F,0,e1,?_⟩;rw[TU]at hn;lia
  |cons z rest' =>
   have hz:z∈M.flatten:=by rw[hfl];exact Rq ..
   obtain⟨F,g,e1,e2,_⟩:=G0 hm gd nz hl (by lia) hz hp fun lt hB gB nB lB hpB=>ih _ (by lia) rfl hB gB nB lB (by lia) hpB
   exact⟨F,g,e1,by lia⟩
end
end K17
--ZQ3 --ZQ4 --ZQ5 --ZQ6 --ZQ8 --ZQ9 --ZQB --ZQC --ZQD --ZQE --ZQF
namespace K51
open PySem L2 Mr Z Xe Zl
end K51
namespace K11
open PySem L2 Mr Z Xe Zl K12
theorem Cg{p:List (List Int)}(h:Cn p) (hb:[]∈p) (hn:p.flatten.Nodup):p=[[]]:=by
 obtain⟨k,hk⟩:=Rv.mp hb;have hlt:=(gSq.mp hk).1;have hkD:p.getD k []=[]:=by rw[gDq,hk];rfl
 have h0:k=0:=by
  by_cases q:0<k
  .obtain ⟨j,e,_,_,h3⟩:=h.tr k q hlt;rw[hkD]at h3;cases h3
  .lia
 subst h0
 by_cases q:1<p.length
 .obtain ⟨j,e,h1,h2,_⟩:=h.tr 1 (by lia) q
  have:j=0:=by lia
  rw[this,hkD]at h2;cases h2
 .cases p with
  |nil=>cases hb
  |cons a p =>
   cases p with
   |nil =>
    have:a=[]:=RD.inj hk;rw[this]
   |cons b p=>exact absurd (show 1<(a::b::p).length by simp) q
section
variable {P:List (List (List Int))}
theorem za:∀{P:List (List (List Int))},P.flatten.flatten.Nodup->∀{p q:List (List Int)}{e:Int},p∈P->q∈P->e∈p.flatten->e∈q.flatten->p=q
 | [],_,p,q,e,hp,_,_,_=>by cases hp
 |a::P,h,p,q,e,hp,hq,h1,h2=>by
  rw[fCq,fAq,nAq]at h;have inP:∀{r:List (List Int)},r∈P->e∈r.flatten->e∈P.flatten.flatten:=fun {r} hr hr'=>by
   obtain⟨l,hl,hel⟩:=mFq.mp hr';exact mFq.mpr ⟨l,mFq.mpr ⟨r,hr,hl⟩,hel⟩
  rcases Rl.mp hp with e1|e1
  .rcases Rl.mp hq with e2|e2
   .rw [e1,e2]
   .rw [e1]at h1;exact absurd rfl (h.2.2 e h1 e (inP e2 h2))
  .rcases Rl.mp hq with e2|e2
   .rw [e2]at h2;exact absurd rfl (h.2.2 e h2 e (inP e1 h1))
   .exact za h.2.1 e1 e2 h1 h2
theorem getD_mem{p:List (List Int)}{k:Nat}{e:Int}(h:e∈p.getD k []):p.getD k []∈p:=by
 rw[gDq]at h ⊢;cases q:p[k]? with
 |none=>rw[q]at h;cases h
 |some r=>exact mGq q
end
end K11
--ZQ3 --ZQ4 --ZQ5 --ZQ6 --ZQ8 --ZQ9 --ZQB --ZQC --ZQD --ZQE --ZQF --ZQG
namespace K17
open PySem L2 Mr Z Xe Zl
def stp(s:List (List Int)×List (List Int)) (e:Int):List (List Int)×List (List Int):=match s.1.find? fun t=>decide (-e∈t) with
 |some t=>(s.1.erase t,s.2++[t])
 |none=>s
theorem Ji{L:List (List Int)}(hn:L.flatten.Nodup) {i j:Nat}{r s:List Int}{e:Int}(hi:L[i]?=some r) (hj:L[j]?=some s) (h1:e∈r) (h2:e∈s):i=j:=same_place hn hi hj h1 h2
end K17
--ZQ3 --ZQ4 --ZQ5 --ZQ6 --ZQ8 --ZQ9 --ZQB --ZQC --ZQD --ZQE --ZQF --ZQG
namespace K17
open PySem L2 Mr Z Xe Zl
theorem uZ{L M:List (List Int)}(h:L.Perm M):L.flatten.Perm M.flatten:=by
 induction h with
 |nil=>exact .refl _
 |cons a _ ih=>rw[fCq,fCq];exact ih.append_left a
 |swap a b l =>
  rw[fCq,fCq,fCq,fCq,←Rn,←Rn];exact Sb.append_right _
 |trans _ _ h1 h2=>exact h1.trans h2
end K17
--ZQ3 --ZQ4 --ZQ5 --ZQ6 --ZQ8 --ZQ9 --ZQB --ZQC --ZQD --ZQE --ZQF --ZQG
namespace K17
open PySem L2 Mr Z Xe Zl
section
variable {v0 v1:Option AV}
abbrev oG(G:List (List (List Int))):AV:=.ow (G.map fun p=>.sh (dM p))
end
end K17
namespace K17
open PySem L2 Mr Z Xe Zl
open K51 (eJ Ps Pc)
theorem tI:∀{A:List (List (List Int))},(∀p∈A,([]:List Int)∈p->p=[[]])->A.flatten.count []=A.countP fun p=>decide (p=[[]])
 | [],_=>rfl
 |p::A,h=>by
  rw[fCq,cAq,tI fun q hq=>h q (mCo _ hq),SZ]
  by_cases c:([]:List Int)∈p
  .rw [h p (Rq ..) c];simp;lia
  .rw [Ve.mpr c,if_neg (by
    simp only[decide_eq_true_eq];intro e;exact c (by rw[e];simp))]
   lia
theorem zW{a b:List Int}(h:∀y,y∈a↔y∈b) (ha:a≠[]):∃m,a.min?=some m/\b.min?=some m/\m∈a:=by
 cases e:a.min? with
 |none=>exact absurd (List.min?_eq_none_iff.mp e) ha
 |some m =>
  have q:=(UU (xs:=a)).mp e;exact⟨m,rfl,(UU (xs:=b)).mpr ⟨(h m).mp q.1,fun x hx=>q.2 x ((h x).mpr hx)⟩,q.1⟩
theorem zG:∀{A:List (List (List Int))},A.flatten.flatten.Nodup->(∀p∈A,p.flatten≠[])->(A.map fun p=>p.flatten.min?).Nodup
 | [],_,_=>R7
 |p::A,h,hne=>by
  rw[fCq,fAq,nAq]at h;rw[Ru];refine Rp.mpr ⟨fun m=>?_,zG h.2.1 fun q hq=>hne q (mCo _ hq)⟩
  obtain⟨q,hq,e⟩:=mMq.mp m;obtain⟨a,h1,_,h3⟩:=zW (fun _=>Iff.rfl) (hne p (Rq ..))
  rw[h1]at e;have:=((UU (xs:=q.flatten)).mp e).1;obtain⟨r,hr,har⟩:=mFq.mp this;exact h.2.2 a h3 a (mFq.mpr ⟨r,mFq.mpr ⟨q,hq,hr⟩,har⟩) rfl
structure Bp (A:List (List (List Int))):Prop where
 nd:A.flatten.flatten.Nodup
 ne:∀p∈A,p≠[]
 ba:∀p∈A,([]:List Int)∈p->p=[[]]
theorem FL{l m:List (List Int)}(h:l.Sublist m):l.flatten.Sublist m.flatten:=by
 induction h with
 |slnil=>exact .refl _
 |cons a _ ih=>rw[fCq];exact ih.trans (Vm ..)
 |cons_cons a _ ih=>rw[fCq,fCq];exact(S5.refl a).append ih
theorem BL{A:List (List (List Int))}(h:A.flatten.flatten.Nodup) (f:List (List Int)->Bool):(A.filter f).flatten.flatten.Nodup:=by
 rw[VR]at h ⊢;exact h.sublist (FL (Sr.map _))
theorem Bp.fne{A:List (List (List Int))}(h:Bp A) {p:List (List Int)}(hp:p∈A) (hb:p≠[[]]):p.flatten≠[]:=fun z=>by
 cases p with
 |nil=>exact h.ne _ hp rfl
 |cons a p =>
  rw[fCq]at z;have:a=[]:=(TM.mp z).1;subst this;exact hb (h.ba _ hp (Rq ..))
theorem Oi{A B:List (List (List Int))}(hA:Bp A) (hB:Bp B) (hs:∀x,x∈A.flatten.flatten->x∈B.flatten.flatten) (sh:∀p∈A,∀q∈B,∀x,x∈p.flatten->x∈q.flatten->∀y,y∈p.flatten↔y∈q.flatten) {k:Option Int}(hk:k∈(A.filter fun p=>!decide (p=[[]])).map fun p=>p.flatten.min?):k∈(B.filter fun p=>!decide (p=[[]])).map fun p=>p.flatten.min?:=by
 obtain⟨p,hp,e⟩:=mMq.mp hk;obtain⟨hp,hb⟩:=RP.mp hp;have hb':p≠[[]]:=by simpa using hb
 obtain⟨m,e1,_,hm⟩:=zW (fun _=>Iff.rfl) (hA.fne hp hb')
 obtain⟨r,hr,hmr⟩:=mFq.mp hm;obtain⟨r',hr',hmr'⟩:=mFq.mp (hs m (mFq.mpr ⟨r,mFq.mpr ⟨p,hp,hr⟩,hmr⟩));obtain⟨q,hq,hrq⟩:=mFq.mp hr';have hmq:m∈q.flatten:=mFq.mpr ⟨r',hrq,hmr'⟩;obtain⟨m',e2,e3,_⟩:=zW (sh p hp q hq m hm hmq) (hA.fne hp hb');rw[←e];refine mMq.mpr ⟨q,RP.mpr ⟨hq,?_⟩,by rw[e2,e3]⟩
 have:q≠[[]]:=fun z=>by rw[z]at hmq;simp at hmq
 simpa using this
theorem Do{A B:List (List (List Int))}(hA:Bp A) (hB:Bp B) (hs:∀x,x∈A.flatten.flatten↔x∈B.flatten.flatten) (sh:∀p∈A,∀q∈B,∀x,x∈p.flatten->x∈q.flatten->∀y,y∈p.flatten↔y∈q.flatten) (hc:A.flatten.count []=B.flatten.count []):A.length=B.length:=by
 have k1:=zG (BL hA.nd fun p=>!decide (p=[[]])) fun p hp=>hA.fne (RP.mp hp).1 (by simpa using (RP.mp hp).2)
 have k2:=zG (BL hB.nd fun p=>!decide (p=[[]])) fun p hp=>hB.fne (RP.mp hp).1 (by simpa using (RP.mp hp).2)
 have pm:=((Si k1 k2).mpr fun k=>⟨Oi hA hB (fun x=>(hs x).mp) sh,Oi hB hA (fun x=>(hs x).mpr) fun p hp q hq x h1 h2 y=>(sh q hq p hp x h2 h1 y).symm⟩).length_eq
 rw[lMq,lMq,←R8,←R8]at pm;rw[tI hA.ba,tI hB.ba]at hc;have l1:=SG (l:=A) fun p=>decide (p=[[]])
 have l2:=SG (l:=B) fun p=>decide (p=[[]])
 have f:(fun p:List (List Int)=>!decide (p=[[]]))=fun p=>decide ¬ (decide (p=[[]])=true):=by
  funext p
  by_cases c:p=[[]] <;> simp[c]
 rw[f]at pm;lia
abbrev cls(M:List (List Int)) (PS:List (List Nat)):List (List (List Int)):=PS.map fun ps=>ps.map fun k=>M.getD k []
section
variable {M:List (List Int)}{kn:List Nat}{PS:List (List Nat)}
theorem Nn{S:Int->Prop}(hm:K51.Mp M) (hneg:∀x,S x->S (-x)) (hrow:∀r∈M,∀x∈r,∀y∈r,S x->S y) {a b:Nat}(h:eJ M a b) (ha:∀x∈M.getD a [],S x):∀y∈M.getD b [],S y:=by
 induction h with
 |base=>exact ha
 | @step k r e _ h1 h2 ih =>
  intro y hy;have hD:M.getD k []=r:=by rw[gDq,h1];rfl
  have s1:=hneg e (ih e (by rw[hD];exact h2))
  have he:e∈M.flatten:=mFq.mpr ⟨r,mGq h1,h2⟩;obtain⟨r',hr',her'⟩:=hm.at (hm.hneg e he);have hD':M.getD (K51.plc M (-e)) []=r':=by rw[gDq,hr'];rfl
  rw[hD']at hy;exact hrow r' (mGq hr') _ her' y hy s1
theorem rD{ps:List Nat}{s:Nat}(hm:K51.Mp M) (pc:Pc M s ps) {x:Int}:x∈(ps.map fun k=>M.getD k []).flatten↔∃k,eJ M s k/\x∈M.getD k []:=by
 rw[mFq];constructor
 .rintro ⟨r,hr,hx⟩;obtain⟨k,hk,rfl⟩:=mMq.mp hr;exact⟨k,(pc.iff k).mp hk,hx⟩
 .rintro ⟨k,hk,hx⟩;exact⟨_,mMq.mpr ⟨k,(pc.iff k).mpr hk,rfl⟩,hx⟩
theorem MV{S:Int->Prop}{ps:List Nat}{s:Nat}(hm:K51.Mp M) (pc:Pc M s ps) (hneg:∀x,S x->S (-x)) (hrow:∀r∈M,∀x∈r,∀y∈r,S x->S y) {x:Int}(hx:x∈(ps.map fun k=>M.getD k []).flatten) (h:S x):∀y∈(ps.map fun k=>M.getD k []).flatten,S y:=by
 intro y hy;obtain⟨a,ha,hxa⟩:=(rD hm pc).mp hx;obtain⟨b,hb,hyb⟩:=(rD hm pc).mp hy;exact Nn hm hneg hrow ((ha.symm hm).trans hb) (fun z hz=>hrow _ (K11.getD_mem hxa) x hxa z hz h) y hyb
theorem Ia{ps:List Nat}{s:Nat}(hm:K51.Mp M) (pc:Pc M s ps) {x:Int}(hx:x∈(ps.map fun k=>M.getD k []).flatten):-x∈(ps.map fun k=>M.getD k []).flatten:=by
 obtain⟨k,hk,hxk⟩:=(rD hm pc).mp hx;have hr:M[k]?=some (M.getD k []):=by
  rw[gDq]at hxk ⊢;cases q:M[k]? with
  |none=>rw[q]at hxk;cases hxk
  |some r=>rfl
 obtain⟨r',hr',her'⟩:=hm.at (hm.hneg x (mFq.mpr ⟨_,mGq hr,hxk⟩));refine(rD hm pc).mpr ⟨_,.step hk hr hxk,?_⟩;rw[gDq,hr'];exact her'
theorem Jf{ps:List Nat}{s:Nat}(hm:K51.Mp M) (pc:Pc M s ps) {r:List Int}(hr:r∈M) {x y:Int}(hx:x∈r) (hy:y∈r) (h:x∈(ps.map fun k=>M.getD k []).flatten):y∈(ps.map fun k=>M.getD k []).flatten:=by
 obtain⟨t,ht,hxt⟩:=mFq.mp h;obtain⟨k,hk,rfl⟩:=mMq.mp ht;have h2:=K11.getD_mem hxt;obtain⟨i,hi⟩:=Rv.mp hr;obtain⟨j,hj⟩:=Rv.mp h2;have:=Ji hm.hn hi hj hx hxt;subst this;rw[hi]at hj;refine mFq.mpr ⟨_,ht,?_⟩;rw[←RD.inj hj];exact hy
theorem Mj(hm:K51.Mp M) (hp:Ps M M.length kn PS):Bp (cls M PS):=by
 have pm:=K12.qR hp;refine⟨(uZ pm).nodup_iff.mpr hm.hn,fun p h=>?_,fun p h hb=>?_⟩
 .obtain ⟨ps,hps,rfl⟩:=mMq.mp h;obtain⟨s,hs,pc⟩:=hp.pc ps hps;intro z;have m:s∈ps:=(pc.iff s).mpr .base;rw[List.map_eq_nil_iff.mp z]at m;cases m
 .obtain ⟨ps,hps,rfl⟩:=mMq.mp h;obtain⟨s,hs,pc⟩:=hp.pc ps hps;obtain⟨k,hk,ek⟩:=mMq.mp hb;have hk1:=pc.lt k hk;have hk2:M[k]?=some []:=by
   rw[gDq,gEg hk1]at ek;rw[gEg hk1];exact congrArg some ek
  have only:∀j,eJ M k j->j=k:=fun j hj=>by
   induction hj with
   |base=>rfl
   |step _ a b ih =>
    rw[ih,hk2]at a;cases a;cases b
  have all:∀j∈ps,j=k:=fun j hj=>only j ((((pc.iff k).mp hk).symm hm).trans ((pc.iff j).mp hj))
  have nd:=pc.nd;have e:ps=[k]:=by
   match ps,hk,all,nd with
   | [a],_,all,_=>rw[all a (by simp)]
   |a::b::l,_,all,nd=>exact absurd ((all a (by simp)).trans (all b (by simp)).symm) (fun z=>(Rp.mp nd).1 (by rw[z];simp))
  rw[e];show [M.getD k []]=[[]];rw[ek]
end
end K17
--ZQ3 --ZQ4 --ZQ5 --ZQ6 --ZQ8 --ZQ9 --ZQB --ZQC --ZQD --ZQE --ZQF
namespace K19
open PySem L2 Mr Z Xe Zl K15 K16
def nr(t:List Int):List Int:=t.reverse.map fun z=>-z
def mr(rs:List (List Int)):List (List Int):=dw ((rs.map List.reverse).map good)
end K19
--ZQ3 --ZQ4 --ZQ5 --ZQ6 --ZQ8 --ZQ9 --ZQB --ZQC --ZQD --ZQE --ZQF
namespace K19
open PySem L2 Mr Z Xe Zl K15 K16
end K19
--ZQ3 --ZQ4 --ZQ5 --ZQ6 --ZQ8 --ZQ9 --ZQB --ZQC --ZQD --ZQE --ZQF --ZQG
namespace K17
open PySem L2 Mr Z Xe Zl
open K15 (nx fw)
open K25 (Rt)
open K43 (vc rds)
open K51 (eJ Ps Pc)
theorem FT{A B:List (List Int)}(h:A.map aI=B.map aI):A=B:=by
 have:(A.map aI).map aA=(B.map aI).map aA:=by rw[h]
 rw[mPq,mPq]at this;have h2:A.map dI=B.map dI:=by
  rw[←mCq (f:=aA∘aI) fun r _=>aE r,←mCq (f:=aA∘aI) (l:=B) fun r _=>aE r]
  exact this
 have h3:(A.map dI).map nJ=(B.map dI).map nJ:=by rw[h2]
 rw[mPq,mPq]at h3;have idA:∀C:List (List Int),C.map (nJ∘dI)=C:=fun C=>(mCq fun r _=>iZ r).trans (TR _)
 rwa [idA,idA]at h3
section
variable {M N:List (List Int)}{S:Int->Prop}
theorem Mc{q:List (List Int)}(cn:K11.Cn q) (hneg:∀x,S x->S (-x)) (hrow:∀r∈q,∀x∈r,∀y∈r,S x->S y) {x:Int}(hx:x∈q.flatten) (h:S x):∀y∈q.flatten,S y:=by
 have up:∀k,k<q.length->∀x∈q.getD k [],S x->∀y∈q.getD 0 [],S y:=by
  intro k
  induction k using U0 with
  |_ k ih =>
   intro hk x hx h y hy
   by_cases c:0<k
   .obtain ⟨j,e,h1,h2,h3⟩:=cn.tr k c hk;have s:=hneg _ (hrow _ (K11.getD_mem hx) x hx _ h3 h);rw[Sm]at s;exact ih j h1 (by lia) e h2 s y hy
   .have:k=0:=by lia
    subst this;exact hrow _ (K11.getD_mem hx) x hx y hy h
 obtain⟨r,hr,hxr⟩:=mFq.mp hx;obtain⟨i,hi⟩:=Rv.mp hr;have hD:∀{i:Nat}{r:List Int},q[i]?=some r->q.getD i []=r:=fun h=>by rw[gDq,h];rfl
 have h0:=up i (gSq.mp hi).1 x (by rw[hD hi];exact hxr) h
 have down:∀k,k<q.length->∀y∈q.getD k [],S y:=by
  intro k
  induction k using U0 with
  |_ k ih =>
   intro hk y hy
   by_cases c:0<k
   .obtain ⟨j,e,h1,h2,h3⟩:=cn.tr k c hk;exact hrow _ (K11.getD_mem hy) _ h3 y hy (hneg e (ih j h1 (by lia) e h2))
   .have:k=0:=by lia
    subst this;exact h0 y hy
 intro y hy;obtain⟨t,ht,hyt⟩:=mFq.mp hy;obtain⟨j,hj⟩:=Rv.mp ht;exact down j (gSq.mp hj).1 y (by rw[hD hj];exact hyt)
theorem AH:∀rs:List (List Int),(rs.map good).count []=rs.count []
 | []=>rfl
 | []::rs=>by rw[Ru,yR,UY,UY,AH rs]
 | (x::r)::rs=>by
  have hg:good (x::r)≠[]:=fun q=>by
   have:=congrArg S6 q;rw[lW]at this;cases this
  rw[Ru,Uq hg,Uq (by simp),AH rs]
theorem xg{P:List (List (List Int))}(hn:P.flatten.flatten.Nodup) (cn:∀p∈P,K11.Cn p) (hm:Mp (dw (P.flatten.map good))) {kn:List Nat}{PS:List (List Nat)}(hp:Ps (dw (P.flatten.map good)) (dw (P.flatten.map good)).length kn PS):PS.length=P.length:=by
 have pm:=K12.qR hp;have fl:(dw (P.flatten.map good)).flatten.Perm P.flatten.flatten:=(dq (aV _)).trans (bI aY _);have pnd:∀p∈P,p.flatten.Nodup:=fun p h=>by
  rw[VR]at hn;exact hn.sublist (RE (mMq.mpr ⟨p,h,rfl⟩))
 have bB:Bp P:=⟨hn,fun p h=>(cn p h).ne,fun p h hb=>K11.Cg (cn p h) hb (pnd p h)⟩
 have rowM:∀r∈dw (P.flatten.map good),∃p∈P,∃t∈p,∀x,x∈r↔x∈t:=fun r hr=>by
  obtain⟨t,ht,rfl⟩:=mMq.mp ((aV _).mem_iff.mp hr);obtain⟨p,h1,h2⟩:=mFq.mp ht;exact⟨p,h1,t,h2,fun x=>(aY t).mem_iff⟩
 have:=Do (Mj (vc hm) hp) bB (fun x=>(uZ pm).mem_iff.trans fl.mem_iff) (fun p h q hq x hx hx' y=>by
  obtain⟨ps,hps,rfl⟩:=mMq.mp h;obtain⟨s,_,pc⟩:=hp.pc ps hps;refine⟨MV (S:=(· ∈ q.flatten)) (vc hm) pc (fun z hz=>(cn q hq).clo z hz) (fun r hr a ha b hb h=>?_) hx hx' y,Mc (S:=(· ∈ (ps.map fun k=>(dw (P.flatten.map good)).getD k []).flatten)) (cn q hq) (fun z hz=>Ia (vc hm) pc hz) (fun r hr a ha b hb h=>?_) hx' hx y⟩
  .obtain ⟨p',hp',t,ht,qq⟩:=rowM r hr;have:=K11.za hn hp' hq (mFq.mpr ⟨t,ht,(qq a).mp ha⟩) h;subst this;exact mFq.mpr ⟨t,ht,(qq b).mp hb⟩
  .exact Jf (vc hm) pc (r:=good r) ((aV _).mem_iff.mpr (mMq.mpr ⟨r,mFq.mpr ⟨q,hq,hr⟩,rfl⟩)) ((aY r).mem_iff.mpr ha) ((aY r).mem_iff.mpr hb) h) (by rw[pm.count_eq,(aV _).count_eq,AH])
 rwa [lMq]at this
end
end K17
--ZQ3 --ZQ4 --ZQ5 --ZQ6 --ZQ8 --ZQ9 --ZQB --ZQC --ZQD --ZQE --ZQF --ZQG
namespace K17
open PySem L2 Mr Z Xe Zl
open K43 (vc rds)
open K51 (eJ Ps Pc)
def tl:MS:=(ao (aC 2 (aM K13.BZ (ar (aM Zl.cR (ar (ay 1) aG)) aG)))
 (ao (aC 3 (kSc (dD bS (ae (af 2) ak))))
 (ao (aC 4 (kSc (aR mD (dD bS (ae (rOf (aM Zl.cR (ar (ay 2) aG))) ak)) (rC (.int 2)))))
 (ao (aC 5 (kSc (dD bS (ae (rOf (aM K15.f_L_lands (ar (ay 2) aG))) ak))))
 (ao (aC 6 (dg (iJ (ay 2)) [] cX (iM (eU 0))))
 (ao (aC 7 (aM K43.pD (ar (ay 6) aG)))
 (ao (jt (AQ (fJ (cD (dD nO (ae (af 7) (ae (rC (.ty "tuple")) ak))))) (cD (aR Dy (dD bS (ae (af 7) ak)) (rC (.int 5))))) (bw (kSc (rC (.bl false)))) bh)
 (ao (jt (fJ (cD (bE K13.cH (ae (rOf (Pz (ay 7) mS (jd (rC (.int 4))))) (ae (rOf (Jw (ar (ay 3) (ar (ay 4) (ar (ay 5) (ar (kSc (dD bS (ae (af 1) ak))) aG)))))) ak))))) (bw (kSc (rC (.bl false)))) bh)
 (ao (aC 8 (kSc (aR LW (af 7) (rC (.int 4)))))
 (ao (jt (AQ (fJ (cD (bE K13.cH (ae (af 8) (ae (aR mD (aR kX (aR pX (rC (.int 2)) (dD bS (ae (af 1) ak))) (aR jv (aR kX (af 3) (af 4)) (af 5))) (rC (.int 2))) ak))))) (cD (aR Kv (af 8) (rC (.int 0))))) (bw (kSc (rC (.bl false)))) bh)
 (ao (jt (cD (aR Dy (aR jv (aR kX (af 3) (af 4)) (af 5)) (aR kX (aR pX (rC (.int 2)) (dD bS (ae (af 1) ak))) (aR pX (rC (.int 2)) (af 8))))) (bw (kSc (rC (.bl false)))) bh)
 (ao (jt (AQ (fJ (cD (bE K13.cH (ae (bE K17.Cv (ae (af 6) ak)) (ae (af 8) ak))))) (fJ (cD (bE K13.cH (ae (af 6) (ae (af 2) ak)))))) (bw (kSc (rC (.bl false)))) bh)
 (ao (jt (fJ (cD (bE K13.cH (ae (rOf (aM K43.pD (ar (aM K15.cP (ar (ay 6) aG)) aG))) (ae (rOf (Jw (ar (ay 5) (ar (ay 4) (ar (ay 3) (ar (kSc (dD bS (ae (af 1) ak))) (ar (ay 8) aG))))))) ak))))) (bw (kSc (rC (.bl false)))) bh)
 (bw (kSc (uA (bE K13.cH (ae (rOf (aM K43.pD (ar (KJ K19.DU (ae (af 6) ak)) aG))) (ae (af 7) ak))) (bE K13.cH (ae (af 6) (ae (af 2) ak)))))))))))))))))))
def md:MS:=(ao (jt (cD (aR qA (aR ee (bE Zl.aB (ae (af 0) (ae (rC (.int 0)) ak))) (rC (.int 2))) (rC (.int 1)))) (aC 1 (aM K17.xS (ar (Pp (aM K16.f_L_any (ar (ay 0) aG)) (rC (.int 0))) aG))) bh) tl)
end K17
--ZQ3 --ZQ4 --ZQ5 --ZQ6 --ZQ8 --ZQ9 --ZQB --ZQC --ZQD --ZQE --ZQF --ZQG
namespace K44
open PySem L2 Mr Z Xe Zl
open K15 (nx fw jl Am Rd FX vy)
open K16 (fL oq oV rm)
open K18 (Ln nL)
open K43 (mJ)
open K51 (eJ Ps Pc)
theorem Fm(P:List (Int×Int)) (t:Int):(Z.getD (fL P) (.inl t)).isSome=decide (t∈P.map (·.1)):=by
 unfold Z.getD fL;rw[Ul,RZ,Vj,decide_eq_true_iff];constructor
 .rintro ⟨x,hx,q⟩;obtain⟨p,hp,rfl⟩:=mMq.mp hx;have:=RF.inj (of_decide_eq_true q);exact mMq.mpr ⟨p,hp,this⟩
 .intro h;obtain⟨p,hp,rfl⟩:=mMq.mp h;exact⟨_,mMq.mpr ⟨p,hp,rfl⟩,decide_eq_true rfl⟩
def fM(L:List (List Int)):List (Int×Int):=L.flatMap fun l=>l.map fun x=>(x,l.headD 0)
theorem lz(L:List (List Int)):(fM L).map (·.1)=L.flatten:=by
 induction L with
 |nil=>rfl
 |cons l L ih =>
  show (l.map (fun x=>(x,l.headD 0))++fM L).map (·.1)=l++L.flatten
  rw[mBq,ih,mPq];congr 1;exact TR _
theorem DQ(L:List (List Int)) (l:List Int):fM (L++[l])=fM L++l.map fun x=>(x,l.headD 0):=by
 unfold fM;rw[U9];simp
theorem vY{f:Int->Int}{e:Int}{l:List Int}(c:Cy f e l):l.headD 0=e:=by
 have h0:=c.at (i:=0) (by have:=c.len;lia)
 cases l with
 |nil=>have:=c.len;simp at this
 |cons a l=>exact RD.inj h0
def Q4(N:Nat):AS->Nat
 | [_,_,some (.owd kvs),_,_]=>N+1-kvs.length
 |_=>0
section
variable {rs:List (List Int)}
theorem EY(hm:Mp rs) {P:List (Int×Int)}{L0:List (List Int)}(hr:Rd (fw rs) rs.flatten (P.map (·.1)) L0) {e:Int}(heE:e∈rs.flatten) (he:e∉P.map (·.1)) {v0:Option AV}:∃l v4,Cy (fw rs) e l/\cv (cD (cY (af 4) (af 2))) mb_L_lands_0 100000 [v0,some (.sh (.fd (K51.gW (K51.aZ rs)))),some (.owd (fL P)),some (.sh (.int e)),some (.sh (.int e))]=some (.nx [v0,some (.sh (.fd (K51.gW (K51.aZ rs)))),some (.owd (fL (P++l.map fun x=>(x,e)))),some (.sh (.int e)),v4]):=by
 have one:=jl hm;obtain⟨l,cy,hle,hmin⟩:=one.cy heE;have hl:=hm.hl;have hvl:=Du _ _ hr.nd hr.sub;rw[lMq]at hvl;have ho:=hr.out cy he;have hst:∀n,Z.getD (K51.gW (K51.aZ rs)) (.inl (-(itr (fw rs) n e)))=some (.int (itr (fw rs) (n+1) e)):=fun n=>Am hm.hn (hm.hneg _ (one.itr_mem heE n))
 have ks:∀n,(P++(l.take n).map fun x=>(x,e)).map (·.1)=P.map (·.1)++l.take n:=fun n=>by
  rw[mBq,mPq];congr 1;exact TR _
 have key:=hZ (c:=cD (cY (af 4) (af 2))) (body:=mb_L_lands_0) (fun S=>∃n,n<=l.length/\S=[v0,some (.sh (.fd (K51.gW (K51.aZ rs)))),some (.owd (fL (P++(l.take n).map fun x=>(x,e)))),some (.sh (.int e)),some (.sh (.int (itr (fw rs) n e)))]) (Q4 (P.length+l.length)) (fun S=>∃v4,S=[v0,some (.sh (.fd (K51.gW (K51.aZ rs)))),some (.owd (fL (P++l.map fun x=>(x,e)))),some (.sh (.int e)),v4]) (by
  rintro S ⟨n,h2,rfl⟩;have hg:=Fm (P++(l.take n).map fun x=>(x,e)) (itr (fw rs) n e)
  rw[ks]at hg
  by_cases hn:n<l.length
  .have hat:=cy.at hn;have hnew:itr (fw rs) n e∉P.map (·.1)++l.take n:=fun m=>by
    rcases mAq.mp m with q|q
    .exact ho _ (mGq hat) q
    .have:=RC.sublist (Sa (n+1) l) cy.nd;rw[bz hat]at this;exact(nAq.mp this).2.2 _ q _ (by simp) rfl
   rw[decide_eq_false hnew]at hg;have hp:=oV (M:=P++(l.take n).map fun x=>(x,e)) (z:=itr (fw rs) n e) (x:=e) (by rw[ks];exact hnew)
   have e1:P++(l.take n).map (fun x=>(x,e))++[(itr (fw rs) n e,e)]=P++(l.take (n+1)).map fun x=>(x,e):=by rw[bz hat,mBq,Rn];rfl
   rw[e1]at hp;have hs:=hst n;have l1:(fL (P++(l.take n).map fun x=>(x,e))).length<cZ:=by rw[oq,lAq,lMq,lTq];show _<16777216;lia
   refine⟨true,[v0,some (.sh (.fd (K51.gW (K51.aZ rs)))),some (.owd (fL (P++(l.take n).map fun x=>(x,e)))),some (.sh (.int e)),some (.sh (.int (itr (fw rs) n e)))],?_,fun _=>⟨[v0,some (.sh (.fd (K51.gW (K51.aZ rs)))),some (.owd (fL (P++(l.take (n+1)).map fun x=>(x,e)))),some (.sh (.int e)),some (.sh (.int (itr (fw rs) (n+1) e)))],?_,⟨n+1,by lia,rfl⟩,?_⟩,fun q=>(nomatch q)⟩
   .simp_arith [hg]
   .simp_arith [mb_L_lands_0,l1,hp,hs]
   .show P.length+l.length+1-_<P.length+l.length+1-_;simp only[oq,lAq,lMq,lTq];lia
  .have en:n=l.length:=by lia
   subst en;have hb:=cy.back;rw[hb,RY]at hg ⊢;rw[decide_eq_true (mAq.mpr (.inr cy.self))]at hg;refine⟨false,[v0,some (.sh (.fd (K51.gW (K51.aZ rs)))),some (.owd (fL (P++l.map fun x=>(x,e)))),some (.sh (.int e)),some (.sh (.int e))],?_,fun q=>(nomatch q),fun _=>⟨_,rfl⟩⟩
   simp_arith [hg])
 obtain⟨S',ew,v4,rfl⟩:=key 100000 [v0,some (.sh (.fd (K51.gW (K51.aZ rs)))),some (.owd (fL P)),some (.sh (.int e)),some (.sh (.int e))] ⟨0,Sl _,by simp[itr]⟩ (by
  show P.length+l.length+1-_<100000;lia)
 exact⟨l,v4,cy,ew⟩
theorem lands_loop(hm:Mp rs):∃v3 v4 L,dE 3 mb_L_lands_1 (rs.flatten.map D.int) [some (.sh (dM rs)),some (.sh (.fd (K51.gW (K51.aZ rs)))),some (.owd []),none,none]=some (.nx [some (.sh (dM rs)),some (.sh (.fd (K51.gW (K51.aZ rs)))),some (.owd (fL (fM L))),v3,v4])/\pE (fw rs) rs.flatten L:=by
 have one:=jl hm;have key:=fk (x:=3) (body:=mb_L_lands_1) (fun i S=>∃L v3 v4,S=[some (.sh (dM rs)),some (.sh (.fd (K51.gW (K51.aZ rs)))),some (.owd (fL (fM L))),v3,v4]/\Rd (fw rs) rs.flatten L.flatten L/\∀j x,j<i->rs.flatten[j]?=some x->x∈L.flatten) (ds:=rs.flatten.map D.int) (S:=[some (.sh (dM rs)),some (.sh (.fd (K51.gW (K51.aZ rs)))),some (.owd []),none,none]) ⟨[],none,none,rfl,⟨by simp,rfl,R7,by simp,by simp⟩,fun j x h=>absurd h (Tb _)⟩ (by
  rintro i d S hd ⟨L,v3,v4,rfl,hr,hall⟩;rw[gMq]at hd;obtain⟨e,he,rfl⟩:=oMq.mp hd;have heE:e∈rs.flatten:=mGq he;have hg:=Fm (fM L) e;rw[lz]at hg
  by_cases c:e∈L.flatten
  .rw [decide_eq_true c]at hg;refine⟨[some (.sh (dM rs)),some (.sh (.fd (K51.gW (K51.aZ rs)))),some (.owd (fL (fM L))),some (.sh (.int e)),some (.sh (.int e))],?_,L,_,_,rfl,hr,fun j x hj hx=>?_⟩
   .have ew:cv (cD (cY (af 4) (af 2))) mb_L_lands_0 100000 [some (.sh (dM rs)),some (.sh (.fd (K51.gW (K51.aZ rs)))),some (.owd (fL (fM L))),some (.sh (.int e)),some (.sh (.int e))]=some (.nx [some (.sh (dM rs)),some (.sh (.fd (K51.gW (K51.aZ rs)))),some (.owd (fL (fM L))),some (.sh (.int e)),some (.sh (.int e))]):=by
     obtain⟨S',e1,e2⟩:=hZ (c:=cD (cY (af 4) (af 2))) (body:=mb_L_lands_0) (fun S=>S=[some (.sh (dM rs)),some (.sh (.fd (K51.gW (K51.aZ rs)))),some (.owd (fL (fM L))),some (.sh (.int e)),some (.sh (.int e))]) (fun _=>0) (fun S=>S=[some (.sh (dM rs)),some (.sh (.fd (K51.gW (K51.aZ rs)))),some (.owd (fL (fM L))),some (.sh (.int e)),some (.sh (.int e))]) (by
      rintro S rfl;refine⟨false,_,?_,fun q=>(nomatch q),fun _=>rfl⟩
      simp_arith [hg]) 100000 _ rfl (by decide)
     rw[e1,e2]
    simp_arith [mb_L_lands_1,ew]
   .rcases Sx.mp hj with q|rfl
    .exact hall j x q hx
    .rw [he]at hx;cases hx;exact c
  .have hr':Rd (fw rs) rs.flatten ((fM L).map (·.1)) L:=by rw[lz];exact hr
   obtain⟨l,v4',cy,ew⟩:=EY hm hr' heE (by rw[lz];exact c) (v0:=some (.sh (dM rs)))
   have hr2:=hr.add one cy heE c;have ef:L.flatten++l=(L++[l]).flatten:=by rw[fAq,Sf]
   rw[ef]at hr2;have en:fM L++l.map (fun x=>(x,e))=fM (L++[l]):=by rw[DQ,vY cy]
   rw[en]at ew;refine⟨[some (.sh (dM rs)),some (.sh (.fd (K51.gW (K51.aZ rs)))),some (.owd (fL (fM (L++[l])))),some (.sh (.int e)),v4'],?_,L++[l],_,_,rfl,hr2,fun j x hj hx=>?_⟩
   .simp_arith [mb_L_lands_1,ew]
   .rw [←ef];rcases Sx.mp hj with q|rfl
    .exact mAq.mpr (.inl (hall j x q hx))
    .rw [he]at hx;cases hx;exact mAq.mpr (.inr cy.self))
 obtain⟨S',e,L,v3,v4,rfl,hr,hall⟩:=key;refine⟨_,_,L,e,hr.orb fun x hx=>?_⟩
 obtain⟨j,hj⟩:=Rv.mp hx;exact hall j x (by rw[lMq];exact(gSq.mp hj).1) hj
theorem lands_ok(hm:Mp rs):∃L,pE (fw rs) rs.flatten L/\f_L_lands [dM rs]=some (.owd (fL (fM L))):=by
 obtain⟨v3,v4,L,e,ho⟩:=lands_loop hm;have nk:=vy hm;have kk:=FX rs;refine⟨L,ho,?_⟩;have q31:((3:Nat)≠1)=True:=by simp
 simp_arith [f_L_lands,mf_L_lands,nk,dM,q31,kk,e]
theorem Bv{f:Int->Int}{E:List Int}{L:List (List Int)}(o:pE f E L) {l:List Int}(hl:l∈L) {x:Int}(hx:x∈l):Z.getD (fL (fM L)) (.inl x)=some (.int (l.headD 0)):=by
 rw[rm];refine K15.jK ?_ (mMq.mpr ⟨(x,l.headD 0),SC.mpr ⟨l,hl,mMq.mpr ⟨x,hx,rfl⟩⟩,rfl⟩);rw[mPq];have h1:(fM L).map (((·.1):aN×Int->aN)∘fun p:Int×Int=>((RF p.1:aN),p.2))=((fM L).map (·.1)).map RF:=by rw[mPq];rfl
 rw[h1,lz,Rw,RW];exact(Rw.mp o.dj).imp fun h q=>h (RF.inj q)
theorem GX{f:Int->Int}{E:List Int}{L:List (List Int)}(o:pE f E L) {l l':List Int}(hl:l∈L) (hl':l'∈L) (h:l.headD 0=l'.headD 0):l=l':=by
 obtain⟨e,c⟩:=o.cy l hl;obtain⟨e',c'⟩:=o.cy l' hl';rw[vY c,vY c']at h;subst h;exact c.one c'
def sm(L:List (List Int)) (z:Int):Bool:=@decide (∃l∈L,z∈l/\-z∈l) (RQ _)
theorem D1{L:List (List Int)}{z:Int}:sm L z=true↔∃l∈L,z∈l/\-z∈l:=by
 unfold sm;exact @decide_eq_true_iff _ (RQ _)
theorem K2(hm:Mp rs) {L:List (List Int)}(o:pE (fw rs) rs.flatten L) {z:Int}(hz:z∈rs.flatten):∃a b:Int,Z.getD (fL (fM L)) (.inl z)=some (.int a)/\Z.getD (fL (fM L)) (.inl (-z))=some (.int b)/\decide (a=b)=sm L z:=by
 obtain⟨l,hl,h1⟩:=mFq.mp ((o.all z).mpr hz);obtain⟨l',hl',h2⟩:=mFq.mp ((o.all (-z)).mpr (hm.hneg z hz));refine⟨_,_,Bv o hl h1,Bv o hl' h2,?_⟩;rw[RZ,D1,decide_eq_true_iff];constructor
 .intro h;have:=GX o hl hl' h;subst this;exact⟨l,hl,h1,h2⟩
 .rintro ⟨m,hm',m1,m2⟩;rw[K25.fE o.dj hl hm' h1 m1,K25.fE o.dj hl' hm' h2 m2]
theorem xu(hm:Mp rs) {L F:List (List Int)}(o:pE (fw rs) rs.flatten L) (e:K15.cP [dM rs]=some (.ow (F.map aI))) {z:Int}:sm L z=true↔∃r∈F,z∈r/\-z∈r:=by
 obtain⟨L',o',e'⟩:=K15.lands_ok hm;rw[e]at e';have q:=K17.FT (AV.ow.inj (RD.inj e'));subst q;have pm:=pE.perm (jl hm) o o';rw[D1];constructor
 .rintro ⟨l,hl,h1,h2⟩;obtain⟨m,hm',q⟩:=mMq.mp (pm.mem_iff.mp (mMq.mpr ⟨l,hl,rfl⟩));exact⟨good m,(aV _).mem_iff.mpr (mMq.mpr ⟨m,RB _ hm',rfl⟩),by rw[q];exact⟨(aY l).mem_iff.mpr h1,(aY l).mem_iff.mpr h2⟩⟩
 .rintro ⟨r,hr,h1,h2⟩;obtain⟨m,hm',rfl⟩:=mMq.mp ((aV _).mem_iff.mp hr);rcases mAq.mp hm' with q|q
  .unfold K15.hU at q;obtain⟨_,_,rfl⟩:=mMq.mp q;cases h1
  .obtain ⟨l,hl,e⟩:=mMq.mp (pm.mem_iff.mpr (mMq.mpr ⟨m,q,rfl⟩));rw[←e]at h1 h2;exact⟨l,hl,(aY l).mem_iff.mp h1,(aY l).mem_iff.mp h2⟩
theorem Dd(hm:Mp rs) (gd:dw (rs.map good)=rs) (nz:∀e∈rs.flatten,e≠0) (hl:rs.length<=200) (h128:rs.flatten.length<=128) {L:List (List Int)}(o:pE (fw rs) rs.flatten L) {z:Int}(hz:z∈rs.flatten) (h:mJ rs z=true):sm L z=true:=by
 obtain⟨kn,PS,hp,_⟩:=K51.mv (K43.vc hm);obtain⟨F,g,e1,_,h1,_⟩:=K17.G0 hm gd nz hl h128 hz hp fun lt hB gB nB lB hpB=>K17.JZ _ rfl hB gB nB lB (by lia) hpB
 exact(xu hm o e1).mpr (h1 h)
theorem DC(hm:Mp rs) (gd:dw (rs.map good)=rs) (nz:∀e∈rs.flatten,e≠0) (hl:rs.length<=200) (h128:rs.flatten.length<=128) {L:List (List Int)}(o:pE (fw rs) rs.flatten L) {LL:List (List Int)}{u:Nat}(ln:Ln rs LL) (bal:nL rs LL+rs.length=u+2) (hu:rs.flatten.length=2*u) (one:∀{kn:List Nat}{PS:List (List Nat)},Ps rs rs.length kn PS->PS.length=1) {z:Int}(hz:z∈rs.flatten) (h:sm L z=true):mJ rs z=true:=by
 obtain⟨kn,PS,hp,_⟩:=K51.mv (K43.vc hm);obtain⟨F,g,e1,eq,_,h2⟩:=K17.G0 hm gd nz hl h128 hz hp fun lt hB gB nB lB hpB=>K17.JZ _ rfl hB gB nB lB (by lia) hpB
 obtain⟨G,f1,lG⟩:=ln.lands hm;rw[e1]at f1;have q:=K17.FT (AV.ow.inj (RD.inj f1));subst q;have p1:=one hp;cases hb:mJ rs z with
 |true=>rfl
 |false =>
  have:=h2 ((xu hm o e1).mp h) hb;lia
end
end K44
--ZQ3 --ZQ4 --ZQ5 --ZQ6 --ZQ8 --ZQ9 --ZQB --ZQC --ZQD --ZQE --ZQF --ZQG
namespace K44
open PySem L2 Mr Z Xe Zl
open K15 (Rd kI zM zu AB)
open K16 (fL oq oV rm pm Cc zL Fv Cb J2 qb)
open K18 (Ln nL)
theorem K5(c:Int) {n:Nat}(hn:n<=30):∃nm,dG [.int c,.int (n:Int)]=some (aI nm)/\nm.length=n/\nm.Nodup/\∀z∈nm,1<=z:=by
 have key:=fk (x:=4) (body:=fW) (fun i S=>∃c' last l v4,S=[some (.sh (.int c')),some (.sh (.int (n:Int))),some (.sh (.int last)),some (aI l),v4]/\l.length=i/\l.Nodup/\(∀z∈l,1<=z/\z<=last)/\0<=last) (ds:=bP 0 n) (S:=[some (.sh (.int c)),some (.sh (.int (n:Int))),some (.sh (.int 0)),some (.ow []),none])
  ⟨c,0,[],none,rfl,rfl,R7,fun z hz=>(by cases hz),by decide⟩ (by
  rintro i d S hd ⟨c',last,l,v4,rfl,hl,hnd,hr,h0⟩;have hi:i<n:=by
   have:=(gSq.mp hd).1
   rwa [bO]at this
  have m1:=cV (i:=c') (j:=10 ^ 57) (by decide)
  have m2:=Sn c' (b:=10 ^ 57) (by decide)
  have d1:=Cb (i:=c') (j:=10 ^ 57) (by decide) (by decide +kernel)
  have hp:=J2;have l3:l.length<cZ:=by show _<16777216;lia
  generalize hx:last+1+c' % 10 ^ 57=x;have hx1:last+1<=x:=by lia
  have ap:l.map (fun n=>AV.sh (.int n))++[.sh (.int x)]=(l++[x]).map fun n=>.sh (.int n):=by rw[mBq];rfl
  refine⟨[some (.sh (.int (c' / 10 ^ 57))),some (.sh (.int (n:Int))),some (.sh (.int x)),some (aI (l++[x])),some (.sh d)],?_,c' / 10 ^ 57,x,l++[x],some (.sh d),rfl,by rw[lAq,hl];rfl,?_,?_,by lia⟩
  .simp_arith [fW,hp,m1,hx,d1,l3,ap]
  .rw [nAq];refine⟨hnd,by simp,fun a ha b hb e=>?_⟩
   rw[mSq.mp hb]at e;have:=hr a ha;lia
  .intro z hz;rcases mAq.mp hz with hz|hz
   .have:=hr z hz;exact⟨this.1,by lia⟩
   .rw [mSq.mp hz];exact⟨by lia,UO _⟩)
 obtain⟨S',e,c',last,l,v4,rfl,hl,hnd,hr,h0⟩:=key;rw[bO]at hl;have rg:=mn (n:=n) (by lia)
 refine⟨l,?_,hl,hnd,fun z hz=>(hr z hz).1⟩
 simp_arith [dG,lC,rg,e]
theorem ze(c:Int) {l:List Int}(hl:l.length<=60):∃d,fV [.int c,dI l]=some (aI d)/\d.Perm l:=by
 have key:=fk (x:=4) (body:=kH) (fun i S=>∃cell left found v4,S=[some (.sh (.int cell)),some (.sh (dI l)),some (aI left),some (aI found),v4]/\left.length+i=l.length/\found.length=i/\(found++left).Perm l) (ds:=bP 0 l.length) (S:=[some (.sh (.int c)),some (.sh (dI l)),some (aI l),some (.ow []),none])
  ⟨c,l,[],none,rfl,rfl,rfl,.refl _⟩ (by
  rintro i d S hd ⟨cell,l2,fo,v4,rfl,h2,h3,pm⟩;have hi:i<l.length:=by
   have:=(gSq.mp hd).1
   rwa [bO]at this
  have hpos:(0:Int)<((l2.length:Nat):Int):=by lia
  have m1:=cV (i:=cell) (j:=((l2.length:Nat):Int)) hpos;have b0:=Sn cell (b:=((l2.length:Nat):Int)) (by lia)
  have b1:=Sq cell hpos;obtain⟨k,hk⟩:∃k:Nat,cell % ((l2.length:Nat):Int)=(k:Int):=⟨(cell % ((l2.length:Nat):Int)).toNat,by lia⟩
  have kl:k<l2.length:=by lia
  have hx:l2[k]?=some (l2.getD k 0):=by rw[gDq,gEg kl];rfl
  have ce:=fun a=>K12.pP a kl
  generalize l2.getD k 0=x at hx ce;have hx':(l2.map fun n=>AV.sh (D.int n))[k]?=some (.sh (.int x)):=by rw[gMq,hx];rfl
  have c1:(0:Int)<=(k:Int):=by lia
  have c2:(k:Int)<((l2.length:Nat):Int):=by lia
  have c3:l2.length<=cZ:=by show _<=16777216;lia
  have he:=qb (fun n=>AV.sh (D.int n)) l2 k
  have hle:(l2.eraseIdx k).length=l2.length-1:=List.length_eraseIdx_of_lt kl;have d1:=kY (i:=cell) (j:=((l2.eraseIdx k).length:Int)+1) (by lia) (by rw[hle];lia)
  have tn:=Tv k;have lf:fo.length<cZ:=by show _<16777216;lia
  have ap:fo.map (fun n=>AV.sh (.int n))++[.sh (.int x)]=(fo++[x]).map fun n=>.sh (.int n):=by rw[mBq];rfl
  have s2:=aE l2;have s3:=aE (l2.eraseIdx k);refine⟨[some (.sh (.int (cell / (((l2.eraseIdx k).length:Int)+1)))),some (.sh (dI l)),some (aI (l2.eraseIdx k)),some (aI (fo++[x])),some (.sh d)],?_,_,_,_,_,rfl,by rw[hle];lia,by rw[lAq,h3];rfl,?_⟩
  .simp_arith [kH,s2,s3,dI,m1,hk,c1,c2,c3,and_self,tn,hx',he,lf,ap,d1]
  .refine TH.mpr fun a=>?_
   have:=TH.mp pm a;have:=ce a;simp only[cAq]at *;lia)
 obtain⟨S',e,cell,left,found,v4,rfl,h2,h3,pm⟩:=key;rw[bO]at h2;have:left=[]:=R9.mp (by lia)
 subst this;rw[aNq]at pm;have rg:=mn (n:=l.length) (by lia)
 have e3:((l.map D.int).map AV.sh)=l.map fun n=>AV.sh (.int n):=by rw[mPq];rfl
 refine⟨found,?_,pm⟩;simp -implicitDefEqProofs only [Z.Hi,Th,Ti,SX,SY,Sw,↓reduceIte,reduceCtorEq,dI]at e
 simp_arith [fV,tx,dI,rg,e3,e]
theorem C9(c:Int):∃cs,iD [.int c]=some (aI cs)/\cs.length=60:=by
 have key:=fk (x:=2) (body:=jr) (fun i S=>∃cell l v2,S=[some (.sh (.int cell)),some (aI l),v2]/\l.length=i) (ds:=bP 0 60) (S:=[some (.sh (.int c)),some (.ow []),none])
  ⟨c,[],none,rfl,rfl⟩ (by
  rintro i d S hd ⟨cell,l,v2,rfl,hl⟩;have hi:i<60:=by
   have:=(gSq.mp hd).1
   rwa [bO]at this
  have m1:=cV (i:=cell) (j:=8) (by decide)
  have d1:=kY (i:=cell) (j:=8) (by decide) (by decide)
  have l3:l.length<cZ:=by show _<16777216;lia
  have ap:l.map (fun n=>AV.sh (.int n))++[.sh (.int (cell % 8))]=(l++[cell % 8]).map fun n=>.sh (.int n):=by rw[mBq];rfl
  refine⟨[some (.sh (.int (cell / 8))),some (aI (l++[cell % 8])),some (.sh d)],?_,_,_,_,rfl,by rw[lAq,hl];rfl⟩
  simp_arith [jr,m1,d1,l3,ap])
 obtain⟨S',e,cell,l,v2,rfl,hl⟩:=key;rw[bO]at hl;have rg:sk [.int 60]=some (bP 0 60):=mn (n:=60) (by decide)
 exact⟨l,by simp_arith [iD,qM,rg,e],hl⟩
theorem JO:∀(l acc:List (Int×Int)),(acc.map (·.1)++l.map (·.1)).Nodup->l.foldl (fun m p=>jL m (.inl p.1) (.int p.2)) (fL acc)=fL (acc++l)
 | [],acc,_=>by rw[aNq];rfl
 |p::l,acc,h=>by
  rw[Ss];have hp:p.1∉acc.map (·.1):=fun q=>(nAq.mp h).2.2 p.1 q p.1 (by simp) rfl
  rw[oV hp,show (p.1,p.2)=p from rfl,JO l (acc++[p]) (by rw[mBq,Rn];exact h),Rn]
  rfl
theorem rK:∀{a b:List Int},a.length=b.length->(a.zip b).map (·.1)=a
 | [],b,_=>by simp
 |x::a,[],h=>by simp at h
 |x::a,y::b,h=>by
  rw[Vd,Ru,rK (by simpa using h)]
theorem NP{E d:List Int}(hE:E.Nodup) (h:E.length=d.length):dz E d=fL (E.zip d):=by
 unfold dz;have:=JO (E.zip d) [] (by rw[rK h];exact hE)
 exact this
def fl(P:List (Int×Int)) (x:Int):Int:=match Z.getD (fL P) (.inl x) with
 |some (.int y)=>y
 |_=>0
theorem B7{E d:List Int}(hE:E.Nodup) (h:E.length=d.length) {i:Nat}{x:Int}(hx:E[i]?=some x):∃y,d[i]?=some y/\Z.getD (fL (E.zip d)) (.inl x)=some (.int y)/\fl (E.zip d) x=y:=by
 have hi:=(gSq.mp hx).1;have hy:d[i]?=some d[i]:=gEg (by lia)
 have hm:(x,d[i])∈E.zip d:=mGq (T4.mpr ⟨hx,hy⟩);have g:Z.getD (fL (E.zip d)) (.inl x)=some (.int d[i]):=by
  rw[rm];refine K15.jK ?_ (mMq.mpr ⟨_,hm,rfl⟩);have h1:((E.zip d).map fun p=>((RF p.1:aN),p.2)).map (·.1)=E.map RF:=by
   rw[mPq,←rK h,mPq,rK h];rfl
  rw[h1,Rw,RW];exact(Rw.mp hE).imp fun h q=>h (RF.inj q)
 refine⟨_,hy,g,?_⟩;unfold fl;rw[g]
theorem EM{E d:List Int}(hE:E.Nodup) (pd:d.Perm E):xN (fl (E.zip d)) E:=by
 have hl:=pd.length_eq.symm;have nd:=pd.nodup_iff.mpr hE;refine⟨hE,fun e he=>?_,fun a ha b hb q=>?_⟩
 .obtain ⟨i,hi⟩:=Rv.mp he;obtain⟨y,h1,_,h2⟩:=B7 hE hl hi;rw[h2];exact pd.mem_iff.mp (mGq h1)
 .obtain ⟨i,hi⟩:=Rv.mp ha;obtain⟨j,hj⟩:=Rv.mp hb;obtain⟨y,h1,_,h2⟩:=B7 hE hl hi;obtain⟨y',h1',_,h2'⟩:=B7 hE hl hj;rw[h2,h2']at q;subst q;have:=(V8 (i:=i) (j:=j) (gSq.mp h1).1 nd).mp (by rw[h1,h1'])
  subst this;rw[hi]at hj;exact RD.inj hj
def QT(N:Nat):AS->Nat
 | [_,_,_,_,_,_,_,_,some (.ow l),_]=>N+1-l.length
 |_=>0
section
variable {E d:List Int}{v0 v1 v2 v3 v9:Option AV}
theorem HW(hE:E.Nodup) (pd:d.Perm E) (hl:E.length<=60) {e:Int}(he:e∈E) {v5 v6:Option AV}:∃l,Cy (fl (E.zip d)) e l/\l.length<=E.length/\cv (cD (aR Dy (fO (af 4) (aR zB (af 8) (qD gD (rC (.int 1))))) (af 7))) fK 100000 [v0,v1,v2,v3,some (.owd (fL (E.zip d))),v5,v6,some (.sh (.int e)),some (.ow [.sh (.int e)]),v9]=some (.nx [v0,v1,v2,v3,some (.owd (fL (E.zip d))),v5,v6,some (.sh (.int e)),some (aI l),v9]):=by
 have one:=EM hE pd;obtain⟨l,cy,hle,hmin⟩:=one.cy he;have hst:∀n,Z.getD (fL (E.zip d)) (.inl (itr (fl (E.zip d)) n e))=some (.int (itr (fl (E.zip d)) (n+1) e)):=fun n=>by
  obtain⟨i,hi⟩:=Rv.mp (one.itr_mem he n);obtain⟨y,_,h1,h2⟩:=B7 hE pd.length_eq.symm hi;rw[h1,←h2];rfl
 refine⟨l,cy,hle,?_⟩;have key:=hZ (c:=cD (aR Dy (fO (af 4) (aR zB (af 8) (qD gD (rC (.int 1))))) (af 7))) (body:=fK) (fun S=>∃n,n<l.length/\S=[v0,v1,v2,v3,some (.owd (fL (E.zip d))),v5,v6,some (.sh (.int e)),some (aI (l.take (n+1))),v9]) (QT l.length) (fun S=>S=[v0,v1,v2,v3,some (.owd (fL (E.zip d))),v5,v6,some (.sh (.int e)),some (aI l),v9]) (by
  rintro S ⟨n,hn,rfl⟩;have hat:=cy.at hn;have hs:=hst n;have sl:=aE (l.take (n+1));have at1:atI ((l.take (n+1)).map D.int) (-1)=some (.int (itr (fl (E.zip d)) n e)):=by
   rw[bz hat,mBq];exact GE _ _
  by_cases h2:n+1<l.length
  .have ne:=hmin (n+1) (by lia) h2
   have hat2:=cy.at h2;have l2:(l.take (n+1)).length<cZ:=by rw[lTq];show _<16777216;lia
   have ap:(l.take (n+1)).map (fun n=>AV.sh (.int n))++[.sh (.int (itr (fl (E.zip d)) (n+1) e))]=(l.take (n+1+1)).map fun n=>.sh (.int n):=by rw[bz hat2,mBq];rfl
   refine⟨true,[v0,v1,v2,v3,some (.owd (fL (E.zip d))),v5,v6,some (.sh (.int e)),some (aI (l.take (n+1))),v9],?_,fun _=>⟨[v0,v1,v2,v3,some (.owd (fL (E.zip d))),v5,v6,some (.sh (.int e)),some (aI (l.take (n+1+1))),v9],?_,⟨n+1,h2,rfl⟩,?_⟩,fun q=>(nomatch q)⟩
   .have nd:(!decide (itr (fl (E.zip d)) (n+1) e=e))=true:=by rw[decide_eq_false ne];rfl
    simp_arith [sl,dI,at1,hs,nd]
   .simp_arith [fK,sl,dI,at1,hs,l2,ap]
   .show l.length+1-_<l.length+1-_;simp only[lMq,lTq];lia
  .have en:n+1=l.length:=by lia
   have nd:(!decide (itr (fl (E.zip d)) (n+1) e=e))=false:=by rw[en,cy.back];simp
   refine⟨false,[v0,v1,v2,v3,some (.owd (fL (E.zip d))),v5,v6,some (.sh (.int e)),some (aI (l.take (n+1))),v9],?_,fun q=>(nomatch q),fun _=>by rw[en,RY]⟩
   simp_arith [sl,dI,at1,hs,nd])
 have h0:=cy.at (i:=0) (by have:=cy.len;lia)
 have ht:l.take 1=[e]:=by
  cases l with
  |nil=>simp at h0
  |cons a l =>
   have:a=e:=RD.inj h0;rw[this];rfl
 obtain⟨S',ew,rfl⟩:=key 100000 [v0,v1,v2,v3,some (.owd (fL (E.zip d))),v5,v6,some (.sh (.int e)),some (.ow [.sh (.int e)]),v9] ⟨0,by have:=cy.len;lia,by rw[SB,ht];rfl⟩ (by
  show l.length+1-1<100000;lia)
 exact ew
theorem DW{kn l:List Int}{v4 v5 v7 v8:Option AV}(hn:(kn++l).Nodup) (hl:kn.length+l.length<500000):∃v9',dE 9 ft (l.map D.int) [v0,v1,v2,v3,v4,v5,some (.owd (kI kn)),v7,v8,v9]=some (.nx [v0,v1,v2,v3,v4,v5,some (.owd (kI (kn++l))),v7,v8,v9']):=by
 have key:=fk (x:=9) (body:=ft) (fun i S=>∃v9',S=[v0,v1,v2,v3,v4,v5,some (.owd (kI (kn++l.take i))),v7,v8,v9']) (ds:=l.map D.int) (S:=[v0,v1,v2,v3,v4,v5,some (.owd (kI kn)),v7,v8,v9]) ⟨v9,by simp⟩ (by
  rintro i d S hd ⟨v6',rfl⟩;rw[gMq]at hd;obtain⟨e,he,rfl⟩:=oMq.mp hd;have hi:=(gSq.mp he).1;have hnew:e∉kn++l.take i:=fun m=>by
   have h2:(kn++l.take (i+1)).Nodup:=RC.sublist (S5.append (S5.refl kn) (Sa (i+1) l)) hn;rw[bz he,←Rn]at h2;exact(nAq.mp h2).2.2 e m e (by simp) rfl
  have hp:=zu hnew;rw[Rn,←bz he]at hp;have l1:(kI (kn++l.take i)).length<cZ:=by rw[AB,lAq,lTq];show _<16777216;lia
  refine⟨_,?_,some (.sh (.int e)),rfl⟩
  simp_arith [ft,l1,hp])
 obtain⟨S',e,v6',rfl⟩:=key;rw[lMq,RY]at e;exact⟨v6',e⟩
theorem D9(hE:E.Nodup) (pd:d.Perm E) (hl:E.length<=60):∃L v6 v7 v8 v9',dE 7 dX (E.map D.int) [v0,v1,v2,v3,some (.owd (fL (E.zip d))),some (.ow []),some (.owd []),none,none,none]=some (.nx [v0,v1,v2,v3,some (.owd (fL (E.zip d))),some (K13.oM L),v6,v7,v8,v9'])/\pE (fl (E.zip d)) E L/\L.length<=E.length:=by
 have one:=EM hE pd;have key:=fk (x:=7) (body:=dX) (fun i S=>∃kn L v7 v8 v9',S=[v0,v1,v2,v3,some (.owd (fL (E.zip d))),some (K13.oM L),some (.owd (kI kn)),v7,v8,v9']/\Rd (fl (E.zip d)) E kn L/\L.length<=i/\∀j x,j<i->E[j]?=some x->x∈kn) (ds:=E.map D.int) (S:=[v0,v1,v2,v3,some (.owd (fL (E.zip d))),some (.ow []),some (.owd []),none,none,none]) ⟨[],[],none,none,none,rfl,⟨by simp,rfl,R7,by simp,by simp⟩,Rk _,fun j x h=>absurd h (Tb _)⟩ (by
  rintro i dd S hd ⟨kn,L,v7,v8,v9',rfl,hr,hLl,hall⟩;rw[gMq]at hd;obtain⟨e,he,rfl⟩:=oMq.mp hd;have hi:=(gSq.mp he).1;have heE:e∈E:=mGq he;have hg:=zM kn e
  by_cases c:e∈kn
  .rw [decide_eq_true c]at hg;refine⟨[v0,v1,v2,v3,some (.owd (fL (E.zip d))),some (K13.oM L),some (.owd (kI kn)),some (.sh (.int e)),v8,v9'],?_,kn,L,_,_,_,rfl,hr,by lia,fun j x hj hx=>?_⟩
   .simp_arith [dX,hg]
   .rcases Sx.mp hj with q|rfl
    .exact hall j x q hx
    .rw [he]at hx;cases hx;exact c
  .rw [decide_eq_false c]at hg;obtain⟨l,cy,hle,ew⟩:=HW hE pd hl heE (v0:=v0) (v1:=v1) (v2:=v2) (v3:=v3) (v9:=v9') (v5:=some (K13.oM L)) (v6:=some (.owd (kI kn)));have hr2:=hr.add one cy heE c;have hkl:=Du _ _ hr.nd hr.sub;obtain⟨v9'',em⟩:=DW (kn:=kn) (l:=l) (v0:=v0) (v1:=v1) (v2:=v2) (v3:=v3) (v4:=some (.owd (fL (E.zip d)))) (v5:=some (K13.oM L)) (v7:=some (.sh (.int e))) (v8:=some (.sh (dI l))) (v9:=v9') hr2.nd (by lia)
   have sl:=aE l;have l1:L.length<cZ:=by show _<16777216;lia
   have ea:(L.map fun l=>AV.sh (dI l))++[.sh (dI l)]=(L++[l]).map fun l=>.sh (dI l):=by rw[mBq];rfl
   refine⟨[v0,v1,v2,v3,some (.owd (fL (E.zip d))),some (K13.oM (L++[l])),some (.owd (kI (kn++l))),some (.sh (.int e)),some (.sh (dI l)),v9''],?_,kn++l,L++[l],_,_,_,rfl,hr2,by rw[lAq,lSq];lia,fun j x hj hx=>?_⟩
   .unfold K13.oM at ew em ⊢;simp -implicitDefEqProofs only [Z.Hi,Th,Ti,SX,SY,Sw,↓reduceIte,reduceCtorEq,dI]at em
    simp_arith [dX,hg,ew,sl,dI,em,l1]
    simp -implicitDefEqProofs only [Z.Hi,Th,Ti,SX,SY,Sw,↓reduceIte,reduceCtorEq,dI]at ea
    first|rw[ea]|simp
   .rcases Sx.mp hj with q|rfl
    .exact mAq.mpr (.inl (hall j x q hx))
    .rw [he]at hx;cases hx;exact mAq.mpr (.inr cy.self))
 obtain⟨S',e,kn,L,v7,v8,v9',rfl,hr,hL,hall⟩:=key;rw[lMq]at hL;refine⟨L,_,_,_,_,e,hr.orb fun x hx=>?_,hL⟩
 obtain⟨j,hj⟩:=Rv.mp hx;exact hall j x (by rw[lMq];exact(gSq.mp hj).1) hj
end
theorem Ci{nm:List Int}(hn:nm.length<=30) {v0 v1 v3:Option AV}:∃v3',dE 3 fg (nm.map D.int) [v0,v1,some (.ow []),v3,none,none,none,none,none,none]=some (.nx [v0,v1,some (aI (pm nm)),v3',none,none,none,none,none,none]):=by
 have key:=fk (x:=3) (body:=fg) (fun i S=>∃v3',S=[v0,v1,some (aI (pm (nm.take i))),v3',none,none,none,none,none,none]) (ds:=nm.map D.int) (S:=[v0,v1,some (.ow []),v3,none,none,none,none,none,none]) ⟨v3,rfl⟩ (by
  rintro i d S hd ⟨v3',rfl⟩;rw[gMq]at hd;obtain⟨x,hx,rfl⟩:=oMq.mp hd;have l3:(pm (nm.take i)).length+2<=cZ:=by rw[zL,lTq];show _<=16777216;lia
  have ap:(pm (nm.take i)).map (fun n=>AV.sh (.int n))++[.sh (.int x),.sh (.int (-x))]=(pm (nm.take (i+1))).map fun n=>.sh (.int n):=by rw[bz hx,Cc,mBq];rfl
  refine⟨_,?_,some (.sh (.int x)),rfl⟩
  simp_arith [fg,l3,ap])
 obtain⟨S',e,v3',rfl⟩:=key;rw[lMq,RY]at e;exact⟨v3',e⟩
structure Mt (T:List (List Int)):Prop where
 nd:T.flatten.Nodup
 ng:∀z∈T.flatten, -z∈T.flatten
 nz:∀z∈T.flatten,z≠0
 le:T.flatten.length<=60
 lt:T.length<=64
def Pn(T:List (List Int)):Prop:=K11.Cn T/\∃LL u,Ln T LL/\nL T LL+T.length=u+2/\T.flatten.length=2*u
theorem A9(c:Int) {nm:List Int}(hn:nm.length<=30) (nd:nm.Nodup) (lo:∀z∈nm,1<=z):∃T,gq [.int c,dI nm]=some (K13.oM T)/\Mt T:=by
 have nE:(pm nm).Nodup:=K12.se nd lo;have gE:∀z∈pm nm, -z∈pm nm:=fun z hz=>Fv hz
 have lE:(pm nm).length<=60:=by rw[zL];lia
 have zE:∀z∈pm nm,z≠0:=fun z hz q=>by
  obtain⟨y,hy,c⟩:=SC.mp hz;have:=lo y hy;simp at c;lia
 obtain⟨v3,e0⟩:=Ci hn (v0:=some (.sh (.int c))) (v1:=some (.sh (dI nm))) (v3:=none);generalize pm nm=E at nE gE lE zE e0;obtain⟨d,ed,pd⟩:=ze c (l:=E) lE;have dzE:=NP nE pd.length_eq.symm;have dzo:=DG (ns:=E) (ms:=d) pd.length_eq.symm;rw[dzE]at dzo;obtain⟨L,v6,v7,v8,v9,e1,o,lL⟩:=D9 nE pd lE (v0:=some (.sh (.int c))) (v1:=some (.sh (dI nm))) (v2:=some (.sh (dI E))) (v3:=v3);have pL:L.flatten.Perm E:=(Si o.dj nE).mpr o.all;refine⟨L,?_,⟨o.dj,fun z hz=>pL.mem_iff.mpr (gE z (pL.mem_iff.mp hz)),fun z hz=>zE z (pL.mem_iff.mp hz),by rw[pL.length_eq];exact lE,by lia⟩⟩
 have sE:=aE E;have sd:=aE d;unfold K13.oM at e1 ⊢;simp -implicitDefEqProofs only [Z.Hi,Th,Ti,SX,SY,Sw,↓reduceIte,reduceCtorEq,dI]at e0 e1 ed
 simp_arith [gq,oA,dI,e0,PQ,sE,ed,sd,dzo,e1]
end K44
--ZQ3 --ZQ4 --ZQ5 --ZQ6 --ZQ8 --ZQ9 --ZQB --ZQC --ZQD --ZQE --ZQF --ZQG
namespace K43
open PySem L2 Mr Z Xe Zl K31
open K51 (eJ Ps Pc)
theorem HB{nm R:List Int}(h:∀x∈R,x∈nm):cE cX (kSc (aR (uL false) (af 0) (af 1))) [some (.sh (.list (nm.map D.int)))] (R.map D.int)=some ((R.map fun _=>D.bl true).map .sh):=by
 rw[Z.fi fun _=>AV.sh (.bl true)]
 .rw [mPq,mPq];rfl
 .intro d hd;obtain⟨x,hx,rfl⟩:=mMq.mp hd;have hi:=zX false x nm;rw[if_neg (by simp),decide_eq_true (h x hx)]at hi
  refine⟨[some (.sh (.int x)),some (.sh (.list (nm.map D.int)))],?_⟩
  simp_arith [hi]
theorem KN(R:List Int):yX [.list (R.map fun _=>D.bl true)]=some (.bl true):=by
 rw[JQ]
 induction R with
 |nil=>rfl
 |cons x R ih =>
  show (fF (D.bl true::R.map fun _=>D.bl true)).map _=_
  cases e:fF (R.map fun _=>D.bl true) with
  |none=>rw[e]at ih;cases ih
  |some bs =>
   rw[e]at ih;have:fF (D.bl true::R.map fun _=>D.bl true)=some (true::bs):=by
    show (fF (R.map fun _=>D.bl true)).map (true :: ·)=_
    rw[e];rfl
   rw[this];exact ih
end K43
--ZQ3 --ZQ4 --ZQ5 --ZQ6 --ZQ8 --ZQ9 --ZQB --ZQC --ZQD --ZQE --ZQF --ZQG
namespace K44
open PySem L2 Mr Z Xe Zl
open K15 (fw)
open K16 (fL oq)
open K18 (Ln nL)
open K31 (nT Nm Wm BS Jp Fb sX vg)
open K43 (mJ rds ug)
open K51 (Ps)
theorem xv{nm cs:List Int}{wild:Bool}(hc:cs.length<=63) (hn:Nm nm) (h30:nm.length<=30):∃T,K31.ez [dI cs,dI nm,.bl wild]=some (.ow (T.map aI))/\Mt T/\(wild=false->Pn T):=by
 obtain⟨T,left,e,cnt,tr,tp,tl,pl⟩:=Gm (nm:=nm) (cs:=cs) (wild:=wild) hc (by lia) (K31.qp hn)
 have hw:Wm nm T:=⟨⟨left,cnt⟩,tr,tp,tl⟩;have ng:∀z∈T.flatten, -z∈T.flatten:=fun z h=>hw.neg hn h
 refine⟨T,e,⟨hw.nodup hn,ng,fun z h=>?_,by have:=hw.le;lia,tl⟩,fun h=>⟨⟨fun q=>(by rw[q]at tp;cases tp),ng,tr⟩,?_⟩⟩
 .obtain ⟨y,hy,q⟩:=K31.Jh.mp (hw.sub h);have:=hn.lo y hy;lia
 .obtain ⟨LL,l1,l2⟩:=pl h;have pm:(T.flatten++nT left).Perm (nT nm):=TH.mpr fun a=>by rw[cAq];exact cnt a
  have:=pm.length_eq;rw[lAq,K31.oO,K31.oO]at this;exact⟨LL,nm.length-left.length,l1,by lia,by lia⟩
theorem K3(ns:List Int):∃T x,f_L_any [.scr ns]=some x/\aA x=dM T/\Mt T/\(cell ns 2 % 2=0->Pn T):=by
 have c0:aB [.scr ns,.int 0]=some (.sh (.int (cell ns 0))):=kC ns (by decide)
 have c1:aB [.scr ns,.int 1]=some (.sh (.int (cell ns 1))):=kC ns (by decide)
 have c2:aB [.scr ns,.int 2]=some (.sh (.int (cell ns 2))):=kC ns (by decide)
 have c3:aB [.scr ns,.int 3]=some (.sh (.int (cell ns 3))):=kC ns (by decide)
 obtain⟨nm0,e0,l0,n0,p0⟩:=K5 (cell ns 0) (n:=30) (Rk _);have e0:dG [.int (cell ns 0),.int 30]=some (aI nm0):=e0;obtain⟨nm,e1,pm⟩:=ze (cell ns 1) (l:=nm0) (by lia)
 have nn:nm.Nodup:=pm.nodup_iff.mpr n0;have np:∀z∈nm,1<=z:=fun z hz=>p0 z (pm.mem_iff.mp hz)
 have nl:nm.length=30:=by rw[pm.length_eq];exact l0
 have m2:=cV (i:=cell ns 2) (j:=2) (by decide)
 have s0:=aE nm0;have s1:=aE nm
 by_cases q:cell ns 2 % 2=1
 .have d2:=kY (i:=cell ns 2) (j:=2) (by decide) (by decide)
  have m31:=cV (i:=cell ns 2 / 2) (j:=31) (by decide)
  have b0:=Sn (cell ns 2 / 2) (b:=31) (by decide)
  have b1:=Sq (cell ns 2 / 2) (b:=31) (by decide)
  obtain⟨k,hk⟩:∃k:Nat,cell ns 2 / 2 % 31=(k:Int):=⟨(cell ns 2 / 2 % 31).toNat,by lia⟩
  have ct:=vX nm k (by lia)
  obtain⟨T,e2,mt⟩:=A9 (cell ns 3) (nm:=nm.take k) (by rw[lTq];lia) (nn.sublist (Sa ..)) fun z hz=>np z (Sv hz)
  have sT:=K13.GZ T;refine⟨T,K13.oM T,?_,sT,mt,fun h=>by lia⟩
  simp -implicitDefEqProofs only [Z.Hi,Th,Ti,SX,SY,Sw,↓reduceIte,reduceCtorEq,dI]at e1 e2
  simp_arith [f_L_any,mf_L_any,c0,c1,c2,c3,e0,s0,s1,dI,e1,m2,q,d2,m31,hk,jQ,ct,e2]
 .obtain ⟨cs,e3,l3⟩:=C9 (cell ns 3);obtain⟨T,e2,mt,pn⟩:=xv (nm:=nm) (cs:=cs) (wild:=false) (by lia) ⟨by lia,nn,np⟩ (by lia)
  have s3:=aE cs;have sT:aA (.ow (T.map aI))=dM T:=by rw[eK,mPq];exact congrArg D.list (mCq fun r _=>aE r)
  refine⟨T,.ow (T.map aI),?_,sT,mt,fun _=>pn rfl⟩
  simp -implicitDefEqProofs only [Z.Hi,Th,Ti,SX,SY,Sw,↓reduceIte,reduceCtorEq,dI]at e1 e2
  simp_arith [f_L_any,mf_L_any,c0,c1,c2,c3,e0,s0,s1,s3,dI,e1,m2,q,e3,e2]
theorem Gp{M L:List (List Int)}(hm:Mp M) (o:pE (fw M) M.flatten L) {R:List Int}(hR:∀z∈R,z∈M.flatten):cE (nY (cD (aR uE (af 0) (rC (.int 0)))) (cD (aR qA (fO (af 1) (af 0)) (fO (af 1) (qD gD (af 0)))))) (ay 0) [some (.sh (.dict (fL (fM L))))] (R.map D.int)=some ((R.filter fun z=>decide (0<z) && sm L z).map fun n=>.sh (.int n)):=by
 rw[Z.eY (fun d=>match d with|.int e=>decide (0<e) && sm L e|_=>false) (fun d=>.sh d)]
 .rw [Uw,mPq];rfl
 .intro d hd;obtain⟨e,he,rfl⟩:=mMq.mp hd;obtain⟨a,b,h1,h2,h3⟩:=K2 hm o (hR e he);refine⟨[some (.sh (.int e)),some (.sh (.dict (fL (fM L))))],?_,fun _=>⟨[some (.sh (.int e)),some (.sh (.dict (fL (fM L))))],?_⟩⟩
  .show _=some (decide (0<e) && sm L e,_)
   by_cases c:(0:Int)<e
   .rw [←h3,decide_eq_true c,Bool.true_and]
    simp_arith [h1,h2,c]
   .rw [decide_eq_false c,VN]
    simp_arith [c]
  .simp_arith []
theorem yt{M L:List (List Int)}(hm:Mp M) (o:pE (fw M) M.flatten L):bV L.flatten=bV M.flatten:=rR ((cJ _).trans ((Si o.dj hm.hn).mpr o.all)) (iQ _)
def tl:MS:=(ao (aC 6 (aM K43.gS (ar (aM K51.jM (ar (ay 5) aG)) aG)))
 (ao (aC 7 (aM K44.f_L_lands (ar (ay 5) aG)))
 (ao (aC 8 (dg (iJ (qo (af 7))) [7] (nY (cD (aR uE (af 0) (rC (.int 0)))) (cD (aR qA (fO (af 1) (af 0)) (fO (af 1) (qD gD (af 0)))))) (ay 0)))
 (ao (jt (fJ (cD (bE K31.fU (ae (af 6) ak)))) (bw (kSc (rC (.bl false)))) bh)
 (ao (jt (cD (aR qA (aR ee (af 3) (rC (.int 2))) (rC (.int 0)))) (bw (kSc (aR uJ (af 6) (af 8)))) bh)
 (bw (kSc (uA (aR uJ (af 6) (rOf (tS (eU 6)))) (dD yX (ae (rOf (dg (iJ (ay 6)) [8] cX (kSc (aR (uL false) (af 0) (af 1))))) ak))))))))))
theorem BK{T:List (List Int)}(mt:Mt T) {p:Int}(hp:p % 2=0->Pn T) {x:AV}(hx:aA x=dM (dw (T.map good))) {v0 v1 v2 v4:Option AV}:tl [v0,v1,v2,some (.sh (.int p)),v4,some x,none,none,none]=some (.rt (.sh (.bl true))):=by
 have hlt:=mt.lt;have hle:=mt.le;have pG:(dw (T.map good)).flatten.Perm T.flatten:=(dq (aV _)).trans (bI aY _);have lG:(dw (T.map good)).length=T.length:=by rw[dm,lMq]
 have tw:=nA mt.nd;have mp:Mp (dw (T.map good)):=⟨pG.nodup_iff.mpr mt.nd,by rw[pG.length_eq];lia,by lia,fun e he=>pG.mem_iff.mpr (mt.ng e (pG.mem_iff.mp he))⟩
 have nz:∀e∈(dw (T.map good)).flatten,e≠0:=fun e he=>mt.nz e (pG.mem_iff.mp he)
 have hn:(dw (T.map good)).flatten.length<=60:=by rw[pG.length_eq];lia
 have pl:p % 2=0->∃LL u,Ln (dw (T.map good)) LL/\nL (dw (T.map good)) LL+(dw (T.map good)).length=u+2/\(dw (T.map good)).flatten.length=2*u/\∀{kn:List Nat}{PS:List (List Nat)},Ps (dw (T.map good)) (dw (T.map good)).length kn PS->PS.length=1:=fun h=>by
  obtain⟨cn,LL,u,l1,l2,l3⟩:=hp h;refine⟨LL,u,l1.rows,by rw[K18.HE,lG];exact l2,by rw[pG.length_eq];exact l3,fun {kn PS} hps=>?_⟩
  have f1:[T].flatten=T:=Sf;have:=K17.xg (P:=[T]) (by rw[f1];exact mt.nd) (fun p hp=>by rw[mSq.mp hp];exact cn) (by rw[f1];exact mp) (kn:=kn) (PS:=PS) (by rw[f1];exact hps)
  exact this
 generalize dw (T.map good)=M at hx pG lG tw mp nz hn pl;have cM:=K12.Dw M;have lM':M.length<=cZ:=kx (by lia)
 have cp:K51.jM [dM M]=some (.ow (M.map aI)):=by
  simp_arith [K51.jM,K51.uT,cM,lM']
 have sM:(M.map aI).map aA=M.map dI:=by rw[mPq];exact mCq fun r _=>aE r
 have br:=ug mp;obtain⟨L,o,el⟩:=lands_ok mp;have bs:∀z∈M.flatten,mJ M z=true->sm L z=true:=fun z hz h=>Dd mp tw nz (by lia) (by lia) o hz h
 have kk:lQ (fL (fM L))=some L.flatten:=by
  have:=pR (fun p:Int×Int=>p.1) (fun p:Int×Int=>D.int p.2) (fM L)
  rw[lz]at this;exact this
 have sr:=yt mp o;have sub:∀z∈bV M.flatten,z∈M.flatten:=fun z hz=>(cJ _).mem_iff.mp hz
 have dc:=Gp mp o (R:=bV M.flatten) sub;have lS:(bV M.flatten).length<=cZ:=kx (by rw[(cJ _).length_eq];lia)
 have m2:=cV (i:=p) (j:=2) (by decide)
 have fR:(rds M).filter (mJ M)=(bV M.flatten).filter fun z=>decide (0<z) && mJ M z:=by
  unfold rds;rw[List.filter_filter];exact Vl fun z _=>Bool.and_comm ..
 rw[fR]at br;have lR:((bV M.flatten).filter fun z=>decide (0<z) && mJ M z).length<=M.flatten.length:=by
  have:=S7 (fun z=>decide (0<z) && mJ M z) (bV M.flatten)
  rw[(cJ _).length_eq]at this;exact this
 have wh:=vg (l:=(bV M.flatten).filter fun z=>decide (0<z) && mJ M z) (by lia)
 have sB:=aE ((bV M.flatten).filter fun z=>decide (0<z) && mJ M z)
 have sD:=aE ((bV M.flatten).filter fun z=>decide (0<z) && sm L z)
 by_cases q:p % 2=0
 .obtain ⟨LL,u,l1,l2,l3,one⟩:=pl q;have same:((bV M.flatten).filter fun z=>decide (0<z) && mJ M z)=(bV M.flatten).filter fun z=>decide (0<z) && sm L z:=Vl fun z hz=>by
   congr 1;rw[RZ];exact⟨bs z (sub z hz),DC mp tw nz (by lia) (by lia) o l1 l2 l3 one (sub z hz)⟩
  rw[same]at br wh sB;generalize ((bV M.flatten).filter fun z=>decide (0<z) && sm L z)=R at br wh sB dc sD
  have eq:=GY R R
  simp_arith [tl,hx,cp,sM,br,el,kk,sr,dc,lS,sB,wh,m2,q,sD,eq]
 .have sub2:∀z∈((bV M.flatten).filter fun z=>decide (0<z) && mJ M z),z∈(bV M.flatten).filter fun z=>decide (0<z) && sm L z:=fun z hz=>by
   obtain⟨h1,h2⟩:=RP.mp hz;rw[TJ]at h2;exact RP.mpr ⟨h1,by rw[TJ];exact⟨h2.1,bs z (sub z h1) h2.2⟩⟩
  have srt2:bV ((bV M.flatten).filter fun z=>decide (0<z) && mJ M z)=(bV M.flatten).filter fun z=>decide (0<z) && mJ M z:=(rR (.refl _) (RC.sublist Sr (iQ _))).symm
  generalize ((bV M.flatten).filter fun z=>decide (0<z) && mJ M z)=B at br wh sB sub2 srt2 lR
  generalize ((bV M.flatten).filter fun z=>decide (0<z) && sm L z)=R at dc sD sub2
  have ic:=K43.HB sub2;have ab:=K43.KN B;have lB:B.length<=cZ:=kx (by lia)
  have eq:=GY B B
  simp_arith [tl,hx,cp,sM,br,el,kk,sr,dc,lS,sB,wh,m2,q,sD,srt2,eq,dI,ic,ab,lB]
theorem Lh{ns:List Int}(hns:ns.length<=63):BF [.scr ns]=some (.sh (.bl true)):=by
 obtain⟨st,sh,a,b,h1,h1',h2,h2',h3,h4,en⟩:=BS (cell ns 0) (cell ns 1);have hnm:=Fb (b:=b) (n:=30) (by decide) h1 h2 h3 h4
 have nc:=sX (n:=30) en;have hnl:(Jp st sh a b 30).length=30:=by unfold Jp;rw[lMq,R6]
 generalize Jp st sh a b 30=nm at hnm nc hnl;have hcs:lg ns (some 3) (some 66)=(ns.drop 3).take 63:=D8 ns 3 66;have hl:((ns.drop 3).take 63).length<=63:=by rw[lTq];exact Nat.min_le_left ..
 generalize (ns.drop 3).take 63=cs at hcs hl;obtain⟨T,et,mt,pn⟩:=xv (nm:=nm) (cs:=cs) (wild:=decide (cell ns 2 % 2=1)) hl hnm (by lia)
 have sT:(T.map aI).map aA=T.map dI:=by rw[mPq];exact mCq fun r _=>aE r
 have c0:aB [.scr ns,.int 0]=some (.sh (.int (cell ns 0))):=kC ns (by decide)
 have c1:aB [.scr ns,.int 1]=some (.sh (.int (cell ns 1))):=kC ns (by decide)
 have c2:aB [.scr ns,.int 2]=some (.sh (.int (cell ns 2))):=kC ns (by decide)
 have r30:sk [.int 30]=some (bP 0 30):=mn (n:=30) (by decide)
 have l30:(bP 0 30).length<=cZ:=by rw[bO];show 30<=16777216;decide
 have sn:=aE nm;have m2:=cV (i:=cell ns 2) (j:=2) (by decide)
 have mlen:=cV (i:=((ns.length:Nat):Int)) (j:=2) (by decide)
 have igo:∀{W:List (List Int)},Mt W->aT [dM W]=some (.ow ((dw (W.map good)).map aI)):=fun {W} h=>jH (rs:=W) (fun r hr=>by
  have:=S5.length_le (RE hr);have:=h.le;lia) (kx (by have:=h.lt;lia))
 have sW:∀W:List (List Int),aA (.ow (W.map aI))=dM W:=fun W=>by rw[eK,mPq];exact congrArg D.list (mCq fun r _=>aE r)
 have ig:=igo mt;have lw:G7=(ao (aC 1 (kSc (bE Zl.aB (ae (af 0) (ae (rC (.int 0)) ak)))))
  (ao (aC 2 (kSc (bE Zl.aB (ae (af 0) (ae (rC (.int 1)) ak)))))
  (ao (aC 3 (kSc (bE Zl.aB (ae (af 0) (ae (rC (.int 2)) ak)))))
  (ao (aC 4 (dg (Nb (ae (rC (.int 30)) ak)) [1,2] cX (kSc (bE K31.eO (ae (af 1) (ae (af 2) (ae (af 0) ak)))))))
  (ao (aC 5 (aM Zl.aT (ar (aM K31.ez (ar (Fe (eU 0) (jd (rC (.int 3))) (jd (rC (.int 66)))) (ar (ay 4) (ar (kSc (aR qA (aR ee (af 3) (rC (.int 2))) (rC (.int 1)))) aG)))) aG)))
  (ao (jt (cD (aR qA (aR ee (dD bS (ae (af 0) ak)) (rC (.int 2))) (rC (.int 0)))) (aC 5 (aM Zl.aT (ar (aM K44.f_L_any (ar (ay 0) aG)) aG))) bh) tl)))))):=rfl
 by_cases q:((ns.length:Nat):Int) % 2=0
 .obtain ⟨T2,x,ea,sx,mt2,pn2⟩:=K3 ns;have ig2:=igo mt2;have fin:=fun v0 v1 v2 v4=>BK mt2 (p:=cell ns 2) pn2 (sW _) (v0:=v0) (v1:=v1) (v2:=v2) (v4:=v4)
  simp -implicitDefEqProofs only [Z.Hi,Th,Ti,SX,SY,Sw,↓reduceIte,reduceCtorEq,dI]at et
  simp_arith [BF,lw,c0,c1,c2,r30,l30,nc,jQ,hcs,sn,dI,m2,et,sT,ig,mlen,q,ea,sx,ig2,fin]
 .have fin:=fun v0 v1 v2 v4=>BK mt (p:=cell ns 2) (fun h=>pn (decide_eq_false (by lia))) (sW _) (v0:=v0) (v1:=v1) (v2:=v2) (v4:=v4)
  simp -implicitDefEqProofs only [Z.Hi,Th,Ti,SX,SY,Sw,↓reduceIte,reduceCtorEq,dI]at et
  simp_arith [BF,lw,c0,c1,c2,r30,l30,nc,jQ,hcs,sn,dI,m2,et,sT,ig,mlen,q,fin]
end K44
namespace K44
open PySem L2 Mr Z
theorem Kt{l:W.OpenLaw}{w:World}{K:W.Frag}{h:Heap}{mg:Str->Option Value}{fa:Addr}(X:K.In h) (G:h.Ns mainGlobals mg) (hfa:mg "law" = some (.ref fa))
  (a0:At K "told_ends" gw f0 fd0)
  (a1:At K "ends_of" ju f1 fd1)
  (a2:At K "roads_of" iu f2 fd2)
  (a3:At K "places_at" eX f3 fd3)
  (a4:At K "thinned" jE f4 fd4)
  (a5:At K "reached" jC f5 fd5)
  (a6:At K "without_roads" dC f6 fd6)
  (a7:At K "is_bridge" gA f7 fd7)
  (a8:At K "bridges" jw f8 fd8)
  (a9:At K "_law_cell" jx f9 fd9)
  (a10:At K "_law_name" kT f10 fd10)
  (a11:At K "_law_turns" gU f11 fd11)
  (a12:At K "_law_turned" iC f12 fd12)
  (a13:At K "_law_good" kZ f13 fd13)
  (a14:At K "_law_copy" kU f14 fd14)
  (a15:At K "_law_wholes" ij f15 fd15)
  (a16:At K "_law_follow" iy f16 fd16)
  (a17:At K "_law_lands" jN f17 fd17)
  (a18:At K "_law_gap_names" eP f18 fd18)
  (a19:At K "_law_dealt" hV f19 fd19)
  (a20:At K "_law_any_map" gC f20 fd20)
  (a21:At K "_law_eights" iE f21 fd21)
  (a22:At K "_law_any" nZ f22 fd22)
  (a23:W.nsIn K mainGlobals "law" = some (some (.ref f23))) (l23:K.lookup f23=some ⟨oc23,od23,.func (W.fnOf "law" "law" (gR mH) (gi mH) (aF mH) .none kV23 dc23 pm23 an23 cd23 ct23),sl23⟩) (c23:W.codeIn K cd23 "law" = true) (k23:W.keepIn K (.ref f23)=true)
  (z0:W.nsIn K mainGlobals "len" = some none) (z1:W.nsIn K mainGlobals "min" = some none) (z2:W.nsIn K mainGlobals "max" = some none) (z3:W.nsIn K mainGlobals "abs" = some none) (z4:W.nsIn K mainGlobals "all" = some none) (z5:W.nsIn K mainGlobals "sorted" = some none) (z6:W.nsIn K mainGlobals "isinstance" = some none) (z7:W.nsIn K mainGlobals "list" = some none) (z8:W.nsIn K mainGlobals "int" = some none) (z9:W.nsIn K mainGlobals "bool" = some none) (z10:W.nsIn K mainGlobals "str" = some none) (z11:W.nsIn K mainGlobals "dict" = some none) (z12:W.nsIn K mainGlobals "zip" = some none) (z13:W.nsIn K mainGlobals "enumerate" = some none) (z14:W.nsIn K mainGlobals "range" = some none) (z15:W.nsIn K mainGlobals "reversed" = some none) :
  ∃fd:FuncData,(∀(s:Shared) (v:Value),BindsTo s fd ⟨[v],[]⟩ [("_law_script", v)])/\∀base:Heap,K.In base->base.Ns mainGlobals mg->qT l.prog w K mg base Mk 5 fa fd ["_law_script"] (Bz K):=by
 have e:=hfa.symm.trans (W.mg_of X G a23);cases e;have B:Bt mg:=⟨W.mg_none_of X G z0,W.mg_none_of X G z1,W.mg_none_of X G z2,W.mg_none_of X G z3,W.mg_none_of X G z4,W.mg_none_of X G z5,W.mg_none_of X G z6,W.mg_none_of X G z7,W.mg_none_of X G z8,W.mg_none_of X G z9,W.mg_none_of X G z10,W.mg_none_of X G z11,W.mg_none_of X G z12,W.mg_none_of X G z13,W.mg_none_of X G z14,W.mg_none_of X G z15⟩;have D23:pK K mg "law" mH ["_law_script"] _ _:=⟨Ae l23 c23 k23,W.mg_of X G a23,b1 (Ae l23 c23 k23) fun _ _ _ _ _ _ _=>rfl⟩
 refine⟨W.fnOf "law" "law" (gR mH) (gi mH) (aF mH) .none kV23 dc23 pm23 an23 cd23 ct23,fun s v=>.of_eq rfl,fun base kb nb=>?_⟩
 have F0:=xa (P:=l.prog) (w:=w) (base:=base) (tq X G a0 (b1 a0.F fun _ _ _ _ _ _ _=>rfl)) B
 have F1:=A8 (tq X G a1 (b1 a1.F fun _ _ _ _ _ _ _=>rfl)) B F0
 have F2:=yw (tq X G a2 (b1 a2.F fun _ _ _ _ _ _ _=>rfl)) B F1
 have F3:=wj (P:=l.prog) (w:=w) (base:=base) (tq X G a3 (b1 a3.F fun _ _ _ _ _ _ _=>rfl)) B
 have F4:=AR (P:=l.prog) (w:=w) (base:=base) (tq X G a4 (b2 a4.F fun _ _ _ _ _ _ _ _=>rfl)) B
 have F5:=An (tq X G a5 (b2 a5.F fun _ _ _ _ _ _ _ _=>rfl)) B F3
 have F6:=qg (tq X G a6 (b2 a6.F fun _ _ _ _ _ _ _ _=>rfl)) B F4
 have F7:=vS (tq X G a7 (b2 a7.F fun _ _ _ _ _ _ _ _=>rfl)) B F3 F5 F6
 have F8:=zC (tq X G a8 (b1 a8.F fun _ _ _ _ _ _ _=>rfl)) B F2 F7
 have F9:=DP (P:=l.prog) (w:=w) (base:=base) (tq X G a9 (b2 a9.F fun _ _ _ _ _ _ _ _=>rfl)) B
 have F10:=CF (P:=l.prog) (w:=w) (base:=base) (tq X G a10 (b3 a10.F fun _ _ _ _ _ _ _ _ _=>rfl)) B
 have F11:=Aw (P:=l.prog) (w:=w) (base:=base) (tq X G a11 (b3 a11.F fun _ _ _ _ _ _ _ _ _=>rfl)) B
 have F12:=xX (P:=l.prog) (w:=w) (base:=base) (tq X G a12 (b1 a12.F fun _ _ _ _ _ _ _=>rfl)) B
 have F13:=CK (tq X G a13 (b1 a13.F fun _ _ _ _ _ _ _=>rfl)) B F12
 have F14:=De (P:=l.prog) (w:=w) (base:=base) (tq X G a14 (b1 a14.F fun _ _ _ _ _ _ _=>rfl)) B
 have F15:=yi (P:=l.prog) (w:=w) (base:=base) (tq X G a15 (b1 a15.F fun _ _ _ _ _ _ _=>rfl)) B
 have F16:=xA (P:=l.prog) (w:=w) (base:=base) (tq X G a16 (b1 a16.F fun _ _ _ _ _ _ _=>rfl)) B
 have F17:=AA (tq X G a17 (b1 a17.F fun _ _ _ _ _ _ _=>rfl)) B F16
 have F18:=tL (P:=l.prog) (w:=w) (base:=base) (tq X G a18 (b2 a18.F fun _ _ _ _ _ _ _ _=>rfl)) B
 have F19:=zR (P:=l.prog) (w:=w) (base:=base) (tq X G a19 (b2 a19.F fun _ _ _ _ _ _ _ _=>rfl)) B
 have F20:=wJ (tq X G a20 (b2 a20.F fun _ _ _ _ _ _ _ _=>rfl)) B F19
 have F21:=yJ (P:=l.prog) (w:=w) (base:=base) (tq X G a21 (b1 a21.F fun _ _ _ _ _ _ _=>rfl)) B
 have F22:=GK (tq X G a22 (b1 a22.F fun _ _ _ _ _ _ _=>rfl)) B F9 F19 F11 F18 F20 F21
 have F23:=Ma D23 B F9 F13 F8 F17 F10 F11 F14 F15 F22;exact F23.ok.imp (IY fun ns h=>Lh h)
theorem P2{l:W.OpenLaw}{q:Program}{loose:List Str}{XP:(Str->Option Value)->Heap->Prop}{YP:World->Heap->Prop}{d:DefRec}{K:Params->W.Frag}(hn:l.most=some 63) (hdf:d.params.defaults=[])
  (hY:∀(w:World) (h:Heap),YP w h->(K w.params).In h)
  (F:∀(w:World) (mg:Str->Option Value) (fa:Addr) (h:Heap),(K w.params).In h->h.Ns mainGlobals mg->mg d.name=some (.ref fa) ->
   ∃fd:FuncData,(∀(s:Shared) (u:Value),BindsTo s fd ⟨[u],[]⟩ [("_law_script", u)])/\∀base:Heap,(K w.params).In base->base.Ns mainGlobals mg->qT l.prog w (K w.params) mg base Mk 5 fa fd ["_law_script"] (Bz (K w.params))) :
  W.WalkO q loose XP YP l.row.toRowW d [] (fun f vs=>PySem.call f vs) :=
 L2.Iq (n:=63) (k:=5) (x := "_law_script") (CX:=fun _=>Mk) (sp:=fun w=>Bz (K w.params)) hn (by decide) hdf ⟨rfl,by decide,by decide⟩ hY F (fun _ _ a ns hl _ hS=>⟨a,ns,rfl,hS,hl,fun _=>rfl⟩) fun _ _ _ _ _ z=>z
end K44
structure PySem.W.Fast:Prop where(tw3331369855900826485 tw10317587916962310374 tw4821137623723608715 tw11984087483648393301 tw9861290178535477487 tw9868867906636880962 tw10238698252354917407 tw4320053091858307788 tw8498398247692805699 tw17837889720366954140 tw1765098013101446722 tw4515032082915807549 tw15576834381122289621 tw131684769176685878 tw7849835592984805040 tw11146556852264087368 tw2008492970209155569 tw5690858292730089292 tw17911323995720180004 tw11667970080017089927 tw2661931900029495966 tw17296300370685426111 tw16371109417254120310 tw16397505590510128858 tw3474687574031670301 tw14827005583502486395 tw11661615165366533768 tw6388978188234299677 tw14859632706749578704 tw17467727767435628627 tw7336292657860175783 tw3263823553204022929 tw3909334515649693716 tw14319217842338801417 tw6206167879571290802 tw12393057808646575054 tw12310399664881348921 tw4553446400263486289 tw9611851175518374364 tw11938660912156640180 tw12427862220213056200 tw335865542894054538 tw5853469608546838357 tw12948257126681681434 tw1223589577460697196 tw4686084763800498681 tw10799402388541305727 tw5919566402890015405 tw14581970814784578848 tw13099255337583322684 tw13666924822919580927 tw10645642252262338720 tw14279959209337714783 tw1637993561291552582 tw7347782591155606796 tw987241495122510137 tw9455412881367452978 tw13826466619680886702 tw5047483597753665549 tw3359740231845428231 tw971757407860798085 tw2059523286142346781 tw13664773576785136220 tw3829270755903794043 tw5769072226366863404 tw9491891373407399488 tw4864668890641200511 tw9849909216157901344 tw4242343555433586369 tw9560286173338212337 tw4260050712019696724 tw11044890437833790486 tw16177200631666589343 tw7919938260756864358 tw16495051682462372696 tw11451011863678908217 tw13636350163750851362 tw13545654050779499584 tw1262102067539073289 tw10852578960315205310 tw12571848100638367088 tw5063145916127325354 tw7683206346503198126 tw10316860261445819610 tw16993939292786604853 tw4733040072249625723 tw9118994088633013706 tw6171428589774428863 tw6237277418261652665 tw12751931025473290876 tw1085569263652179179 tw3583296786222845192 tw16429039430325303367 tw4094398666383887322 tw5731339330109084225 tw10824980269993679233 tw1565491620922801166 tw17404074856454739143 tw17648741588927215853 tw1337727179280445302 tw5343080003958397629 tw12780544665164713329 tw14913103364643322891 tw12001874534010531162 tw1724066918591212939 tw10888085395680190999:True)
open PySem PySem.W PyProof.Rows
set_option maxRecDepth 100000 in
set_option maxHeartbeats 0 in
theorem PySem.Challenge.cw_mapround_k44_whole_bridges_and_lands_holds : PySem.Challenge.rw_mapround_k44_whole_bridges_and_lands.Holds := by
 w_on;o_law;k_head;(case hw=>w_witness2)
 k_fill
 refine K44.P2 (l:=PySem.Challenge.rw_mapround_k44_whole_bridges_and_lands) rfl rfl (fun w h Y=>W.kIn_of Y) ?F
 case F =>
  intro w mg fa h KX G hmg;apply K44.Kt KX G hmg
  all_goals first|exact Mr.MW (by k_is) (by k_is) (by k_is) (by k_is)|exact Mr.atM_mk (by k_is) (by k_is) (by k_is) (by k_is) (by k_is)|k_is|kernel_rfl

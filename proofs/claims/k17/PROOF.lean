import PyProof.Rows.All
import Wide.All
import OpenK.AllK
import Wide.FinOn
import Lean
import PyProof.EqAt
import PyProof.EqKinds
import PyProof.TupleCall
import KE.KIntText
import PyProof.ConsumeWalk
import PySem.Challenge.RW_mapround_k17_whole_balance
set_option Elab.async false
set_option linter.all false
set_option bootstrap.genMatcherCode false
set_option genSizeOf false
set_option compiler.extract_closed false
set_option maxRecDepth 100000
set_option maxHeartbeats 4000000
open Option renaming bind_eq_some_iff->oBq,map_eq_some_iff->oMq
open List renaming getElem?_eq_some_iff->gSq,getElem?_eq_getElem->gEg,getD_eq_getElem?_getD->gDq,length_append->lAq,length_map->lMq,mem_append->mAq,mem_flatten->mFq,mem_map->mMq,getElem?_map->gMq,mem_of_getElem?->mGq,map_congr_left->mCq,getElem_mem->gRq,length_singleton->lSq,mem_singleton->mSq,length_take->lTq,nodup_append->nAq,append_nil->aNq,flatten_append->fAq,getElem?_append_right->gYq,getElem?_append_left->gZq,length_cons->lCq,map_map->mPq,map_append->mBq,mem_cons_of_mem->mCo,length_set->lZq,flatten_cons->fCq,count_append->cAq,mem_cons->Si,append_assoc->Sk,nodup_cons->Sm,map_cons->Sq,mem_cons_self->Ss,nodup_iff_pairwise_ne->Su,mem_iff_getElem?->Sw,size_toArray->Sx,Pairwise->Sy,mem_append_right->SB,length_drop->SE,sublist_flatten_of_mem->SG,getElem?_set_ne->SI,pairwise_append->SV,drop_eq_getElem_cons->SW,flatten_singleton->SZ,getElem?_eq_none->S0,mem_filter->S5,getElem?_set_self->S6,pairwise_map->S8,replicate->S9,take_append_drop->Ta,perm_ext_iff_of_nodup->Tb,nodup_nil->Tc,length_range->Te,take_length->Tg,countP_eq_length_filter->Ti,take_sublist->Tj,range->To,mem_of_mem_take->Tq,perm_append_comm->Ts,filter_cons_of_pos->Tt,mem_of_mem_drop->Tu,count_pos_iff->Tv,filter_cons_of_neg->Tz,getElem?_set->TB,length_eq_countP_add_countP->TF,length->TJ,mem_reverse->TK,countP_cons->TL,filter_sublist->TM,Perm->TN,length_eq_zero_iff->TQ,eraseIdx_cons_succ->TX,drop_sublist->TZ,length_nil->T4,nil_append->T5,mem_append_left->T7,Sublist->T9,drop_eq_nil_of_le->Ud,take_of_length_le->Ue,foldl_cons->Ug,getElem?_range->Ui,length_reverse->Uj,pairwise_iff_getElem->Ul,length_filter_le->Um,count_cons_of_ne->Up,pairwise_cons->Uq,map_replicate->Ur,mem_iff_getElem->Uu,ext_getElem?->Uw,getElem?_replicate->Ux,flatten_eq_nil_iff->Uy,reverse->Uz,drop_length->UA,find?_cons_of_neg->UB,append_of_mem->UC,count_cons->UF,any_cons->UH,take_add_one->UJ,length_eraseIdx->UK,count_cons_self->UL,findIdx_lt_length_of_exists->UM,take_succ_eq_append_getElem->UN,getElem?_take_of_lt->UO,idxOf_lt_length_iff->UP,eq_of_mem_replicate->UQ,mem_range->US,length_pos_iff->UU,not_mem_nil->UV,map_nil->UZ,getElem?_drop->U2,set_cons_zero->U3,find?_cons->U4,find?_cons_of_pos->U6,count_eq_zero_of_not_mem->U7,length_replicate->U9,map_id->Vb,getElem?_reverse->Vc,extract_eq_take_drop->Ve,reverse_append->Vf,getElem_idxOf->Vi,set_cons_succ->Vl,drop_zero->Vn,reverse_cons->Vo,getElem_drop->Vq,length_pos_of_mem->Vt,drop_of_length_le->Vu,append_eq_nil_iff->Vv,eraseIdxIfInBounds_toArray->Vw,cons_append->Vy,set_getElem_self->VB,nodup_range->VC,mem_flatMap->VD,min?_eq_some_iff->VE,findIdx_getElem->VG,dropLast_concat->VH,nodup_iff_count->VI,filter_map->VJ,filterMap_cons->VP,getElem_take->VX,map_take->VY,getElem?_zip_eq_some->VZ,foldl_append->V0,count_replicate_self->V1,countP_congr->V2,sublist_append_right->V3,mem_of_find?_eq_some->V4,reverse_perm->V5,length_erase_of_mem->V7,any_eq_true->V8,pairwise_mergeSort->Wa,of_mem_zip->Wf,not_of_lt_findIdx->Wh,pairwise_lt_range->Wj,set_append_right->Wl,eq_nil_or_concat->Wo,concat_eq_append->Wp,countP_mono_left->Wq,mem_of_mem_erase->Wr,length_dropLast->Ws,reverse_reverse->Wt,getElem_toArray->Ww,flatten_flatten->Wx,all_cons->Wy,mergeSort_perm->WA,replicate_succ->WB,flatMap_append->WC,perm_iff_count->WD,mem_filterMap->WG,filter_append->WH,count_eq_zero->WI,find?_eq_none->WJ,set_set->WL,cons->WQ,flatMap_cons->WR,find?_isSome->WS,isEmpty_cons->WT,drop_append->WV,getElem_map->WY,isEmpty_nil->WZ,countP_map->W3,find?_some->W4,drop_left->W7,take_left->W8,take_zero->W9,map_drop->Xg,any_map->Xi,flatten->Xj
open And renaming intro->Sf
open Nat renaming le_refl->Sg,ne_of_lt->SU,lt_of_lt_of_le->S7,zero_le->Tf,le_trans->TV,zero_add->T1,sub_self->T2,lt_succ_iff_lt_or_eq->T6,le_of_lt->T8,le_succ->Ua,not_lt_zero->Uc,mod_eq_of_lt->Uo,lt_irrefl->UG,lt_succ_of_lt->UI,ne_of_gt->UY,mod_self->U1,min_eq_left->U5,add_one_sub_one->Vg,lt_or_eq_of_le->Vh,lt_succ_self->Vx,add_assoc->Vz,le_add_right->VA,strongRecOn->VL,le_of_eq->VN,mod_lt->VQ,pos_of_ne_zero->VR,add_sub_cancel_left->V9,add_comm->Wb,add_zero->WK,le_of_lt_succ->WN,lt_trichotomy->WO,max_eq_right->WW,min_eq_right->WX,mod_add_mod->W2,zero_mod->Xk
open Array renaming getElem?_eq_getElem->Sh,length_toList->Sv,getElem?_toList->SJ,toList_append->SX,getElem_mem->Td,getElem?_eq_some_iff->Tr,toList_reverse->Uv,toList_push->Va,size_extract->Vj,toList_extract->VF,toList_setIfInBounds->VU,getElem?_extract->Wi,mem_toList_iff->Wu,toArray_toList->Wv,getD->Wz,Perm->W5,size_map->Xa
open PySem.F renaming plainAttrs_list->Sj,slot_list_append->SC,type_list_append->SD,slot_list_extend->Us,type_list_extend->Ut,slot_list_pop->UD,type_list_pop->UE,slot_list_index->Vm,slot_list_remove->V6,type_list_index->We
open PySem.Heap renaming lt_size->Sl,get?_push_of_some->Sn,get?_push_size->Tp,get?_update_ne->UW,size_update->Vd,get?_push_ne->Vr,SameBut->VM,get?_update_other->Wg
open Or renaming inr->So,inl->Sr
open Option renaming some->Sz,map_some->Uh,isSome_map->Vp,getD_none->WU,none->Xn
open Bool renaming false_ne_true->SN,eq_iff_iff->T3,and_eq_true->Uk,not_eq_true->UX,false_eq_true->Vk,or_eq_true->W1,false_and->W6,not_true->Xh
open Sum renaming inl->SY,inr->VW
open PyProof.Rows renaming boot_isinstance->S4,boot_list->TR,callWith_type1->TU,boot_sorted->UR,slot_tuple_getitem->UT,boot_tuple->U0,boot_min->Wm,boot_str->Wn,callWith_builtin1->W0,ne_dataH_same->Xc,boot_bool->Xl,boot_int->Xo,lt_int->Xr
open Classical renaming propDecidable->Th
open Int renaming neg_neg->Tw,emod_lt_of_pos->TC,emod_nonneg->TH,toNat_natCast->Ub,toNat->Vs,le_of_lt->VO,fdiv_eq_ediv_of_nonneg->VS,le_refl->VT,zero_add->WM,mul_le_mul->Xb
open PySem.Value renaming ref->TY,type->U8,int->Wk,isStrOf->Xd,str->Xf,isInt->Xm,none->Xp,bool->Xq
open Prod renaming ext->WE
noncomputable section
open Array renaming mem_of_getElem?->aQq
namespace L2
open PySem PySem.Spec PyProof.Rows
abbrev aX:=Sum Int Str
noncomputable def vX:aX->Value->Bool
 | .inl k,v=>Xm k v
 | .inr x,v=>Xd x v
noncomputable def QR(w:World):aX->Int
 | .inl k=>hashInt k
 | .inr x=>hashStr w x
theorem cR:∀{k:aX}{v:Value},vX k v=true->(∃i t,k=SY i/\v=Wk i t)∨(∃x t,k=VW x/\v=Xf x t)
 | .inl i,v,h=>by
  obtain⟨t,e⟩:=Value.isInt_shape (k:=i) (v:=v) h;exact .inl ⟨i,t,rfl,e⟩
 | .inr x,v,h=>by
  obtain⟨t,e⟩:=Value.isStrOf_shape (x:=x) (v:=v) h;exact .inr ⟨x,t,rfl,e⟩
theorem DM(i:Int) (t:Tok):vX (.inl i) (.int i t)=true:=by simp[vX,Xm]
theorem DP(x:Str) (t:Tok):vX (.inr x) (.str x t)=true:=by simp[vX,Xd]
theorem Lj(a b:Int):decide ((SY a:aX)=SY b)=(a == b):=by
 by_cases e:a=b
 .subst e;simp
 .have h:¬ (SY a:aX)=SY b:=fun q=>e (SY.inj q)
  rw[decide_eq_false h];exact(beq_eq_false_iff_ne.mpr e).symm
theorem LO(a b:Str):decide ((VW a:aX)=VW b)=decide (a=b):=by
 by_cases e:a=b
 .subst e;simp
 .have h:¬ (VW a:aX)=VW b:=fun q=>e (VW.inj q)
  rw[decide_eq_false h,decide_eq_false e]
theorem LB(a:Int) (b:Str):decide ((SY a:aX)=VW b)=false:=decide_eq_false (fun q=>nomatch q)
theorem Mg(a:Str) (b:Int):decide ((VW a:aX)=SY b)=false:=decide_eq_false (fun q=>nomatch q)
def cT(prog:Program) (w:World):PySem.KeyKind prog w aX where
 is:=vX
 hash:=QR w
 inj:=fun v a b ha hb=>by
  rcases cR ha with ⟨i,t,rfl,rfl⟩|⟨x,t,rfl,rfl⟩
  .rcases cR hb with ⟨j,u,rfl,e⟩|⟨y,u,rfl,e⟩
   .injection e with e1 _;rw[e1]
   .exact nomatch e
  .rcases cR hb with ⟨j,u,rfl,e⟩|⟨y,u,rfl,e⟩
   .exact nomatch e
   .injection e with e1 _;rw[e1]
 byValue:=fun k v h=>by
  rcases cR h with ⟨i,t,rfl,rfl⟩|⟨x,t,rfl,rfl⟩ <;> rfl
 pyHash:=fun hv h=>by
  rcases cR hv with ⟨i,t,rfl,rfl⟩|⟨x,t,rfl,rfl⟩
  .exact wpAny_pyHash_int h
  .exact wpAny_pyHash_str h
 eqBool:=fun hu hv h=>by
  rcases cR hu with ⟨i,t,rfl,rfl⟩|⟨x,t,rfl,rfl⟩
  .rcases cR hv with ⟨j,u,rfl,rfl⟩|⟨y,u,rfl,rfl⟩
   .rw [Lj]at h;exact wpAny_eqBool_int h
   .rw [LB]at h;exact SeqAt.EqAt.int_str i t y u _ _ _ _ h
  .rcases cR hv with ⟨j,u,rfl,rfl⟩|⟨y,u,rfl,rfl⟩
   .rw [Mg]at h;exact SeqAt.EqAt.str_int x t j u _ _ _ _ h
   .rw [LO]at h;exact wpAny_eqBool_str h
 «strs»:=fun k x t v h=>by
  rcases cR h with ⟨i,u,rfl,e⟩|⟨y,u,rfl,e⟩
  .exact nomatch e
  .injection e with e1 _
   subst e1;cases v <;> rfl
theorem yO(prog:Program) (w:World) (i:Int) (t:Tok):(cT prog w).is (.inl i) (.int i t)=true:=DM i t
theorem yr(prog:Program) (w:World) (x:Str) (t:Tok):(cT prog w).is (.inr x) (.str x t)=true:=DP x t
inductive V where
 |non|bl (b:Bool)|int (i:Int)|str (x:Str)|byt (b:Array UInt8)|flt (b:UInt64)|ref (a:Addr)|ty (n:String)
 deriving DecidableEq
def cx:V->Value->Prop
 | .non,u=>u=Xp
 | .bl b,u=>u=Xq b
 | .int i,u=>∃t,u=Wk i t
 | .str x,u=>∃t,u=Xf x t
 | .byt b,u=>∃t,u=Value.bytes b t
 | .flt b,u=>∃t,u=Value.float b t
 | .ref a,u=>u=TY a
 | .ty n,u=>u=U8 n
abbrev bz:List V->List Value->Prop:=Paired cx
theorem bz.length{xs:List V}{us:List Value}(r:bz xs us):xs.length=us.length:=Paired.length r
theorem bz.get:∀{xs:List V}{us:List Value}{i:Nat}{x:V},bz xs us->xs[i]?=some x->∃u,us[i]?=some u/\cx x u
 |_,_,_,_,.nil,e=>by simp at e
 |_,_,0,_,.cons r _,e=>by simp at e;subst e;exact⟨_,rfl,r⟩
 |_,_,i+1,x,.cons _ t,e=>by
  obtain⟨u,h1,h2⟩:=bz.get (i:=i) (x:=x) t (by simpa using e)
  exact⟨u,by simpa using h1,h2⟩
theorem bz.set{x:V}{u:Value}(r:cx x u):∀{xs:List V}{us:List Value}(i:Nat),bz xs us->bz (xs.set i x) (us.set i u)
 |_,_,_,.nil=>.nil
 |_,_,0,.cons _ t=>.cons r t
 |_,_,i+1,.cons q t=>.cons q (bz.set r i t)
theorem bz.append:∀{xs ys:List V}{us ws:List Value},bz xs us->bz ys ws->bz (xs++ys) (us++ws)
 |_,_,_,_,.nil,s=>s
 |_,_,_,_,.cons r t,s=>.cons r (bz.append t s)
theorem bz.take:∀{xs:List V}{us:List Value}(n:Nat),bz xs us->bz (xs.take n) (us.take n)
 |_,_,0,_=>.nil
 |_,_,_+1,.nil=>.nil
 |_,_,n+1,.cons r t=>.cons r (bz.take n t)
theorem bz.drop:∀{xs:List V}{us:List Value}(n:Nat),bz xs us->bz (xs.drop n) (us.drop n)
 |_,_,0,r=>r
 |_,_,_+1,.nil=>.nil
 |_,_,n+1,.cons _ t=>bz.drop n t
def vv:Option V->Option Value->Prop
 |some v,some u=>cx v u
 |none,none=>True
 |_,_=>False
def KV{κ:Type}:List (κ×V)->List (κ×Value)->Prop:=Paired fun(p:κ×V) (q:κ×Value)=>p.1=q.1/\cx p.2 q.2
noncomputable def kV:aX->V
 | .inl i=>.int i
 | .inr x=>.str x
inductive HO where
 /-- a list -/
 |lst (xs:List V)
 /-- a tuple (never changes) -/
 |tup (xs:List V)
 /-- a dict whose keys are ints and texts;one whose keys are tuples of ints and texts (the empty one is pB) -/
 |dK (kvs:List (aX×V))|dT (kvs:List (List aX×V))
 /-- a set of ints: its members,its size -/
 |set (S:Int->Bool) (n:Nat)
 /-- an instance of the class at C,its dict at dx,its attributes -/
 |ins (C dx:Addr) (fs:List (Str×V))
 /-- the dict of the instance at x -/
 |own (x:Addr)
 /-- the dict of an exception -/
 |xd (fs:List (Str×V))
 /-- a bound method,f of x -/
 |met (f x:Addr)
 /-- a range object lo,lo+1,.. below hi -/
 |rng (lo hi:Int)
 /-- a thing that is known to the object (the script;a dict while a loop walks it): read,never written while it is so -/
 |frz (o:Obj) (u:HO)
 /-- a code object's table -/
 |tbl (ps:Array Value)
 /-- any other thing,by what is true of its one object (a def of one's own: SetO a S n:=HO.ext fun h=>..) -/
 |ext (φ:Heap->Prop)
abbrev Hp:=Addr->Option HO
noncomputable def cW(H:Hp) (a:Addr) (o:HO):Hp:=fun b=>if b=a then some o else H b
theorem aR{H:Hp}{a:Addr}{o:HO}:cW H a o a=some o:=by unfold cW;rw[if_pos rfl]
theorem aL{H:Hp}{a b:Addr}{o:HO}(h:b≠a):cW H a o b=H b:=by unfold cW;rw[if_neg h]
theorem Po{H:Hp}{a b:Addr}{o u:HO}(h:H a=some o) (h':H b=some u) (d:o≠u):a≠b:=by
 intro e;subst e;rw[h]at h';exact d (Sz.inj h')
theorem df{H:Hp}{a b:Addr}{o:HO}(h:H a=some o) (h':H b=none):a≠b:=by
 intro e;subst e;rw[h]at h';cases h'
section
variable (P:Program) (w:World)
def dA(H:Hp) (h:Heap) (a:Addr):HO->Prop
 | .lst xs=>xs.length<=sizeLine/\∃(its:List Value) (n:Nat),bz xs its/\h.get? a=some { cls:=.type "list", data:=.seq its.toArray n }
 | .tup xs=>xs.length<=sizeLine/\∃its:List Value,bz xs its/\IsTup h a its.toArray
 | .dK kvs=>kvs.length<=sizeLine/\(a == sysModules)=false/\∃vs,KV kvs vs/\h.DictOf (cT P w) a vs
 | .dT kvs=>kvs.length<=sizeLine/\(a == sysModules)=false/\∃xs:List (List aX×Addr×Value),
   Paired (fun(p:List aX×V) (q:List aX×Addr×Value)=>p.1=q.1/\H q.2.1=some (.tup (p.1.map kV))/\cx p.2 q.2.2) kvs xs /\
   ∃o es ep,h.get? a=some o/\o.ExactDict/\o.data = .dict es ep/\es.toList=xs.map (entryOfKey (tupleKind (cT P w)))/\(xs.map (·.1)).Nodup
 | .set S n=>h.SetOf (intKind P w) a S n
 | .ins C dx fs=>H dx=some (.own a)/\fs.length<=1000/\dx≠a/\h.get? a=some (W.instObj C dx) /\
   ∃mA,h.Ns1 dx mA/\(∀f,vv (fs.lookup f) (mA f))/\PySem.Within mA (fs.map (·.1))
 | .own _=>∃o,h.get? a=some o
 | .xd fs=>∃mA,h.Ns1 a mA/\∀f,vv (fs.lookup f) (mA f)
 | .rng lo hi=>∃t u v,h.get? a=some { cls:=.type "range", data:=.fields #[.int lo t,.int hi u,.int 1 v] }
 | .frz o u=>h.get? a=some o/\dA H h a u
 | .tbl ps=>h.get? a=some { cls:=.none,data:=.fields ps }
 | .met f x=>h.get? a=some (W.methodObj (.ref f) (.ref x))
 | .ext φ=>φ h/\(∃o,h.get? a=some o)/\∀h1 h2:Heap,φ h1->(∀o,h1.get? a=some o->h2.get? a=some o)->φ h2
def pD(H:Hp) (h:Heap):Prop:=∀a o,H a=some o->dA P w H h a o
end
section
variable {P:Program}{w:World}{H H':Hp}{h h':Heap}{a:Addr}{o:HO}
theorem dA.lt(x:dA P w H h a o):a<h.objs.size:=by
 cases o with
 |lst xs=>obtain⟨_,_,_,_,e⟩:=x;exact Sl e
 |tup xs=>obtain⟨_,_,_,p⟩:=x;exact p.lt
 |dK kvs=>obtain⟨_,_,_,_,o,_,_,e,_⟩:=x;exact Sl e
 |dT kvs=>obtain⟨_,_,_,_,o,_,_,e,_⟩:=x;exact Sl e
 |set S n=>obtain⟨o,_,_,_,e,_⟩:=x;exact Sl e
 |ins C dx fs=>obtain⟨_,_,_,e,_⟩:=x;exact Sl e
 |own y=>obtain⟨_,e⟩:=x;exact Sl e
 |xd fs=>obtain⟨_,⟨_,_,_,e,_⟩,_⟩:=x;exact Sl e
 |rng lo hi=>obtain⟨_,_,_,e⟩:=x;exact Sl e
 |frz ob u=>obtain⟨e,_⟩:=x;exact Sl e
 |tbl ps=>exact Sl (show h.get? a=some _ from x)
 |met f y=>exact Sl (show h.get? a=some _ from x)
 |ext φ=>obtain⟨_,⟨_,e⟩,_⟩:=x;exact Sl e
theorem Paired.mapP{α β:Type}{F G:α->β->Prop}:∀{l₁:List α}{l₂:List β},Paired F l₁ l₂->(∀a b,F a b->G a b)->Paired G l₁ l₂
 |_,_,.nil,_=>.nil
 |_,_,.cons r t,f=>.cons (f _ _ r) (Paired.mapP t f)
theorem dA.stay(x:dA P w H h a o) (k:∀b u,(b=a∨H b=some (.own a))->h.get? b=some u->h'.get? b=some u)
  (ho:∀b,H b=some (.own a)->H' b=some (.own a)) (ht:∀b xs,H b=some (.tup xs)->H' b=some (.tup xs)):dA P w H' h' a o:=by
 induction o with
 |lst xs=>obtain⟨z,its,n,r,e⟩:=x;exact⟨z,its,n,r,k _ _ (.inl rfl) e⟩
 |tup xs=>obtain⟨z,its,r,ob,e,c⟩:=x;exact⟨z,its,r,ob,k _ _ (.inl rfl) e,c⟩
 |dK kvs=>obtain⟨z,y,vs,r,ob,es,ep,e,c⟩:=x;exact⟨z,y,vs,r,ob,es,ep,k _ _ (.inl rfl) e,c⟩
 |dT kvs =>
  obtain⟨z,y,xs,r,ob,es,ep,e,c⟩:=x;exact⟨z,y,xs,Paired.mapP r fun p q z=>⟨z.1,ht _ _ z.2.1,z.2.2⟩,ob,es,ep,k _ _ (.inl rfl) e,c⟩
 |set S n=>obtain⟨ob,es,ep,t,e,c⟩:=x;exact⟨ob,es,ep,t,k _ _ (.inl rfl) e,c⟩
 |ins C dx fs =>
  obtain⟨d,z,ne,e,mA,⟨od,es,ep,e2,c⟩,r⟩:=x;exact⟨ho _ d,z,ne,k _ _ (.inl rfl) e,mA,⟨od,es,ep,k _ _ (.inr d) e2,c⟩,r⟩
 |own y=>obtain⟨ob,e⟩:=x;exact⟨ob,k _ _ (.inl rfl) e⟩
 |xd fs=>obtain⟨mA,⟨od,es,ep,e,c⟩,r⟩:=x;exact⟨mA,⟨od,es,ep,k _ _ (.inl rfl) e,c⟩,r⟩
 |rng lo hi=>obtain⟨t,u,v,e⟩:=x;exact⟨t,u,v,k _ _ (.inl rfl) e⟩
 |frz ob u ih=>obtain⟨e,q⟩:=x;exact⟨k _ _ (.inl rfl) e,ih q⟩
 |tbl ps =>
  have e:h.get? a=some { cls:=.none,data:=.fields ps }:=x;show h'.get? a=some { cls:=.none,data:=.fields ps };exact k a _ (.inl rfl) e
 |met f y =>
  have e:h.get? a=some (W.methodObj (.ref f) (.ref y)):=x;show h'.get? a=some (W.methodObj (.ref f) (.ref y));exact k a _ (.inl rfl) e
 |ext φ=>obtain⟨p,⟨o,e⟩,st⟩:=x;exact⟨st _ _ p fun o q=>k _ _ (.inl rfl) q,⟨o,k _ _ (.inl rfl) e⟩,st⟩
theorem pD.lt(x:pD P w H h) (e:H a=some o):a<h.objs.size:=(x a o e).lt
theorem pD.fresh(x:pD P w H h) (e:h.objs.size<=a):H a=none:=by
 cases q:H a with
 |none=>rfl
 |some u=>exact absurd (S7 (x.lt q) e) (UG _)
theorem pD.kept(x:pD P w H h) (k:∀b u,h.get? b=some u->h'.get? b=some u):pD P w H h':=fun a o e =>
 (x a o e).stay (fun b u _ q=>k b u q) (fun _ q=>q) fun _ _ q=>q
theorem pD.laid(x:pD P w H h) (k:∀b u,h.get? b=some u->h'.get? b=some u) (hp:h.objs.size<=a) (new:dA P w (cW H a o) h' a o):pD P w (cW H a o) h':=fun b u e=>by
 have hn:=x.fresh hp
 by_cases hb:b=a
 .subst hb;rw[aR]at e;cases e;exact new
 .rw [aL hb]at e;exact(x b u e).stay (fun c v _ q=>k c v q) (fun c q=>by rw[aL (df q hn)];exact q) fun c xs q=>by rw[aL (df q hn)];exact q
end
def Rd(H:Hp) (a:Addr) (u:HO):Prop:=H a=some u∨∃o,H a=some (.frz o u)
theorem Rd.ok{P:Program}{w:World}{H:Hp}{h:Heap}{a:Addr}{u:HO}(r:Rd H a u) (x:pD P w H h):dA P w H h a u:=by
 rcases r with r|⟨o,r⟩
 .exact x a u r
 .obtain ⟨_,q⟩:=x a _ r;exact q
def OU:Option HO->Prop
 |some (.lst _)=>True
 |some (.dK _)=>True
 |some (.dT _)=>True
 |some (.set _ _)=>True
 |some (.ins _ _ _)=>True
 |some (.ext _)=>True
 |_=>False
section
variable {P:Program}{w:World}{H:Hp}{h h':Heap}{x e:Addr}{o':HO}
theorem pD.write(ok:pD P w H h) (mu:OU (H x)) (he:e=x∨H e=some (.own x)) (k:∀b u,b≠e->h.get? b=some u->h'.get? b=some u) (heo:∃u,h'.get? e=some u)
  (new:dA P w (cW H x o') h' x o'):pD P w (cW H x o') h':=fun b u q=>by
 have nown:∀c y,H c=some (.own y)->c≠x:=fun c y r z=>by subst z;rw[r]at mu;exact mu
 have ntup:∀c xs,H c=some (.tup xs)->c≠x:=fun c xs r z=>by subst z;rw[r]at mu;exact mu
 by_cases hb:b=x
 .subst hb;rw[aR]at q;cases q;exact new
 .rw [aL hb]at q
  by_cases hbe:b=e
  .have q':H b=some (.own x):=by
    rcases he with z|z
    .exact absurd (hbe.trans z) hb
    .rw [hbe];exact z
   rw[q]at q';cases q';obtain⟨v,hv⟩:=heo;exact⟨v,by rw[hbe];exact hv⟩
  .refine (ok b u q).stay (fun c v hc r=>k c v ?_ r) (fun c r=>by rw[aL (nown c b r)];exact r) fun c xs r=>by rw[aL (ntup c xs r)];exact r
   rcases hc with rfl|hc
   .exact hbe
   .rintro rfl;rcases he with z|z
    .exact nown c b hc z
    .rw [hc]at z;cases z;exact hb rfl
end
structure Un (fs ex:List Addr) (H H':Hp) (h h':Heap):Prop where
 keep:∀b o,h.get? b=some o->H b=none->b∉fs->b∉ex->h'.get? b=some o
 slot:∀b o,h.get? b=some o->H b=none->b∈fs->b∉ex->∃sl,h'.get? b=some { o with slots:=sl }
 free:∀b o,h.get? b=some o->H b=none->b∉ex->H' b=none
 there:∀b o,h.get? b=some o->b∉ex->∃o',h'.get? b=some o'
 tups:∀b xs,H b=some (.tup xs)->H' b=some (.tup xs)
 frzs:∀b o u,H b=some (.frz o u)->H' b=some (.frz o u)
 tbls:∀b ps,H b=some (.tbl ps)->∃more,H' b=some (.tbl (ps++more))
section
variable {fs fs' ex ex':List Addr}{H H1 H2:Hp}{h h1 h2 h':Heap}{a x e:Addr}{o:HO}
theorem Un.any(u:Un fs ex H H1 h h1) {b:Addr}{ob:Obj}(q:h.get? b=some ob) (n:H b=none) (hx:b∉ex):∃sl,h1.get? b=some { ob with slots:=sl }:=by
 by_cases hb:b∈fs
 .exact u.slot b ob q n hb hx
 .exact ⟨ob.slots,u.keep b ob q n hb hx⟩
theorem Un.kept(k:∀b u,h.get? b=some u->h'.get? b=some u):Un fs ex H H h h' :=
 ⟨fun b ob q _ _ _=>k b ob q,fun b ob q _ _ _=>⟨ob.slots,k b ob q⟩,fun _ _ _ n _=>n,fun b ob q _=>⟨ob,k b ob q⟩,fun _ _ q=>q,fun _ _ _ q=>q,fun _ ps q=>⟨#[],by rw[q];simp⟩⟩
theorem Un.refl:Un fs ex H H h h:=Un.kept fun _ _ q=>q
theorem Un.laid(k:∀b u,h.get? b=some u->h'.get? b=some u) (hp:h.objs.size<=a) (hn:H a=none):Un fs ex H (cW H a o) h h' where
 keep:=fun b u q _ _ _=>k b u q
 slot:=fun b u q _ _ _=>⟨u.slots,k b u q⟩
 free:=fun b u q n _=>by rw[aL (SU (S7 (Sl q) hp))];exact n
 there:=fun b u q _=>⟨u,k b u q⟩
 tups:=fun b xs q=>by rw[aL (df q hn)];exact q
 frzs:=fun b u xs q=>by rw[aL (df q hn)];exact q
 tbls:=fun b ps q=>⟨#[],by rw[aL (df q hn),q];simp⟩
theorem Un.write(mu:OU (H x)) (he:e=x∨H e=some (.own x)) (k:∀b u,b≠e->h.get? b=some u->h'.get? b=some u) (heo:∃u,h'.get? e=some u):Un fs ex H (cW H x o) h h':=by
 have hx:∀b,H b=none->b≠x:=fun b n z=>by subst z;rw[n]at mu;exact mu
 have hb:∀b,H b=none->b≠e:=fun b n z=>by
  subst z;rcases he with r|r
  .exact hx b n r
  .rw [n]at r;cases r
 have hm:∀b u,H b=some u->¬ OU (some u)->b≠x:=fun b u q nm z=>by subst z;rw[q]at mu;exact nm mu
 refine⟨fun b u q n _ _=>k b u (hb b n) q,fun b u q n _ _=>⟨u.slots,k b u (hb b n) q⟩,fun b u q n _=>by rw[aL (hx b n)];exact n,fun b u q _=>?_,
  fun b xs q=>by rw[aL (hm b _ q fun z=>z)];exact q,fun b u xs q=>by rw[aL (hm b _ q fun z=>z)];exact q,fun b ps q=>⟨#[],by rw[aL (hm b _ q fun z=>z),q];simp⟩⟩
 by_cases hbe:b=e
 .subst hbe;exact heo
 .exact ⟨u,k b u hbe q⟩
end
noncomputable def PV(h:Heap) (H:Hp):List Addr:=(To h.objs.size).filter fun a=>(H a).isSome
def wN(h:Heap) (H:Hp):Heap:=W.hideAll h (PV h H)
theorem Dv(h:Heap) (H:Hp):(wN h H).objs.size=h.objs.size:=W.hideAll_size _ _
theorem G4{h:Heap}{H:Hp}{b:Addr}{o:Obj}(e:h.get? b=some o) (n:H b=none):(wN h H).get? b=some o :=
 W.hideAll_get _ e fun hm=>by
  have q:(H b).isSome=true:=(S5.mp hm).2;rw[n]at q;simp at q
theorem Ir{h:Heap}{H:Hp}{b:Addr}{o:Obj}(e:(wN h H).get? b=some o):h.get? b=some o/\H b=none:=by
 have e':h.get? b=some o:=W.of_hideAll (PV h H) e;refine⟨e',?_⟩;cases q:H b with
 |none=>rfl
 |some x =>
  have hm:b∈PV h H:=S5.mpr ⟨US.mpr (Sl e'),by simp[q]⟩
  have z:(wN h H).get? b=none:=W.hideAll_none (PV h H) hm;rw[z]at e;cases e
noncomputable def Jd(g h:Heap) (L:Addr):List (Addr×Obj):=(To h.objs.size).filterMap fun a=>if a=L∨(g.get? a).isSome=true then none else (h.get? a).map fun o=>(a,o)
def rest(g h:Heap) (L d:Addr):List (Addr×Obj):=(Jd g h L).filter fun p=>decide (p.1≠d)
structure Mod (K:W.Frag) (mg:Str->Option Value) (base:Heap):Prop where
 kin:K.In base
 glob:base.Ns mainGlobals mg
 blt:∃mb,base.Ns builtinsNs mb/\∀x:Str,x ≠ "__name__" -> mb x=bootBuiltins x
 nolimit:base.NoLimit
structure Cx where
 prog:Program
 w:World
 K:W.Frag
 mg:Str->Option Value
 base:Heap
 A:Around
 N:List Str
 s₀:Shared
 H₀:Hp
 env:Env
 outer:List Env
 stack:List Env
 ex:List Addr
 fn:Str->Bool
 calm:Bool
 pn:List (Addr×Obj)
 xe:Value->Shared->Prop
noncomputable def G3(l:List Env):List Addr:=l.filterMap (·.frame)
abbrev Cx.fs(X:Cx):List Addr:=G3 X.outer
def Q4(sc:Scope) (x:Str):Prop:=sc.names.lookup x=some .local∨sc.names.lookup x=some .cell∨sc.names.lookup x=some .free
def Oj(sc:Scope) (x:Str):Prop:=sc.names.lookup x=some .local∨sc.names.lookup x=some .cell
def Q2(env:Env) (h:Heap) (m:Str->Option Value) (x:Str) (u:Value):Prop :=
 (env.kindOf x=some .local/\m x=some u)∨((env.kindOf x=some .cell∨env.kindOf x=some .free)/\∃c,env.cells.lookup x=some c/\h.IsCell c (some u))
structure Cx.Ok (X:Cx):Prop where
 mod:Mod X.K X.mg X.base
 kind:X.env.scope.kind = .function
 glob:X.env.globals=mainGlobals
 blt:X.env.builtins=builtinsNs
 above:X.s₀.heap.objs.size<=X.env.locals
 inj:∀x y c,X.env.cells.lookup x=some c->X.env.cells.lookup y=some c->x=y
 has:∀x,(X.env.kindOf x=some .cell∨X.env.kindOf x=some .free)->∃c,X.env.cells.lookup x=some c
 cab:∀x c,X.fn x=true->X.env.cells.lookup x=some c->X.s₀.heap.objs.size<=c
 hd:X.calm=true->X.A.handled=none
 frames:X.A.frames=some X.stack
 stk:X.stack=X.outer∨(X.stack=X.env::X.outer/\X.env.frame=some X.env.locals)
 exf:∀b∈X.ex,b≠X.env.locals/\∀x c,X.env.cells.lookup x=some c->c≠b
 bs:∀b o,X.base.get? b=some o->X.s₀.heap.get? b=some o/\X.H₀ b=none
 bsz:X.base.objs.size<=X.s₀.heap.objs.size
 noex:∀b o,X.base.get? b=some o->b∉X.ex
 exfs:∀b∈X.ex,b∉X.fs
 funs:X.s₀.heap.FunFrames X.base X.outer
 frf:∀b∈X.fs,X.H₀ b=none
structure Inv (X:Cx) (ab:List (Addr×Obj)) (σ:List (Option V)) (H:Hp) (s:Shared):Prop where
 ok:X.Ok
 os:s.os=X.s₀.os
 bare:AllBare s.gens
 base:Un X.fs X.ex X.H₀ H X.s₀.heap s.heap
 loc:∃m,s.heap.Ns X.env.locals m/\∀(i:Nat) (x:Str) (v:V),X.N[i]?=some x->σ[i]?=some (some v)->Q4 X.env.scope x->∃u,cx v u/\Q2 X.env s.heap m x u
 cell:∀x c,X.env.cells.lookup x=some c->∃v,s.heap.IsCell c v
 free:H X.env.locals=none
 freeC:∀x c,X.env.cells.lookup x=some c->H c=none
 pin:∀p∈X.pn++ab,s.heap.get? p.1=some p.2/\H p.1=none/\p.1≠X.env.locals/\p.1∉X.fs/\∀v,p.2.data ≠ .cell v
 hok:pD X.prog X.w H s.heap
 len:σ.length=X.N.length
section
variable {X:Cx}{ab:List (Addr×Obj)}{σ:List (Option V)}{H H':Hp}{s:Shared}{h':Heap}
theorem Cx.Ok.nofr(ok:X.Ok) {b:Addr}{o:Obj}(e:X.base.get? b=some o):b∉X.fs:=fun hb=>by
 have:=(ok.funs.mem hb).1;rw[e]at this;cases this
theorem Inv.bs(I:Inv X ab σ H s):∀b o,X.base.get? b=some o->s.heap.get? b=some o/\H b=none:=fun b o e =>
 ⟨I.base.keep b o (I.ok.bs b o e).1 (I.ok.bs b o e).2 (I.ok.nofr e) (I.ok.noex b o e),I.base.free b o (I.ok.bs b o e).1 (I.ok.bs b o e).2 (I.ok.noex b o e)⟩
theorem Inv.bk(I:Inv X ab σ H s):∀b o,X.base.get? b=some o->s.heap.get? b=some o:=fun b o e=>(I.bs b o e).1
theorem Inv.mod(I:Inv X ab σ H s):Mod X.K X.mg X.base:=I.ok.mod
theorem Inv.kIn(I:Inv X ab σ H s):X.K.In s.heap:=I.ok.mod.kin.keeps I.bk
theorem Inv.lt(I:Inv X ab σ H s):X.env.locals<s.heap.objs.size:=let ⟨_,hn,_⟩:=I.loc;hn.lt
theorem Inv.sz(I:Inv X ab σ H s):X.s₀.heap.objs.size<=s.heap.objs.size:=TV I.ok.above (T8 I.lt)
theorem Inv.nofs(I:Inv X ab σ H s) {a:Addr}(h:s.heap.objs.size<=a):a∉X.fs:=fun hb=>by
 obtain⟨_,o,ho,_⟩:=I.ok.funs.mem hb;exact absurd (S7 (Sl ho) (TV I.sz h)) (UG _)
theorem Inv.cne(I:Inv X ab σ H s):∀x c,X.env.cells.lookup x=some c->c≠X.env.locals:=fun x c e z=>by
 obtain⟨v,o,ho,hd⟩:=I.cell x c e;obtain⟨m,⟨o',es,ep,ho',hd',_⟩,_⟩:=I.loc;rw[z,ho']at ho;cases ho;rw[hd']at hd;cases hd
theorem Inv.funs(I:Inv X ab σ H s):s.heap.FunFrames X.base X.outer:=by
 have all:∀(l:List Env),(∀b∈G3 l,b∈X.fs)->X.s₀.heap.FunFrames X.base l->s.heap.FunFrames X.base l:=by
  intro l
  induction l with
  |nil=>intro _ _;trivial
  |cons env r ih =>
   intro hs hl;obtain⟨hk,⟨L,o,hf,hn,ho,hd⟩,hr⟩:=hl;have hL:L∈X.fs:=hs L (by unfold G3;rw[VP,hf];exact Ss)
   obtain⟨sl,e⟩:=I.base.slot L o ho (I.ok.frf L hL) hL fun z=>I.ok.exfs L z hL
   exact⟨hk,⟨L,_,hf,hn,e,hd⟩,ih (fun b hb=>hs b (by unfold G3;rw[VP,hf];exact mCo _ hb)) hr⟩
 exact all X.outer (fun _ hb=>hb) I.ok.funs
theorem Inv.stack(I:Inv X ab σ H s):s.heap.FunFrames X.base X.stack:=by
 rcases I.ok.stk with e|⟨e,hf⟩
 .rw [e];exact I.funs
 .rw [e];obtain⟨m,hn,_⟩:=I.loc;refine .cons (by rw[I.ok.kind];decide) hf hn ?_ I.funs
  exact Heap.get?_none_of_le (TV I.ok.bsz I.ok.above)
theorem Inv.stkSub(I:Inv X ab σ H s):∀b∈G3 X.stack,b∈X.env.locals::X.fs:=fun b hb=>by
 rcases I.ok.stk with e|⟨e,hf⟩
 .rw [e]at hb;exact mCo _ hb
 .rw [e]at hb;unfold G3 at hb;rw[VP,hf]at hb;exact hb
theorem Inv.stkFree(I:Inv X ab σ H s):∀b∈G3 X.stack,H b=none:=fun b hb=>by
 rcases Si.mp (I.stkSub b hb) with e|hb
 .rw [e];exact I.free
 .obtain ⟨_,o,ho,_⟩:=I.ok.funs.mem hb;exact I.base.free b o ho (I.ok.frf b hb) fun z=>I.ok.exfs b z hb
theorem Inv.step{g':Array GenState}{t':Nat}{d':Drawn}{ch:List Addr}(I:Inv X ab σ H s)
  (hch:∀b∈ch,(b∈X.ex∨X.s₀.heap.objs.size<=b)/\b≠X.env.locals/\(∀x c,X.env.cells.lookup x=some c->c≠b)/\∀p∈X.pn++ab,p.1≠b)
  (keep:∀b o,b≠X.env.locals->b∉X.fs->b∉ch->s.heap.get? b=some o->H b=none->h'.get? b=some o)
  (slot:∀b o,b≠X.env.locals->b∈X.fs->b∉ch->s.heap.get? b=some o->H b=none->∃sl,h'.get? b=some { o with slots:=sl }) (free:∀b o,b∉ch->s.heap.get? b=some o->H b=none->H' b=none)
  (there:∀b o,b∉ch->s.heap.get? b=some o->∃o',h'.get? b=some o')
  (tups:∀b xs,H b=some (.tup xs)->H' b=some (.tup xs)) (frzs:∀b o u,H b=some (.frz o u)->H' b=some (.frz o u)) (tbls:∀b ps,H b=some (.tbl ps)->∃more,H' b=some (.tbl (ps++more)))
  (ns:∀m,s.heap.Ns X.env.locals m->h'.Ns X.env.locals m) (hok:pD X.prog X.w H' h') (hg:AllBare g') :
  Inv X ab σ H' { s with heap:=h',gens:=g',drawn:=d',toks:=t' }:=by
 have neL:∀b o,X.s₀.heap.get? b=some o->b≠X.env.locals:=fun b o e=>SU (S7 (Sl e) I.ok.above)
 have neC:∀b o,X.s₀.heap.get? b=some o->b∉X.ex->b∉ch:=fun b o e hx hb=>by
  rcases (hch b hb).1 with z|z
  .exact hx z
  .exact absurd (S7 (Sl e) z) (UG _)
 have cellK:∀x c,X.env.cells.lookup x=some c->∀v,s.heap.IsCell c v->h'.IsCell c v:=fun x c e v ⟨o,ho,hd⟩=>by
  have nch:c∉ch:=fun z=>(hch c z).2.2.1 x c e rfl
  by_cases hc:c∈X.fs
  .obtain ⟨sl,q⟩:=slot c o (I.cne x c e) hc nch ho (I.freeC x c e);exact⟨_,q,hd⟩
  .exact ⟨o,keep c o (I.cne x c e) hc nch ho (I.freeC x c e),hd⟩
 refine⟨I.ok,I.os,hg,⟨fun b o e n hb hx=>?_,fun b o e n hb hx=>?_,fun b o e n hx=>?_,fun b o e hx=>?_,fun b xs e=>tups b xs (I.base.tups b xs e),fun b o xs e=>frzs b o xs (I.base.frzs b o xs e),fun b ps e=>?_⟩,?_,fun x c e=>?_,?_,fun x c e=>?_,fun p hp=>?_,hok,I.len⟩
 .exact keep b o (neL b o e) hb (neC b o e hx) (I.base.keep b o e n hb hx) (I.base.free b o e n hx)
 .obtain ⟨sl,e1⟩:=I.base.slot b o e n hb hx;obtain⟨sl',e2⟩:=slot b _ (neL b o e) hb (neC b o e hx) e1 (I.base.free b o e n hx);exact⟨sl',e2⟩
 .obtain ⟨o',e1⟩:=I.base.there b o e hx;exact free b o' (neC b o e hx) e1 (I.base.free b o e n hx)
 .obtain ⟨o',e1⟩:=I.base.there b o e hx;exact there b o' (neC b o e hx) e1
 .obtain ⟨m1,e1⟩:=I.base.tbls b ps e;obtain⟨m2,e2⟩:=tbls b _ e1;exact⟨m1++m2,by rw[e2,Array.append_assoc]⟩
 .obtain ⟨m,hn,hl⟩:=I.loc;refine⟨m,ns m hn,fun i x v e1 e2 e3=>?_⟩
  obtain⟨u,r,l⟩:=hl i x v e1 e2 e3;refine⟨u,r,?_⟩;rcases l with l|⟨k,c,e,z⟩
  .exact .inl l
  .exact .inr ⟨k,c,e,cellK x c e _ z⟩
 .obtain ⟨v,z⟩:=I.cell x c e;exact⟨v,cellK x c e v z⟩
 .obtain ⟨m,⟨o,_,_,ho,_⟩,_⟩:=I.loc;exact free _ o (fun z=>(hch _ z).2.1 rfl) ho I.free
 .obtain ⟨v,o,ho,hd⟩:=I.cell x c e;exact free c o (fun z=>(hch c z).2.2.1 x c e rfl) ho (I.freeC x c e)
 .obtain ⟨e,n,ne,nf,d⟩:=I.pin p hp;have nch:p.1∉ch:=fun z=>(hch p.1 z).2.2.2 p hp rfl
  exact⟨keep p.1 p.2 ne nf nch e n,free p.1 p.2 nch e n,ne,nf,d⟩
theorem Inv.un{t':Nat}(I:Inv X ab σ H s) (u:Un X.fs [] H H' s.heap h') (hok:pD X.prog X.w H' h'):Inv X ab σ H' { s with heap:=h',toks:=t' }:=by
 obtain⟨m,⟨o,es,ep,ho,r⟩,_⟩:=id I.loc;obtain⟨sl,hL⟩:=u.any ho I.free (by simp)
 exact I.step (g':=s.gens) (d':=s.drawn) (ch:=[]) (fun _ z=>nomatch z) (fun b o _ hb _ e n=>u.keep b o e n hb (by simp)) (fun b o _ hb _ e n=>u.slot b o e n hb (by simp)) (fun b o _ e n=>u.free b o e n (by simp)) (fun b o _ e=>u.there b o e (by simp)) u.tups u.frzs u.tbls (fun m' hm=>by
  obtain⟨o',es',ep',ho',r'⟩:=hm;rw[ho]at ho';cases ho';exact⟨_,es',ep',hL,r'⟩) hok I.bare
theorem Inv.call{g':Array GenState}{t':Nat}{d':Drawn}{ch:List Addr}(I:Inv X ab σ H s) (u:Un (G3 X.stack) ch H H' s.heap h') (hok:pD X.prog X.w H' h') (hg:AllBare g')
  (hch:∀b∈ch,(b∈X.ex∨X.s₀.heap.objs.size<=b)/\b≠X.env.locals/\(∀x c,X.env.cells.lookup x=some c->c≠b)/\∀p∈X.pn++ab,p.1≠b) :
  Inv X ab σ H' { s with heap:=h',gens:=g',drawn:=d',toks:=t' }:=by
 obtain⟨m,⟨o,es,ep,ho,r⟩,_⟩:=id I.loc;obtain⟨sl,hL⟩:=u.any ho I.free fun z=>(hch _ z).2.1 rfl
 exact I.step (ch:=ch) hch (fun b o hL hb hc e n=>u.keep b o e n (fun z=>(Si.mp (I.stkSub b z)).elim hL hb) hc) (fun b o _ _ hc e n=>u.any e n hc) (fun b o hc e n=>u.free b o e n hc) (fun b o hc e=>u.there b o e hc) u.tups u.frzs u.tbls (fun m' hm=>by
  obtain⟨o',es',ep',ho',r'⟩:=hm;rw[ho]at ho';cases ho';exact⟨_,es',ep',hL,r'⟩) hok hg
theorem Inv.turned{t':Nat}{it:Addr}(I:Inv X ab σ H s) (k:∀b o,b≠it->s.heap.get? b=some o->h'.get? b=some o) (hn:H it=none) (hL:it≠X.env.locals)
  (h1:it∈X.ex∨X.s₀.heap.objs.size<=it) (h2:∀x c,X.env.cells.lookup x=some c->c≠it) (h3:∀p∈X.pn++ab,p.1≠it):Inv X ab σ H { s with heap:=h',toks:=t' }:=by
 have nit:∀b u,H b=some u->b≠it:=fun b u e z=>by rw[z,hn]at e;cases e
 refine I.step (g':=s.gens) (d':=s.drawn) (ch:=[it]) (fun b hb=>?_) (fun b o _ _ hc e _=>k b o (fun z=>hc (by simp[z])) e) (fun b o _ _ hc e _=>⟨o.slots,k b o (fun z=>hc (by simp[z])) e⟩) (fun _ _ _ _ n=>n)
  (fun b o hc e=>⟨o,k b o (fun z=>hc (by simp[z])) e⟩) (fun _ _ e=>e) (fun _ _ _ e=>e) (fun b ps e=>⟨#[],by rw[e];simp⟩) (fun m hm=>?_) (fun b u e=>?_) I.bare
 .have e:b=it:=by simpa using hb
  subst e;exact⟨h1,hL,h2,h3⟩
 .obtain ⟨o,es,ep,ho,r⟩:=hm;exact⟨o,es,ep,k _ o (Ne.symm hL) ho,r⟩
 .refine (I.hok b u e).stay (fun c v hc q=>k c v ?_ q) (fun _ q=>q) fun _ _ q=>q
  rcases hc with z|z
  .rw [z];exact nit b u e
  .exact nit c _ z
theorem Inv.tok(I:Inv X ab σ H s) (t:Nat):Inv X ab σ H { s with toks:=t }:=I.un (h':=s.heap) (t':=t) Un.refl I.hok
theorem Inv.kept{t':Nat}(I:Inv X ab σ H s) (k:∀b u,s.heap.get? b=some u->h'.get? b=some u):Inv X ab σ H { s with heap:=h',toks:=t' }:=I.un (Un.kept k) (I.hok.kept k)
theorem Inv.laid{a:Addr}{o:HO}{t':Nat}(I:Inv X ab σ H s) (k:∀b u,s.heap.get? b=some u->h'.get? b=some u) (hp:s.heap.objs.size<=a) (new:dA X.prog X.w (cW H a o) h' a o) :
  Inv X ab σ (cW H a o) { s with heap:=h',toks:=t' }:=I.un (Un.laid k hp (I.hok.fresh hp)) (I.hok.laid k hp new)
theorem Inv.write{x e:Addr}{o:HO}{t':Nat}(I:Inv X ab σ H s) (mu:OU (H x)) (he:e=x∨H e=some (.own x)) (k:∀b u,b≠e->s.heap.get? b=some u->h'.get? b=some u) (heo:∃u,h'.get? e=some u)
  (new:dA X.prog X.w (cW H x o) h' x o):Inv X ab σ (cW H x o) { s with heap:=h',toks:=t' }:=I.un (Un.write mu he k heo) (I.hok.write mu he k heo new)
theorem Inv.pins_of{pins':List (Addr×Obj)}(I:Inv X ab σ H s) (h:∀p∈pins',s.heap.get? p.1=some p.2/\H p.1=none/\p.1≠X.env.locals/\p.1∉X.fs/\∀v,p.2.data ≠ .cell v):Inv X pins' σ H s :=
 ⟨I.ok,I.os,I.bare,I.base,I.loc,I.cell,I.free,I.freeC,fun p hp=>(mAq.mp hp).elim (fun z=>I.pin p (T7 _ z)) (h p),I.hok,I.len⟩
theorem yU{N:List Str}(hN:N.Nodup) {i j:Nat}{x:Str}(a:N[i]?=some x) (b:N[j]?=some x):i=j:=by
 obtain⟨h1,e1⟩:=gSq.mp a;obtain⟨h2,e2⟩:=gSq.mp b;exact(List.getElem_inj hN).mp (e1.trans e2.symm)
theorem Eb{M:Model}{A:Around}{E:Value->Shared->Prop}{i:Nat}{x:Str}{v:V}{u:Value}{Q:Unit->Shared->Prop}(I:Inv X ab σ H s) (hN:X.N.Nodup) (hi:X.N[i]?=some x) (hx:Oj X.env.scope x) (r:cx v u)
  (h:∀s',Inv X ab (σ.set i (some v)) H s'->(∃a,VM a s.heap s'.heap/\(a=X.env.locals∨X.env.cells.lookup x=some a))->Q () s') (hf:X.fn x=true∨X.env.scope.names.lookup x=some .local:=by first|exact .inl rfl|exact .inr rfl|assumption):wpAny M A (storeName X.env x u) Q E s:=by
 obtain⟨m,hn,hl⟩:=id I.loc;have hcls:(X.env.scope.kind == .class || (X.env.scope.kind == .module && X.env.locals != X.env.globals))=false:=by rw[I.ok.kind];rfl
 have hiσ:i<σ.length:=by rw[I.len];exact(gSq.mp hi).1
 have cne:=I.cne;have tracked:∀{a:Addr}{h':Heap},(∃o,s.heap.get? a=some o/\H a=none)->VM a s.heap h'->pD X.prog X.w H h':=fun {a h'} ha hs b ob e=>by
  obtain⟨_,_,hfree⟩:=ha;refine(I.hok b ob e).stay (fun c w' hc q=>(hs.2 c ?_).trans q) (fun _ q=>q) fun _ _ q=>q
  rintro rfl;rcases hc with rfl|hc
  .rw [hfree]at e;cases e
  .rw [hfree]at hc;cases hc
 rcases hx with hk|hk
 .refine wpAny_storeName_local hk hn (fun h' hn' hs=>?_) hcls
  obtain⟨oL,_,_,hoL,_⟩:=id hn;refine h _ ⟨I.ok,I.os,I.bare,⟨fun b o e n hb hx=>?_,fun b o e n hb hx=>?_,I.base.free,fun b o e hx=>?_,I.base.tups,I.base.frzs,I.base.tbls⟩,⟨_,hn',fun j y v' e1 e2 e3=>?_⟩,fun y c e=>?_,I.free,I.freeC,fun p hp=>?_,tracked ⟨oL,hoL,I.free⟩ hs,by simpa using I.len⟩ ⟨_,hs,.inl rfl⟩
  .exact (hs.2 b (SU (S7 (Sl e) I.ok.above))).trans (I.base.keep b o e n hb hx)
  .obtain ⟨sl,e1⟩:=I.base.slot b o e n hb hx;exact⟨sl,(hs.2 b (SU (S7 (Sl e) I.ok.above))).trans e1⟩
  .obtain ⟨o',e1⟩:=I.base.there b o e hx;exact⟨o',(hs.2 b (SU (S7 (Sl e) I.ok.above))).trans e1⟩
  .by_cases hj:j=i
   .subst hj;rw[hi]at e1;cases e1;rw[S6 hiσ]at e2;cases e2;exact⟨u,r,.inl ⟨hk,by simp⟩⟩
   .rw [SI (Ne.symm hj)]at e2;obtain⟨u',r',q⟩:=hl j y v' e1 e2 e3;refine⟨u',r',?_⟩;rcases q with ⟨k,e⟩|⟨k,c,e,z⟩
    .refine .inl ⟨k,?_⟩;have:y≠x:=fun e=>hj (yU hN e1 (e ▸ hi))
     simp[this,e]
    .exact .inr ⟨k,c,e,z.sameBut hs (cne y c e)⟩
  .obtain ⟨w',z⟩:=I.cell y c e;exact⟨w',z.sameBut hs (cne y c e)⟩
  .obtain ⟨e,n,ne,nf,d⟩:=I.pin p hp;exact⟨(hs.2 p.1 ne).trans e,n,ne,nf,d⟩
 .have hfn:X.fn x=true:=by
   rcases hf with z|z
   .exact z
   .rw [z]at hk;cases hk
  obtain⟨c,hc⟩:=I.ok.has x (.inl hk);obtain⟨w',z⟩:=I.cell x c hc;refine wpAny_storeName_cell I.ok.kind hk hc z (fun h' hc' hs=>?_)
  obtain⟨oc,hoc,hocd⟩:=id z;refine h { s with heap:=h' } ⟨I.ok,I.os,I.bare,⟨fun b o e n hb hx=>?_,fun b o e n hb hx=>?_,I.base.free,fun b o e hx=>?_,I.base.tups,I.base.frzs,I.base.tbls⟩,⟨m,hn.sameBut hs (Ne.symm (cne x c hc)),fun j y v' e1 e2 e3=>?_⟩,fun y c' e=>?_,I.free,I.freeC,fun p hp=>?_,tracked ⟨oc,hoc,I.freeC x c hc⟩ hs,by simpa using I.len⟩ ⟨c,hs,.inr hc⟩
  .exact (hs.2 b (SU (S7 (Sl e) (I.ok.cab x c hfn hc)))).trans (I.base.keep b o e n hb hx)
  .obtain ⟨sl,e1⟩:=I.base.slot b o e n hb hx;exact⟨sl,(hs.2 b (SU (S7 (Sl e) (I.ok.cab x c hfn hc)))).trans e1⟩
  .obtain ⟨o',e1⟩:=I.base.there b o e hx;exact⟨o',(hs.2 b (SU (S7 (Sl e) (I.ok.cab x c hfn hc)))).trans e1⟩
  .by_cases hj:j=i
   .subst hj;rw[hi]at e1;cases e1;rw[S6 hiσ]at e2;cases e2;exact⟨u,r,.inr ⟨.inl hk,c,hc,hc'⟩⟩
   .rw [SI (Ne.symm hj)]at e2;obtain⟨u',r',q⟩:=hl j y v' e1 e2 e3;refine⟨u',r',?_⟩;rcases q with q|⟨k,c',e,z'⟩
    .exact .inl q
    .refine .inr ⟨k,c',e,z'.sameBut hs ?_⟩;rintro rfl;exact hj (yU hN e1 (I.ok.inj _ _ _ e hc ▸ hi))
  .by_cases hcc:c'=c
   .subst hcc;exact⟨_,hc'⟩
   .obtain ⟨w2,z2⟩:=I.cell y c' e;exact⟨w2,z2.sameBut hs hcc⟩
  .obtain ⟨e,n,ne,nf,d⟩:=I.pin p hp;refine⟨(hs.2 p.1 ?_).trans e,n,ne,nf,d⟩;intro q;rw[q,hoc]at e;have q':oc=p.2:=Sz.inj e;exact d w' (by rw[←q'];exact hocd)
theorem ym{M:Model}{A:Around}{E:Value->Shared->Prop}{i:Nat}{x:Str}{v:V}{u:Value}{Q:Unit->Shared->Prop}(I:Inv X ab σ H s) (hN:X.N.Nodup) (hi:X.N[i]?=some x) (hx:Oj X.env.scope x) (r:cx v u)
  (h:∀s',Inv X ab (σ.set i (some v)) H s'->Q () s') (hf:X.fn x=true∨X.env.scope.names.lookup x=some .local:=by first|exact .inl rfl|exact .inr rfl|assumption):wpAny M A (storeName X.env x u) Q E s :=
 Eb I hN hi hx r (fun s' I' _=>h s' I') hf
theorem Inv.call'{s':Shared}{ch:List Addr}(I:Inv X ab σ H s) (ho:s'.os=s.os) (u:Un (G3 X.stack) ch H H' s.heap s'.heap) (hok:pD X.prog X.w H' s'.heap) (hg:AllBare s'.gens)
  (hch:∀b∈ch,(b∈X.ex∨X.s₀.heap.objs.size<=b)/\b≠X.env.locals/\(∀x c,X.env.cells.lookup x=some c->c≠b)/\∀p∈X.pn++ab,p.1≠b):Inv X ab σ H' s':=by
 obtain⟨h',g',d',t',o'⟩:=s';have e:o'=s.os:=ho;subst e;exact I.call (g':=g') (t':=t') (d':=d') u hok hg hch
end
abbrev XK:=Value->Option Addr->Hp->Prop
abbrev St:=List (Option V)
abbrev VK:=V->Hp->Prop
abbrev TE:=St->Hp->VK->Prop
abbrev TT:=St->Hp->(Bool->Hp->Prop)->Prop
abbrev TA:=St->Hp->(List V->Hp->Prop)->Prop
structure nY where
 nx:St->Hp->Prop
 rt:VK
 bk:St->Hp->Prop:=fun _ _=>False
 ct:St->Hp->Prop:=fun _ _=>False
abbrev TS:=nY->St->Hp->Prop
def EP(X:Cx) (ab:List (Addr×Obj)) (σ:St) (Q:VK) (u:Value) (s':Shared):Prop:=∃v H',Inv X ab σ H' s'/\cx v u/\Q v H'
def TP(X:Cx) (ab:List (Addr×Obj)) (σ:St) (Q:Bool->Hp->Prop) (b:Bool) (s':Shared):Prop:=∃H',Inv X ab σ H' s'/\Q b H'
def AP(X:Cx) (ab:List (Addr×Obj)) (σ:St) (Q:List V->Hp->Prop) (us:List Value) (s':Shared):Prop:=∃vs H',Inv X ab σ H' s'/\bz vs us/\Q vs H'
def SP(X:Cx) (ab:List (Addr×Obj)) (D:nY) (f:Flow) (s':Shared):Prop :=
 match f with
 | .next=>∃σ' H',Inv X ab σ' H' s'/\D.nx σ' H'
 | .brk=>∃σ' H',Inv X ab σ' H' s'/\D.bk σ' H'
 | .cont=>∃σ' H',Inv X ab σ' H' s'/\D.ct σ' H'
 | .ret u=>∃v σ' H',Inv X ab σ' H' s'/\cx v u/\D.rt v H'
def PE(X:Cx) (e:Expr) (t:TE):Prop :=
 ∀(ab:List (Addr×Obj)) (s:Shared) (σ:St) (H:Hp) (Q:VK),Inv X ab σ H s->t σ H Q->wpAny (model X.prog X.w) X.A (eval e X.env) (EP X ab σ Q) X.xe s
def PT(X:Cx) (e:Expr) (t:TT):Prop :=
 ∀(ab:List (Addr×Obj)) (s:Shared) (σ:St) (H:Hp) (Q:Bool->Hp->Prop),Inv X ab σ H s->t σ H Q->wpAny (model X.prog X.w) X.A (isTrue e X.env (eval e X.env)) (TP X ab σ Q) X.xe s
def PW(X:Cx) (e:Expr) (t:TT):Prop :=
 ∀(whole:Sem Value) (ab:List (Addr×Obj)) (s:Shared) (σ:St) (H:Hp) (Q:Bool->Hp->Prop),Inv X ab σ H s->t σ H Q->wpAny (model X.prog X.w) X.A (isTrue e X.env whole) (TP X ab σ Q) X.xe s
theorem PW.pt{X:Cx}{e:Expr}{t:TT}(h:PW X e t):PT X e t:=h _
def PA(X:Cx) (es:List Expr) (t:TA):Prop :=
 ∀(pos:Pos) (ab:List (Addr×Obj)) (s:Shared) (σ:St) (H:Hp) (Q:List V->Hp->Prop),Inv X ab σ H s->t σ H Q->wpAny (model X.prog X.w) X.A (spliced (backTo pos (starEach es X.env))) (AP X ab σ Q) X.xe s
def PS(X:Cx) (st:Stmt) (t:TS):Prop :=
 ∀(ab:List (Addr×Obj)) (s:Shared) (σ:St) (H:Hp) (D:nY),Inv X ab σ H s->t D σ H->wpAny (model X.prog X.w) X.A (exec st X.env) (SP X ab D) X.xe s
def Ef(X:Cx) (st:List Stmt) (t:TS):Prop :=
 ∀(ab:List (Addr×Obj)) (s:Shared) (σ:St) (H:Hp) (D:nY),Inv X ab σ H s->t D σ H->wpAny (model X.prog X.w) X.A (execs st X.env) (SP X ab D) X.xe s
theorem eE{α:Type}{t:Sem α}{Q Q':α->Shared->Prop}{M:Model}{A:Around}{E:Value->Shared->Prop}{s:Shared}(h:wpAny M A t Q E s) (hQ:∀a s,Q a s->Q' a s):wpAny M A t Q' E s:=wpAny_mono h hQ fun _ _ x=>x
section
variable {X:Cx}
noncomputable def kz(i:Nat):TE:=fun σ H Q=>∃v,σ[i]?=some (some v)/\Q v H
noncomputable def tC(v:V):TE:=fun _ H Q=>Q v H
theorem KQ{i:Nat}{x:Str}{pos:Pos}(hN:X.N[i]?=some x) (hv:Q4 X.env.scope x) (hd:(x == ("__debug__" : Str))=false:=by decide) (hcd:(x == ("__classdict__" : Str))=false:=by decide):PE X (.Name x pos) (kz i):=by
 intro ab s σ H Q I h;obtain⟨v,e,h⟩:=h;obtain⟨m,hn,hl⟩:=I.loc;obtain⟨u,r,l⟩:=hl i x v hN e hv;have fin:EP X ab σ Q u s:=⟨v,H,I,r,h⟩;rcases l with ⟨hk,hm⟩|⟨hk,c,hc,hcell⟩
 .exact wpAny_Name (wpAny_loadName_local I.ok.kind hk hn hm fin) hd
 .rcases hk with hk|hk
  .exact wpAny_Name (wpAny_loadName_cell I.ok.kind hk hc hcell fin) hd
  .exact wpAny_Name (wpAny_loadName_free I.ok.kind hk hc hcell fin hcd) hd
theorem ar{i j pos}:PE X (.Constant (.int i) j pos) (tC (.int i)):=fun _ _ _ H _ I h=>wpAny_Constant_int ⟨.int i,H,I.tok _,⟨_,rfl⟩,h⟩
theorem iJ{b j pos}:PE X (.Constant (.bool b) j pos) (tC (.bl b)):=fun _ _ _ H _ I h=>Constant_bool ⟨.bl b,H,I,rfl,h⟩
theorem Fb{j pos}:PE X (.Constant .none j pos) (tC .non):=fun _ _ _ H _ I h=>Constant_none ⟨.non,H,I,rfl,h⟩
def Gl(X:Cx) (x:Str):Prop:=X.env.kindOf x=some .globalImplicit
theorem IK{E:Value->Shared->Prop}{ab:List (Addr×Obj)}{s:Shared}{σ:St}{H:Hp}{x:Str}{u:Value}{pos:Pos}{Q:Value->Shared->Prop}(I:Inv X ab σ H s) (hg:Gl X x) (hm:X.mg x=some u) (h:Q u s)
  (hd:(x == ("__debug__" : Str))=false:=by decide):wpAny (model X.prog X.w) X.A (eval (.Name x pos) X.env) Q E s :=
 Calls.Name_function_global I.ok.kind hg (Calls.loadGlobal_global (by rw[I.ok.glob];exact I.mod.glob.keeps I.bk) hm h) hd
theorem mY{E:Value->Shared->Prop}{ab:List (Addr×Obj)}{s:Shared}{σ:St}{H:Hp}{x:Str}{u:Value}{pos:Pos}{Q:Value->Shared->Prop}(I:Inv X ab σ H s) (hg:Gl X x) (hm:X.mg x=none) (hv:bootBuiltins x=some u) (h:Q u s)
  (hn:x ≠ "__name__" := by decide) (hd:(x == ("__debug__" : Str))=false:=by decide):wpAny (model X.prog X.w) X.A (eval (.Name x pos) X.env) Q E s:=by
 obtain⟨mb,h1,h2⟩:=I.mod.blt;exact Calls.Name_function_global I.ok.kind hg (Calls.loadGlobal_builtin (by rw[I.ok.glob];exact I.mod.glob.keeps I.bk) hm (by rw[I.ok.blt];exact h1.keeps I.bk) ((h2 x hn).trans hv) h) hd
theorem gb{x:Str}{v:V}{u:Value}{pos:Pos}(hg:Gl X x) (hm:X.mg x=none) (hv:bootBuiltins x=some u) (r:cx v u) (hn:x ≠ "__name__" := by decide) (hd:(x == ("__debug__" : Str))=false:=by decide):PE X (.Name x pos) (tC v) :=
 fun _ _ _ H _ I h=>mY I hg hm hv ⟨v,H,I,r,h⟩ hn hd
variable {a b:Expr}{ta tb:TE}{pos:Pos}
def PC(X:Cx) (op:CmpOp) (a b:Expr) (t:TE):Prop :=
 ∀(ab:List (Addr×Obj)) (s:Shared) (σ:St) (H:Hp) (Q:VK),Inv X ab σ H s->t σ H Q ->
  wpAny (model X.prog X.w) X.A (eval a X.env) (fun v s₁=>wpAny (model X.prog X.w) X.A (eval b X.env) (fun u s₂=>wpAny (model X.prog X.w) X.A (compareOp op v u) (EP X ab σ Q) X.xe s₂) X.xe s₁) X.xe s
noncomputable def tB(t:TE):TT:=fun σ H Q=>t σ H fun x H1=>∃c,x = .bl c/\Q c H1
theorem oB{op:CmpOp}{t:TE}(h:PC X op a b t) (h1:behindInMarks op b=false:=by first|exact nobehind _ (by decide) (by decide)|rfl):PT X (.Compare a [op] [b] pos) (tB t):=by
 intro ab s σ H Q I hw;refine wpAny_isTrue_Compare1 (eE (h ab s σ H _ I hw) fun v s1 h1=>eE h1 fun u s2 h2=>eE h2 fun c s3 ⟨x,H1,I1,r1,q1⟩=>?_) h1
 obtain⟨d,rfl,q⟩:=q1;cases r1;exact wpAny_truthy_bool ⟨H1,I1,q⟩
theorem kf{e:Expr}{t:TE}(h:PE X e t) (he:∀whole,isTrue e X.env whole=(do let v ←whole;standAt e.pos;holding [v] (truthy v)):=by intro _;rfl):PT X e (tB t):=by
 intro ab s σ H Q I hw;refine isTrue_plain (eE (h ab s σ H _ I hw) fun v s1 ⟨x,H1,I1,r1,q1⟩=>?_) (he _)
 obtain⟨d,rfl,q⟩:=q1;cases r1;exact wpAny_truthy_bool ⟨H1,I1,q⟩
variable {tA tB':TT}{rest:List Expr}
noncomputable def Ry(t u:TT):TT:=fun σ H Q=>t σ H fun c H1=>if c=true then Q true H1 else u σ H1 Q
noncomputable def OX(t:TT):TT:=fun σ H Q=>t σ H fun c H1=>Q (!c) H1
theorem ur(ha:PT X a tA):PW X (.BoolOp .Or [a] pos) tA:=by
 intro wh ab s σ H Q I h;refine isTrue_or (eE (ha ab s σ H Q I h) fun c s1 e=>?_)
 cases c with
 |false=>exact isTrue_or_nil e
 |true=>exact e
theorem yc(ha:PT X a tA) (hb:PW X (.BoolOp .Or (b::rest) pos) tB'):PW X (.BoolOp .Or (a::b::rest) pos) (Ry tA tB'):=by
 intro wh ab s σ H Q I h;refine isTrue_or (eE (ha ab s σ H _ I h) fun c s1 ⟨H1,I1,q1⟩=>?_)
 cases c with
 |true=>exact⟨H1,I1,q1⟩
 |false=>exact hb wh ab s1 σ H1 Q I1 q1
theorem lY(ha:PT X a tA):PT X (.UnaryOp .Not a pos) (OX tA):=by
 intro ab s σ H Q I h;exact isTrue_not (ha ab s σ H (fun c H1=>Q (!c) H1) I h)
noncomputable def KN(ta tb:TE):TE:=fun σ H Q=>ta σ H fun x H1=>∃c,x = .bl c/\if c=true then tb σ H1 Q else Q (.bl false) H1
noncomputable def Ku(ta:TE):TE:=fun σ H Q=>ta σ H fun x H1=>∃c,x = .bl c/\Q (.bl (!c)) H1
theorem Az{op} {t:TE}(h:PE X a t):PE X (.BoolOp op [a] pos) t:=fun ab s σ H Q I hw=>BoolOp_one (h ab s σ H Q I hw)
theorem xS(ha:PE X a ta) (hb:PE X (.BoolOp .And (b::rest) pos) tb):PE X (.BoolOp .And (a::b::rest) pos) (KN ta tb):=by
 intro ab s σ H Q I h;refine BoolOp_and (eE (ha ab s σ H _ I h) fun v s1 ⟨x,H1,I1,r1,q1⟩=>?_)
 obtain⟨c,rfl,q1⟩:=q1;cases r1;refine wpAny_truthy_bool ?_;cases c with
 |true=>exact hb ab s1 σ H1 Q I1 q1
 |false=>exact⟨.bl false,H1,I1,rfl,q1⟩
theorem LH(ha:PE X a ta):PE X (.UnaryOp .Not a pos) (Ku ta):=by
 intro ab s σ H Q I h;refine UnaryOp_ (eE (ha ab s σ H _ I h) fun v s1 ⟨x,H1,I1,r1,q1⟩=>?_)
 obtain⟨c,rfl,q1⟩:=q1;cases r1;exact not_of (wpAny_truthy_bool ⟨.bl (!c),H1,I1,rfl,q1⟩)
end
def dP(K:W.Frag) (H:Hp) (a:Addr) (xs:List V):Prop :=
 Rd H a (.lst xs) ∨
  ∃(o:Obj) (its:Array Value) (n:Nat),K.lookup a=some o/\o.cls = .type "list" /\ o.dict=none/\o.data = .seq its n/\its.size<=sizeLine/\bz xs its.toList
def rF(K:W.Frag) (H:Hp) (a:Addr) (xs:List V):Prop :=
 Rd H a (.tup xs) ∨
  ∃(o:Obj) (its:Array Value) (n:Nat),K.lookup a=some o/\o.cls = .type "tuple" /\ o.data = .seq its n/\its.size<=sizeLine/\bz xs its.toList
noncomputable def P8:Value->Option V
 | .none=>some .non
 | .bool b=>some (.bl b)
 | .int i _=>some (.int i)
 | .str x _=>some (.str x)
 | .bytes b _=>some (.byt b)
 | .float b _=>some (.flt b)
 | .ref a=>some (.ref a)
 | .type n=>some (.ty n)
 |_=>none
theorem cx.abs{x:V}{u:Value}(r:cx x u):P8 u=some x:=by
 cases x with
 |non=>cases r;rfl
 |bl _=>cases r;rfl
 |int _=>obtain⟨t,rfl⟩:=r;rfl
 |str _=>obtain⟨t,rfl⟩:=r;rfl
 |byt _=>obtain⟨t,rfl⟩:=r;rfl
 |flt _=>obtain⟨t,rfl⟩:=r;rfl
 |ref _=>cases r;rfl
 |ty _=>cases r;rfl
theorem cx.inj{x y:V}{u:Value}(r:cx x u) (q:cx y u):x=y:=Sz.inj (r.abs.symm.trans q.abs)
theorem bz.inj:∀{xs ys:List V}{us:List Value},bz xs us->bz ys us->xs=ys
 |_,_,_,.nil,.nil=>rfl
 |_,_,_,.cons r t,.cons r' t'=>by rw[r.inj r',bz.inj t t']
section
variable {X:Cx}{ab:List (Addr×Obj)}{σ:St}{H:Hp}{s:Shared}{a:Addr}{xs ys:List V}
theorem dP.of{K:W.Frag}(h:H a=some (.lst xs)):dP K H a xs:=.inl (.inl h)
theorem rF.of{K:W.Frag}(h:H a=some (.tup xs)):rF K H a xs:=.inl (.inl h)
theorem Inv.list(I:Inv X ab σ H s) (h:dP X.K H a xs):∃its:List Value,bz xs its/\PlainL s.heap a its.toArray/\xs.length<=sizeLine:=by
 rcases h with h|⟨o,its,n,hk,hc,hd,hs,hz,r⟩
 .obtain ⟨z,its,n,r,e⟩:=h.ok I.hok;exact⟨its,r,⟨_,n,e,rfl,rfl,rfl⟩,z⟩
 .refine ⟨its.toList,r,⟨o,n,I.kIn a o hk,hc,hd,by simpa using hs⟩,?_⟩
  have e:=r.length;simp only[Sv]at e;lia
theorem Inv.tuple(I:Inv X ab σ H s) (h:rF X.K H a xs):∃its:List Value,bz xs its/\IsTup s.heap a its.toArray/\xs.length<=sizeLine:=by
 rcases h with h|⟨o,its,n,hk,hc,hs,hz,r⟩
 .obtain ⟨z,its,r,p⟩:=h.ok I.hok;exact⟨its,r,p,z⟩
 .refine ⟨its.toList,r,⟨o,I.kIn a o hk,hc,n,by simpa using hs⟩,?_⟩
  have e:=r.length;simp only[Sv]at e;lia
theorem Inv.list_inj(I:Inv X ab σ H s) (h:dP X.K H a xs) (h':dP X.K H a ys):xs=ys:=by
 obtain⟨its,r,⟨o,n,e,_,_,d⟩,_⟩:=I.list h;obtain⟨its',r',⟨o',n',e',_,_,d'⟩,_⟩:=I.list h';rw[e]at e';cases e';rw[d]at d';injection d' with d1 _
 have:its=its':=by simpa using congrArg Array.toList d1
 subst this;exact r.inj r'
end
noncomputable abbrev Cx.wish(X:Cx) (E:Value->Shared->Prop):Cx:={ X with xe:=E }
abbrev Cx.nox(X:Cx):Cx:=X.wish fun _ _=>False
theorem Cx.Ok.wish{X:Cx}(ok:X.Ok) (E:Value->Shared->Prop):(X.wish E).Ok :=
 ⟨ok.mod,ok.kind,ok.glob,ok.blt,ok.above,ok.inj,ok.has,ok.cab,ok.hd,ok.frames,ok.stk,ok.exf,ok.bs,ok.bsz,ok.noex,ok.exfs,ok.funs,ok.frf⟩
theorem Cx.Ok.unwish{X:Cx}{E:Value->Shared->Prop}(ok:(X.wish E).Ok):X.Ok :=
 ⟨ok.mod,ok.kind,ok.glob,ok.blt,ok.above,ok.inj,ok.has,ok.cab,ok.hd,ok.frames,ok.stk,ok.exf,ok.bs,ok.bsz,ok.noex,ok.exfs,ok.funs,ok.frf⟩
section
variable {X:Cx}{ab:List (Addr×Obj)}{σ:St}{H:Hp}{s:Shared}{E:Value->Shared->Prop}
theorem Inv.wish(I:Inv X ab σ H s) (E:Value->Shared->Prop):Inv (X.wish E) ab σ H s:=⟨I.ok.wish E,I.os,I.bare,I.base,I.loc,I.cell,I.free,I.freeC,I.pin,I.hok,I.len⟩
theorem Inv.unwish(I:Inv (X.wish E) ab σ H s):Inv X ab σ H s:=⟨I.ok.unwish,I.os,I.bare,I.base,I.loc,I.cell,I.free,I.freeC,I.pin,I.hok,I.len⟩
theorem SP.unwish{D:nY}{f:Flow}{s':Shared}(h:SP (X.wish E) ab D f s'):SP X ab D f s':=by
 cases f with
 |next=>obtain⟨σ',H',I,q⟩:=h;exact⟨σ',H',I.unwish,q⟩
 |brk=>obtain⟨σ',H',I,q⟩:=h;exact⟨σ',H',I.unwish,q⟩
 |cont=>obtain⟨σ',H',I,q⟩:=h;exact⟨σ',H',I.unwish,q⟩
 |ret u=>obtain⟨v,σ',H',I,r,q⟩:=h;exact⟨v,σ',H',I.unwish,r,q⟩
theorem Ef.nox{st:List Stmt}{t:TS}(h:Ef X.nox st t):Ef X st t:=fun ab s σ H D I hw =>
 wpAny_mono (h ab s σ H D (I.wish _) hw) (fun _ _ q=>q.unwish) fun _ _ z=>False.elim z
end
section
variable {X:Cx}{st:Stmt}{rest:List Stmt}{t u:TS}{e:Expr}{te:TE}{pos:Pos}
def KH:TS:=fun D σ H=>D.nx σ H
def Hb(t u:TS):TS:=fun D σ H=>t { D with nx:=u D } σ H
theorem bH:Ef X [] KH:=fun _ _ σ H _ I h=>wpAny_execs_nil ⟨σ,H,I,h⟩
theorem ae(h1:PS X st t) (h2:Ef X rest u):Ef X (st::rest) (Hb t u):=by
 intro ab s σ H D I h;refine wpAny_execs_cons (eE (h1 ab s σ H { D with nx:=u D } I h) fun f s1 q=>?_)
 cases f with
 |next =>
  obtain⟨σ',H',I',q⟩:=q;exact h2 ab s1 σ' H' D I' q
 |ret v=>exact q
 |brk=>exact q
 |cont=>exact q
theorem ao(h1:PS X st t):Ef X [st] t:=by
 intro ab s σ H D I h;refine wpAny_execs_cons (eE (h1 ab s σ H D I h) fun f s1 q=>?_)
 cases f with
 |next=>exact wpAny_execs_nil q
 |ret v=>exact q
 |brk=>exact q
 |cont=>exact q
theorem Inv.quiet{ab:List (Addr×Obj)}{σ:St}{H:Hp}{s:Shared}(I:Inv X ab σ H s):interactive X.env=false:=by simp[interactive,I.ok.kind]
def oh(te:TE):TS:=fun D σ H=>te σ H fun _ H1=>D.nx σ H1
theorem cv(he:PE X e te) (hs:swapsWith e none pos.line X.env=pure false:=by rfl):PS X (.Expr e pos) (oh te):=by
 intro ab s σ H D I h;exact wpAny_Expr_any (eE (he ab s σ H _ I h) fun v s1 ⟨x,H1,I1,r1,q1⟩=>⟨σ,H1,I1,q1⟩) I.quiet hs
noncomputable def OF(te:TE):TS:=fun D σ H=>te σ H D.rt
theorem aW(he:PE X e te):PS X (.Return (some e) pos) (OF te):=by
 intro ab s σ H D I h;exact wpAny_Return_some (eE (he ab s σ H _ I h) fun v s1 ⟨x,H1,I1,r1,q1⟩=>⟨x,σ,H1,I1,r1,q1⟩)
noncomputable def Ka(c:TT) (t u:TS):TS:=fun D σ H=>c σ H fun b H1=>if b=true then t D σ H1 else u D σ H1
theorem cZ{c:Expr}{a b:List Stmt}{tc:TT}(hc:PT X c tc) (ha:Ef X a t) (hb:Ef X b u):PS X (.If c a b pos) (Ka tc t u):=by
 intro ab s σ H D I h;refine wpAny_If (eE (hc ab s σ H _ I h) fun d s1 ⟨H1,I1,q1⟩=>?_)
 cases d with
 |true=>exact ha ab s1 σ H1 D I1 q1
 |false=>exact hb ab s1 σ H1 D I1 q1
end
abbrev TG:=V->St->Hp->(St->Hp->Prop)->Prop
abbrev Lf:=List V->St->Hp->(St->Hp->Prop)->Prop
def PG(X:Cx) (target:Expr) (t:TG):Prop :=
 ∀(ab:List (Addr×Obj)) (s:Shared) (σ:St) (H:Hp) (v:V) (u:Value) (Q:St->Hp->Prop),Inv X ab σ H s->cx v u->t v σ H Q ->
  wpAny (model X.prog X.w) X.A (assign target X.env u) (fun _ s'=>∃σ' H',Inv X ab σ' H' s'/\Q σ' H') X.xe s
def P1(X:Cx) (ts:List Expr) (t:Lf):Prop :=
 ∀(ab:List (Addr×Obj)) (s:Shared) (σ:St) (H:Hp) (vs:List V) (us:List Value) (Q:St->Hp->Prop),Inv X ab σ H s->bz vs us->t vs σ H Q ->
  wpAny (model X.prog X.w) X.A (assignInOrder ((assignEach ts X.env).map (·.2)) us) (fun _ s'=>∃σ' H',Inv X ab σ' H' s'/\Q σ' H') X.xe s
section
variable {X:Cx}{pos:Pos}
noncomputable def eD(i:Nat):TG:=fun v σ H Q=>Q (σ.set i (some v)) H
theorem bR{i:Nat}{x:Str}(hN:X.N.Nodup) (hi:X.N[i]?=some x) (hx:Oj X.env.scope x) (hf:X.fn x=true∨X.env.scope.names.lookup x=some .local:=by first|exact .inl rfl|exact .inr rfl|assumption):PG X (.Name x pos) (eD i):=by
 intro ab s σ H v u Q I r h;exact wpAny_assign_Name (ym I hN hi hx r (fun s' I'=>⟨_,H,I',h⟩) hf)
noncomputable def Ds:Lf:=fun vs σ H Q=>vs=[]/\Q σ H
noncomputable def nB(t:TG) (u:Lf):Lf:=fun vs σ H Q=>∃v r,vs=v::r/\t v σ H fun σ' H'=>u r σ' H' Q
theorem Bv:P1 X [] Ds:=by
 intro ab s σ H vs us Q I r h;obtain⟨e,h⟩:=h;subst e;cases r;exact assignInOrder_nil ⟨σ,H,I,h⟩
theorem pY{e:Expr}{es:List Expr}{t:TG}{u:Lf}(h1:PG X e t) (h2:P1 X es u)
  (hs:(assignEach (e::es) X.env).map (·.2)=assign e X.env::(assignEach es X.env).map (·.2):=by rfl):P1 X (e::es) (nB t u):=by
 intro ab s σ H vs us Q I r h;obtain⟨v,vr,e1,h⟩:=h;subst e1;cases r with
 |cons r rr =>
  rw[hs];refine assignInOrder_cons (eE (h1 ab s σ H _ _ _ I r h) fun _ s1 ⟨σ1,H1,I1,q1⟩=>?_)
  exact h2 ab s1 σ1 H1 _ _ Q I1 rr q1
noncomputable def C8(K:W.Frag) (n:Nat) (t:Lf):TG:=fun v σ H Q=>∃a xs,v = .ref a/\rF K H a xs/\xs.length=n/\t xs σ H Q
theorem Fq{es:List Expr}{k:Nat}{t:Lf}{n:Nat}(hc:X.calm=true) (h:P1 X es t)
  (hn:(assignEach es X.env).length=n:=by rfl) (hst:(assignEach es X.env).findIdx? (·.1)=none:=by rfl):PG X (.Tuple es k pos) (C8 X.K n t):=by
 intro ab s σ H v u Q I r hw;obtain⟨a,xs,e1,hq,hl,hw⟩:=hw;subst e1;cases r;obtain⟨its,rv,ht,hz⟩:=I.tuple hq;refine assign_Tuple_tuple (I.ok.hd hc) ht (by simp[hn,←hl,rv.length]) hst fun h' hx=>?_
 have I1:Inv X ab σ H { s with heap:=h' }:=I.kept (t':=s.toks) fun b o e=>hx b o (SU (Sl e)) e
 exact h ab _ σ H xs _ Q I1 (by simpa using rv) hw
def Ao(te:TE) (g:TG):TS:=fun D σ H=>te σ H fun x H1=>g x σ H1 D.nx
theorem ay{i:Nat}{x:Str}{e:Expr}{te:TE}{pos':Pos}(hN:X.N.Nodup) (hi:X.N[i]?=some x) (hx:Oj X.env.scope x) (he:PE X e te) (hs:swapsWith e (some (.Name x pos')) pos.line X.env=pure false:=by rfl) (hf:X.fn x=true∨X.env.scope.names.lookup x=some .local:=by first|exact .inl rfl|exact .inr rfl|assumption) :
  PS X (.Assign [.Name x pos'] e pos) (Ao te (eD i)):=by
 intro ab s σ H D I h;refine wpAny_Assign_Name (eE (he ab s σ H _ I h) fun v s1 ⟨y,H1,I1,r1,q1⟩=>?_) hs
 exact ym I1 hN hi hx r1 (fun s2 I2=>⟨_,H1,I2,q1⟩) hf
end
section
variable {X:Cx}{pos:Pos}
def GK(c:TT) (tb:TS):TS:=fun D σ H=>∃W:Nat->St->Hp->Prop,(∃m,W m σ H)/\∀m σ H,W m σ H ->
 c σ H fun b H1=>if b=true then ∃N:St->Hp->Prop,(∀σ' H',N σ' H'->∃m',m'<m/\W m' σ' H')/\tb { D with nx:=N,ct:=N,bk:=D.nx } σ H1 else D.nx σ H1
theorem jz{c:Expr}{body:List Stmt}{tc:TT}{tb:TS}(hp:PassesOwn (model X.prog X.w) X.A X.env X.xe) (hc:PT X c tc) (hb:Ef X body tb):PS X (.While c body [] pos) (GK tc tb):=by
 intro ab s σ H D I h;obtain⟨W,⟨m0,w0⟩,turn⟩:=h;refine wpAny_While (codeAny_whileLoop (fun n s'=>∃σ' H',Inv X ab σ' H' s'/\W n σ' H') ?_ m0 ⟨σ,H,I,w0⟩)
 rintro n s1 ⟨σ1,H1,I1,w1⟩;refine wpAny_passesOwn hp (eE (hc ab s1 σ1 H1 _ I1 (turn n σ1 H1 w1)) fun b s2 ⟨H2,I2,q2⟩=>?_)
 cases b with
 |true =>
  obtain⟨N,hN,q2⟩:=q2;rw[if_pos rfl];refine wpAny_passesOwn hp (eE (hb ab s2 σ1 H2 _ I2 q2) fun f s3 q3=>?_)
  cases f with
  |next =>
   obtain⟨σ3,H3,I3,n3⟩:=q3;obtain⟨m',hm,w3⟩:=hN σ3 H3 n3;exact⟨m',hm,σ3,H3,I3,w3⟩
  |cont =>
   obtain⟨σ3,H3,I3,n3⟩:=q3;obtain⟨m',hm,w3⟩:=hN σ3 H3 n3;exact⟨m',hm,σ3,H3,I3,w3⟩
  |brk=>exact q3
  |ret v=>exact q3
 |false =>
  rw[if_neg SN];exact wpAny_execs_nil ⟨σ1,H2,I2,q2⟩
end
structure It where
 go:Nat->Hp->Prop
 yld:Nat->Hp->V->Hp->Prop
 stop:Nat->Hp->Prop
def rP(X:Cx) (ab:List (Addr×Obj)) (H:Hp) (b:Addr):Prop :=
 H b=none/\b≠X.env.locals/\b∉X.fs/\(b∈X.ex∨X.s₀.heap.objs.size<=b)/\(∀x c,X.env.cells.lookup x=some c->c≠b)/\∀p∈X.pn++ab,p.1≠b
theorem Inv.fpOk{X:Cx}{ab:List (Addr×Obj)}{σ:St}{H H':Hp}{s:Shared}{b:Addr}(I:Inv X ab σ H s) (hb:s.heap.objs.size<=b) (hn:H' b=none):rP X ab H' b:=by
 refine⟨hn,UY (S7 I.lt hb),I.nofs hb,.inr (TV I.sz hb),fun x c e z=>?_,fun p hp z=>?_⟩
 .obtain ⟨v,q⟩:=I.cell x c e;exact absurd (S7 q.lt (by rw[z];exact hb)) (UG _)
 .exact absurd (S7 (Sl (I.pin p hp).1) (by rw[z];exact hb)) (UG _)
structure Ag (P:Program) (w:World) (K:W.Frag) (tg:Expr) (J:It) (fp:List Addr) (it:Addr) (tn:Nat->Heap->Prop):Prop where
 mem:it∈fp
 obj:∀i h,tn i h->∀b∈fp,∃o,h.get? b=some o/\∀v,o.data ≠ .cell v
 keep:∀i h h',tn i h->(∀b∈fp,∀o,h.get? b=some o->h'.get? b=some o)->tn i h'
 item:∀(X:Cx),X.prog=P->X.w=w->X.K=K->X.calm=true->∀(i:Nat) (ab:List (Addr×Obj)) (s:Shared) (σ:St) (H:Hp) (E:Value->Shared->Prop),Inv X ab σ H s->(∀b∈fp,rP X ab H b)->tn i s.heap->J.go i H ->
  wpAny (model P w) X.A (pyNext (.ref it)) (fun r s1=>∃u,r=some u /\
   wpAny (model P w) X.A (letOwnedTupleGo tg (.ref it) u) (fun _ s2=>∃x H',Inv X ab σ H' s2/\cx x u/\J.yld i H x H'/\tn (i+1) s2.heap/\∀b∈fp,H' b=none) E s1) E s
 done:∀(X:Cx),X.prog=P->X.w=w->X.K=K->X.calm=true->∀(i:Nat) (ab:List (Addr×Obj)) (s:Shared) (σ:St) (H:Hp) (E:Value->Shared->Prop),Inv X ab σ H s->(∀b∈fp,rP X ab H b)->tn i s.heap->J.stop i H ->
  wpAny (model P w) X.A (pyNext (.ref it)) (fun r s1=>r=none/\Inv X ab σ H s1) E s
 self:∀(A:Around) (i:Nat) (s:Shared) (Q:Value->Shared->Prop) (E:Value->Shared->Prop),tn i s.heap->Q (.ref it) s->wpAny (model P w) A (pyIter (.ref it)) Q E s
abbrev TI:=St->Hp->(It->Hp->Prop)->Prop
def Rm(X:Cx) (ab:List (Addr×Obj)) (σ:St) (tg:Expr) (R:It->Hp->Prop) (itv:Value) (s2:Shared):Prop :=
 ∃(it:Addr) (fp:List Addr) (tn:Nat->Heap->Prop) (J:It) (H':Hp),itv = .ref it/\Inv X ab σ H' s2/\Ag X.prog X.w X.K tg J fp it tn/\tn 0 s2.heap/\(∀b∈fp,rP X ab H' b)/\R J H'
def PI(X:Cx) (tg ir:Expr) (wi:TI):Prop :=
 ∀(ab:List (Addr×Obj)) (s:Shared) (σ:St) (H:Hp) (R:It->Hp->Prop),Inv X ab σ H s->wi σ H R ->
  wpAny (model X.prog X.w) X.A (eval ir X.env) (fun v s1=>wpAny (model X.prog X.w) X.A (pyIter v) (Rm X ab σ tg R) X.xe s1) X.xe s
theorem HF{M:Model}{A:Around}{E:Value->Shared->Prop}{s:Shared}{tg:Expr}{it:Addr}{u:Value}{o:Obj}{n:String}{vs:Array Value}{Q:Unit->Shared->Prop}(ho:s.heap.get? it=some o) (hc:o.cls = .type n) (hd:o.data = .fields vs)
    (hn:["enumerate", "zip", "dict_itemiterator", "dict_reverseitemiterator", "odict_iterator", "itertools.zip_longest", "itertools.pairwise"].contains n=false) (hQ:Q () s):wpAny M A (letOwnedTupleGo tg (.ref it) u) Q E s:=by
  unfold letOwnedTupleGo;cases tg <;> first
    |exact wpAny_pure hQ
    | (cases u <;> first
        |exact wpAny_pure hQ
        | (refine wpAny_bind (wpAny_load ho ?_)
           rw[hc,hd];show wpAny M A (if (["enumerate", "zip", "dict_itemiterator", "dict_reverseitemiterator", "odict_iterator", "itertools.zip_longest", "itertools.pairwise"].contains n && vs[0]? == some (rawInt _))=true then _ else _) Q E s
           rw[if_neg (by intro h;rw[hn,W6]at h;cases h)]
           exact wpAny_pure hQ))
noncomputable def NF(K:W.Frag) (a:Addr):It :=
 ⟨fun i H=>∃xs x,dP K H a xs/\xs[i]?=some x,fun i H x H'=>H'=H/\∀xs,dP K H a xs->xs[i]?=some x,fun i H=>∃xs,dP K H a xs/\xs.length<=i⟩
noncomputable def Ig(lo:Int) (n:Nat):It:=⟨fun i _=>i<n,fun i H x H'=>H'=H/\x = .int (lo+i),fun i _=>n<=i⟩
theorem DY{P:Program}{w:World}{K:W.Frag}{tg:Expr}(a it:Addr):Ag P w K tg (NF K a) [it] it (fun i h=>h.IsListIter it a i) where
 mem:=by simp
 obj:=fun i h st b hb=>by
  have e:b=it:=by simpa using hb
  subst e;obtain⟨o,e,c,d⟩:=st;exact⟨o,e,fun v z=>by rw[d]at z;cases z⟩
 keep:=fun i h h' st k=>st.at fun o e=>k it (by simp) o e
 item:=by
  intro X hP hw hK hc i ab s σ H E I hf st hg;subst hP hw hK;obtain⟨xs,x,hq,hx⟩:=hg;obtain⟨its,rv,p,hz⟩:=I.list hq;obtain⟨u,hu,ru⟩:=rv.get hx;obtain⟨f0,f1,f2,f3,f4,f5⟩:=hf it (by simp)
  refine wpAny_pyNext_list_item st p.isList (x:=u) (by simpa using hu) fun h' st' sb=>?_
  have I1:Inv X ab σ H { s with heap:=h' }:=I.turned (t':=s.toks) (fun b o hb e=>(sb.2 b hb).trans e) f0 f1 f3 f4 f5
  obtain⟨o,e,c,d⟩:=id st';exact⟨u,rfl,HF (s:={ s with heap:=h' }) e c d (by decide) ⟨x,H,I1,ru,⟨rfl,fun ys hy=>by rw[I.list_inj hy hq];exact hx⟩,st',fun b hb=>(hf b hb).1⟩⟩
 done:=by
  intro X hP hw hK hc i ab s σ H E I hf st hg;subst hP hw hK;obtain⟨xs,hq,hx⟩:=hg;obtain⟨its,rv,p,hz⟩:=I.list hq;obtain⟨f0,f1,f2,f3,f4,f5⟩:=hf it (by simp)
  have hl:=rv.length;exact wpAny_pyNext_list_end (I.ok.hd hc) st p.isList (by simp;lia) fun h' eb=>⟨rfl,I.turned (t':=s.toks) (fun b o hb e=>eb b o hb e) f0 f1 f3 f4 f5⟩
 self:=fun _ _ _ _ _ st h=>wpAny_pyIter_listiter st h
theorem AE{P:Program}{w:World}{K:W.Frag}{tg:Expr}(it:Addr) (lo:Int) (n:Nat):Ag P w K tg (Ig lo n) [it] it (fun i h=>IsRangeIter h it (lo+(i:Nat)*1) ((n:Int)-(i:Nat)) 1) where
 mem:=by simp
 obj:=fun i h st b hb=>by
  have e:b=it:=by simpa using hb
  subst e;exact⟨_,st,fun v z=>by
   have z':Data.fields _=Data.cell v:=z;cases z'⟩
 keep:=fun i h h' st k=>k it (by simp) _ st
 item:=by
  intro X hP hw hK hc i ab s σ H E I hf st hg;subst hP hw hK;obtain⟨f0,f1,f2,f3,f4,f5⟩:=hf it (by simp)
  have W:=Walks.range (prog:=X.prog) (w:=X.w) (I.ok.hd hc) it lo 1 n;refine W.item i s _ _ hg st fun v h' tk hv st' kk=>?_
  obtain⟨t,rfl⟩:=hv;have I1:Inv X ab σ H { s with heap:=h',toks:=tk }:=I.turned (fun b o hb e=>kk b o (by simpa using hb) e) f0 f1 f3 f4 f5
  refine⟨_,rfl,HF (s:={ s with heap:=h',toks:=tk }) (n := "range_iterator") st' rfl rfl (by decide) ⟨.int (lo+i),H,I1,⟨t,?_⟩,⟨rfl,rfl⟩,st',fun b hb=>(hf b hb).1⟩⟩
  rw[Int.mul_one]
 done:=by
  intro X hP hw hK hc i ab s σ H E I hf st hg;subst hP hw hK;obtain⟨f0,f1,f2,f3,f4,f5⟩:=hf it (by simp)
  exact wpAny_pyNext_range_end (I.ok.hd hc) st (by have:n<=i:=hg;lia) fun h' eb=>⟨rfl,I.turned (t':=s.toks) (fun b o hb e=>eb b o hb e) f0 f1 f3 f4 f5⟩
 self:=fun _ _ _ _ _ st h=>wpAny_pyIter_rangeiter st h
section
variable {X:Cx}{tg:Expr}
def EI(K:W.Frag) (tl:TE):TI:=fun σ H R=>tl σ H fun x H1=>∃a,x = .ref a/\(∃xs,dP K H1 a xs)/\R (NF K a) H1
theorem cC{l:Expr}{tl:TE}(hl:PE X l tl):PI X tg l (EI X.K tl):=by
 intro ab s σ H R I h;refine eE (hl ab s σ H _ I h) fun v s1 ⟨x,H1,I1,r1,q1⟩=>?_
 obtain⟨a,e,⟨xs,hq⟩,q⟩:=q1;subst e;cases r1;obtain⟨its,rv,p,hz⟩:=I1.list hq;refine wpAny_pyIter_list p.isList ?_;refine⟨s1.heap.objs.size,[s1.heap.objs.size],_,_,H1,rfl,I1.kept (t':=s1.toks) fun b o e=>Sn _ e,DY a _,⟨_,Tp _ rfl,rfl,rfl⟩,fun b hb=>?_,q⟩
 have e:b=s1.heap.objs.size:=by simpa using hb
 subst e;exact I1.fpOk (Sg _) (I1.hok.fresh (Sg _))
theorem FW{ab:List (Addr×Obj)}{σ:St}{H:Hp}{s:Shared}{R:It->Hp->Prop}{E:Value->Shared->Prop}{lo hi:Int}{t u v:Tok}{tk:Nat}(I:Inv X ab σ H s) (h1:-(2 ^ 62)<=lo) (h2:lo<2 ^ 62) (h3:-(2 ^ 62)<=hi) (h4:hi<2 ^ 62)
  (q:R (Ig lo (hi-lo).toNat) H):wpAny (model X.prog X.w) X.A (pyIter (.ref s.heap.objs.size)) (Rm X ab σ tg R) E { s with heap:=s.heap.push { cls:=.type "range", data:=.fields #[.int lo t,.int hi u,.int 1 v] },toks:=tk }:=by
 refine wpAny_pyIter_range (IsRange.new ..) (small_one h1 h2 h3 h4) ?_;have I1:Inv X ab σ H { s with heap:=s.heap.push { cls:=.type "range", data:=.fields #[.int lo t,.int hi u,.int 1 v] },toks:=tk }:=I.kept fun b o e=>Sn _ e
 refine⟨(s.heap.push { cls:=.type "range", data:=.fields #[.int lo t,.int hi u,.int 1 v] }).objs.size,[(s.heap.push { cls:=.type "range", data:=.fields #[.int lo t,.int hi u,.int 1 v] }).objs.size],_,_,H,rfl,
  I1.kept (t':=tk) fun b o e=>Sn _ e,AE _ lo (hi-lo).toNat,?_,fun b hb=>?_,q⟩
 .have e1:lo+((0:Nat):Int)*1=lo:=by simp
  have e2:(((hi-lo).toNat:Nat):Int)-((0:Nat):Int)=Builtin.Range.rangeSize lo hi 1:=by rw[rangeSize_one];split <;> lia
  show IsRangeIter _ _ (lo+((0:Nat):Int)*1) ((((hi-lo).toNat:Nat):Int)-((0:Nat):Int)) 1;rw[e1,e2];exact Tp _ rfl
 .have e:b=(s.heap.push { cls:=.type "range", data:=.fields #[.int lo t,.int hi u,.int 1 v] }).objs.size:=by simpa using hb
  subst e;exact I1.fpOk (Sg _) (I1.hok.fresh (Sg _))
def EH(ta:TA):TI:=fun σ H R=>ta σ H fun vs H1=>∃j:Int,vs=[.int j]/\-(2 ^ 62)<=j/\j<2 ^ 62/\R (Ig 0 j.toNat) H1
theorem je{a:Expr}{ta:TA}{p pos:Pos}(hg:Gl X "range") (hm:X.mg "range" = none) (ha:PA X [a] ta) (hs:starEach [a] X.env=[(false,eval a X.env)]:=by rfl):PI X tg (.Call (.Name "range" p) [a] [] pos) (EH ta):=by
 intro ab s σ H R I h;refine Call_ (mY I hg hm boot_range (TU (eE (ha pos ab s σ H _ I h) fun us s1 ⟨vs,H1,I1,r1,q1⟩=>?_) hs rfl))
 obtain⟨j,e,q1,q2,q⟩:=q1;subst e;cases r1 with
 |cons r rr =>
  cases rr;obtain⟨t,rfl⟩:=r;exact call_range_1 (FW I1 (by lia) (by lia) q1 q2 (by simpa using q))
def DG(wi:TI) (g:TG) (tb:TS):TS:=fun D σ H=>wi σ H fun J H1=>∃W:Nat->Nat->St->Hp->Prop,(∃m,W 0 m σ H1)/\∀i m σ H,W i m σ H ->
 (J.stop i H/\D.nx σ H)∨(J.go i H/\∃N:St->Hp->Prop,(∀σ' H',N σ' H'->∃m',m'<m/\W (i+1) m' σ' H')/\∀x H',J.yld i H x H'->g x σ H' fun σ2 H2=>tb { D with nx:=N,ct:=N,bk:=D.nx } σ2 H2)
noncomputable def uF(fp:List Addr) (h:Heap):List (Addr×Obj):=fp.filterMap fun b=>(h.get? b).map fun o=>(b,o)
theorem mE{fp:List Addr}{h:Heap}{b:Addr}{o:Obj}(hb:b∈fp) (e:h.get? b=some o):(b,o)∈uF fp h:=WG.mpr ⟨b,hb,by rw[e];rfl⟩
theorem DQ{fp:List Addr}{h:Heap}{p:Addr×Obj}(hp:p∈uF fp h):p.1∈fp/\h.get? p.1=some p.2:=by
 obtain⟨b,hb,e⟩:=WG.mp hp;cases q:h.get? b with
 |none=>rw[q]at e;cases e
 |some o =>
  rw[q]at e;have e':(b,o)=p:=Sz.inj e;subst e';exact⟨hb,q⟩
theorem Inv.pinned{ab:List (Addr×Obj)}{σ:St}{H:Hp}{s:Shared}{fp:List Addr}(I:Inv X ab σ H s) (hf:∀b∈fp,rP X ab H b) (ho:∀b∈fp,∃o,s.heap.get? b=some o/\∀v,o.data ≠ .cell v):Inv X (ab++uF fp s.heap) σ H s :=
 I.pins_of fun p hp=>(mAq.mp hp).elim (fun z=>I.pin p (SB _ z)) fun z=>by
  obtain⟨hb,e⟩:=DQ z;obtain⟨f0,f1,f2,_⟩:=hf p.1 hb;obtain⟨o,e',d⟩:=ho p.1 hb;rw[e]at e';cases e';exact⟨e,f0,f1,f2,d⟩
theorem Inv.unpinned{ab pl:List (Addr×Obj)}{σ:St}{H:Hp}{s:Shared}(I:Inv X (ab++pl) σ H s):Inv X ab σ H s:=I.pins_of fun p hp=>I.pin p (SB _ (T7 _ hp))
theorem dk{ir:Expr}{body:List Stmt}{wi:TI}{g:TG}{tb:TS}{pos:Pos}(hp:PassesOwn (model X.prog X.w) X.A X.env X.xe) (hc:X.calm=true) (hi:PI X tg ir wi) (hg:PG X tg g) (hb:Ef X body tb)
  (hs:∀x,foldedSetIterable ir X.env x=pure x:=by intro _;rfl):PS X (.For tg ir body [] pos) (DG wi g tb):=by
 intro ab s σ H D I h;refine wpAny_For (eE (hi ab s σ H _ I h) fun v s1 h1=>eE h1 fun itv s2 h2=>?_) hs
 obtain⟨it,fp,tn,J,H2,e,I2,T,st2,f2,W,⟨m0,w0⟩,turn⟩:=h2;subst e;have stat:∀{H':Hp},(∀b∈fp,H' b=none)->∀b∈fp,rP X ab H' b:=fun hn b hb=>⟨hn b hb,(f2 b hb).2⟩
 refine codeAny_forLoop_any (fun n s'=>∃i σ' H',Inv X ab σ' H' s'/\tn i s'.heap/\(∀b∈fp,H' b=none)/\W i n σ' H') ?_ m0 ⟨0,σ,H2,I2,st2,fun b hb=>(f2 b hb).1,w0⟩
 rintro n s3 ⟨i,σ3,H3,I3,st3,fr3,w3⟩;rcases turn i n σ3 H3 w3 with ⟨stop,qn⟩|⟨go,N,hN,step⟩
 .refine wpAny_passesOwn hp (eE (T.done X rfl rfl rfl hc i ab s3 σ3 H3 X.xe I3 (stat fr3) st3 stop) fun r s4 ⟨hr,I4⟩=>?_)
  subst hr;exact wpAny_execs_nil ⟨σ3,H3,I4,qn⟩
 .refine wpAny_passesOwn hp (eE (T.item X rfl rfl rfl hc i ab s3 σ3 H3 X.xe I3 (stat fr3) st3 go) fun r s4 ⟨u,hr,h4⟩=>?_)
  subst hr;refine wpAny_passesOwn hp (eE h4 fun _ s5 ⟨x,H5,I5,r5,y5,st5,fr5⟩=>?_)
  have I5':=I5.pinned (stat fr5) (T.obj _ _ st5);refine wpAny_passesOwn hp (eE (hg _ s5 σ3 H5 x u _ I5' r5 (step x H5 y5)) fun _ s6 ⟨σ6,H6,I6,q6⟩=>?_)
  refine wpAny_passesOwn hp (eE (hb _ s6 σ6 H6 _ I6 q6) fun f s7 q7=>?_)
  have again:∀{σ7:St}{H7:Hp},Inv X (ab++uF fp s5.heap) σ7 H7 s7->N σ7 H7->∃m,m<n/\∃i σ' H',Inv X ab σ' H' s7/\tn i s7.heap/\(∀b∈fp,H' b=none)/\W i m σ' H':=fun {σ7 H7} I7 n7=>by
   obtain⟨m',hm,w7⟩:=hN σ7 H7 n7;refine⟨m',hm,i+1,σ7,H7,I7.unpinned,T.keep _ _ _ st5 fun b hb o e=>(I7.pin (b,o) (SB _ (SB _ (mE hb e)))).1,fun b hb=>?_,w7⟩
   obtain⟨o,e,d⟩:=T.obj _ _ st5 b hb;exact(I7.pin (b,o) (SB _ (SB _ (mE hb e)))).2.1
  cases f with
  |next=>obtain⟨σ7,H7,I7,n7⟩:=q7;exact again I7 n7
  |cont=>obtain⟨σ7,H7,I7,n7⟩:=q7;exact again I7 n7
  |brk=>obtain⟨σ7,H7,I7,q7⟩:=q7;exact⟨σ7,H7,I7.unpinned,q7⟩
  |ret v=>obtain⟨x7,σ7,H7,I7,r7,q7⟩:=q7;exact⟨x7,σ7,H7,I7.unpinned,r7,q7⟩
end
theorem GL{K:W.Frag}{a:Addr}{xs:List V}{g:TG}{tb:TS}{D:nY}{σ:St}{H:Hp}(Pv:Nat->St->Hp->Prop) (h0:Pv 0 σ H) (hl:∀i σ H,i<=xs.length->Pv i σ H->dP K H a xs)
  (hs:∀i x σ H,xs[i]?=some x->Pv i σ H->g x σ H fun σ2 H2=>tb { D with nx:=Pv (i+1),ct:=Pv (i+1),bk:=D.nx } σ2 H2) (hd:∀σ H,Pv xs.length σ H->D.nx σ H) :
  ∃W:Nat->Nat->St->Hp->Prop,(∃m,W 0 m σ H)/\∀i m σ H,W i m σ H ->
   ((NF K a).stop i H/\D.nx σ H)∨((NF K a).go i H/\∃N:St->Hp->Prop,(∀σ' H',N σ' H'->∃m',m'<m/\W (i+1) m' σ' H')/\∀x H',(NF K a).yld i H x H'->g x σ H' fun σ2 H2=>tb { D with nx:=N,ct:=N,bk:=D.nx } σ2 H2):=by
 refine⟨fun i m σ H=>m=xs.length-i/\i<=xs.length/\Pv i σ H,⟨xs.length,by simp,Tf _,h0⟩,?_⟩
 rintro i m σ H ⟨rfl,hi,p⟩;have q:=hl i σ H hi p
 by_cases hlt:i<xs.length
 .refine .inr ⟨⟨xs,xs[i],q,by simp[hlt]⟩,Pv (i+1),fun σ' H' p'=>⟨xs.length-(i+1),by lia,rfl,hlt,p'⟩,fun x H' y=>?_⟩
  obtain⟨e,y⟩:=y;subst e;exact hs i x σ _ (y xs q) p
 .have e:i=xs.length:=by lia
  subst e;exact .inl ⟨⟨xs,q,Sg _⟩,hd σ H p⟩
theorem CU{lo:Int}{n:Nat}{g:TG}{tb:TS}{D:nY}{σ:St}{H:Hp}(Pv:Nat->St->Hp->Prop) (h0:Pv 0 σ H)
  (hs:∀i σ H,i<n->Pv i σ H->g (.int (lo+i)) σ H fun σ2 H2=>tb { D with nx:=Pv (i+1),ct:=Pv (i+1),bk:=D.nx } σ2 H2) (hd:∀σ H,Pv n σ H->D.nx σ H) :
  ∃W:Nat->Nat->St->Hp->Prop,(∃m,W 0 m σ H)/\∀i m σ H,W i m σ H ->
   ((Ig lo n).stop i H/\D.nx σ H)∨((Ig lo n).go i H/\∃N:St->Hp->Prop,(∀σ' H',N σ' H'->∃m',m'<m/\W (i+1) m' σ' H')/\∀x H',(Ig lo n).yld i H x H'->g x σ H' fun σ2 H2=>tb { D with nx:=N,ct:=N,bk:=D.nx } σ2 H2):=by
 refine⟨fun i m σ H=>m=n-i/\i<=n/\Pv i σ H,⟨n,by simp,Tf _,h0⟩,?_⟩
 rintro i m σ H ⟨rfl,hi,p⟩
 by_cases hlt:i<n
 .refine .inr ⟨hlt,Pv (i+1),fun σ' H' p'=>⟨n-(i+1),by lia,rfl,hlt,p'⟩,fun x H' y=>?_⟩
  obtain⟨e,y⟩:=y;subst e y;exact hs i σ _ hlt p
 .have e:i=n:=by lia
  subst e;exact .inl ⟨Sg _,hd σ H p⟩
abbrev R2:=V->V->Hp->VK->Prop
def vh(X:Cx) (f:Value->Value->Sem Value) (r:R2):Prop :=
 ∀(ab:List (Addr×Obj)) (s:Shared) (σ:St) (H:Hp) (x y:V) (v u:Value) (Q:VK),Inv X ab σ H s->cx x v->cx y u->r x y H Q ->
  wpAny (model X.prog X.w) X.A (f v u) (EP X ab σ Q) X.xe s
def QD(X:Cx) (f:Value->Sem Value) (r:V->Hp->VK->Prop):Prop :=
 ∀(ab:List (Addr×Obj)) (s:Shared) (σ:St) (H:Hp) (x:V) (v:Value) (Q:VK),Inv X ab σ H s->cx x v->r x H Q ->
  wpAny (model X.prog X.w) X.A (f v) (EP X ab σ Q) X.xe s
def eC(X:Cx) (f:Value) (r:List V->Hp->VK->Prop):Prop :=
 ∀(ab:List (Addr×Obj)) (s:Shared) (σ:St) (H:Hp) (xs:List V) (us:List Value) (Q:VK),Inv X ab σ H s->bz xs us->r xs H Q ->
  wpAny (model X.prog X.w) X.A (call f us) (EP X ab σ Q) X.xe s
def Q1(X:Cx) (r:V->Hp->(Bool->Hp->Prop)->Prop):Prop :=
 ∀(ab:List (Addr×Obj)) (s:Shared) (σ:St) (H:Hp) (x:V) (v:Value) (Q:Bool->Hp->Prop),Inv X ab σ H s->cx x v->r x H Q ->
  wpAny (model X.prog X.w) X.A (truthy v) (TP X ab σ Q) X.xe s
noncomputable def J1(r:R2) (ta tb:TE):TE:=fun σ H Q=>ta σ H fun x H1=>tb σ H1 fun y H2=>r x y H2 Q
noncomputable def Re(r:V->Hp->VK->Prop) (ta:TE):TE:=fun σ H Q=>ta σ H fun x H1=>r x H1 Q
def rI(C:Int->Int->Prop) (g:Int->Int->V):R2:=fun x y H Q=>∃i j,x = .int i/\y = .int j/\C i j/\Q (g i j) H
noncomputable def GH(g:Int->Int->V):R2:=fun x y H Q=>∃i j,x = .int i/\y = .int j/\Q (g i j) H
def rU(g:Int->V):V->Hp->VK->Prop:=fun x H Q=>∃i,x = .int i/\Q (g i) H
section
variable {X:Cx}{a b c:Expr}{ta tb tc:TE}{pos:Pos}
theorem KP(ha:PE X a ta) (hb:PE X b tb) {ab:List (Addr×Obj)}{s:Shared}{σ:St}{H:Hp}{R:V->V->Hp->Prop}(I:Inv X ab σ H s)
  (h:ta σ H fun x H1=>tb σ H1 fun y H2=>R x y H2) {Q:Value->Shared->Prop}{f:Value->Value->Sem Value}
  (hf:∀v u s2 x y H2,Inv X ab σ H2 s2->cx x v->cx y u->R x y H2->wpAny (model X.prog X.w) X.A (f v u) Q X.xe s2) :
  wpAny (model X.prog X.w) X.A (eval a X.env) (fun v s₁=>wpAny (model X.prog X.w) X.A (eval b X.env) (fun u s₂=>wpAny (model X.prog X.w) X.A (f v u) Q X.xe s₂) X.xe s₁) X.xe s:=by
 refine eE (ha ab s σ H _ I h) fun v s1 ⟨x,H1,I1,r1,q1⟩=>?_
 refine eE (hb ab s1 σ H1 _ I1 q1) fun u s2 ⟨y,H2,I2,r2,q2⟩=>?_
 exact hf v u s2 x y H2 I2 r1 r2 q2
theorem aQ{op:Operator}{r:R2}(ho:vh X (binaryOp op) r) (ha:PE X a ta) (hb:PE X b tb):PE X (.BinOp a op b pos) (J1 r ta tb):=by
 intro ab s σ H Q I h;exact wpAny_BinOp (KP ha hb I h fun v u s2 x y H2 I2 rx ry q=>ho ab s2 σ H2 x y v u Q I2 rx ry q)
theorem jU{op:UnaryOp}{r:V->Hp->VK->Prop}(ho:QD X (unaryOp op) r) (ha:PE X a ta):PE X (.UnaryOp op a pos) (Re r ta):=by
 intro ab s σ H Q I h;exact UnaryOp_ (eE (ha ab s σ H _ I h) fun v s1 ⟨x,H1,I1,r1,q1⟩=>ho ab s1 σ H1 x v Q I1 r1 q1)
theorem N1{f:Value->Value->Sem Value}{C:Int->Int->Prop}{g:Int->Int->Int}
  (rule:∀(i j:Int) (t u:Tok) (s:Shared) (Q:Value->Shared->Prop) (E:Value->Shared->Prop),C i j->Q (.int (g i j) s.toks) { s with toks:=s.toks+1 }->wpAny (model X.prog X.w) X.A (f (.int i t) (.int j u)) Q E s) :
  vh X f (rI C fun i j=>.int (g i j)):=by
 intro ab s σ H x y v u Q I rx ry h;obtain⟨i,j,rfl,rfl,hc,q⟩:=h;obtain⟨t,rfl⟩:=rx;obtain⟨t',rfl⟩:=ry;exact rule i j t t' s _ _ hc ⟨.int (g i j),H,I.tok _,⟨_,rfl⟩,q⟩
theorem OG{f:Value->Value->Sem Value}{g:Int->Int->Int}
  (rule:∀(i j:Int) (t u:Tok) (s:Shared) (Q:Value->Shared->Prop) (E:Value->Shared->Prop),Q (.int (g i j) s.toks) { s with toks:=s.toks+1 }->wpAny (model X.prog X.w) X.A (f (.int i t) (.int j u)) Q E s) :
  vh X f (GH fun i j=>.int (g i j)):=by
 intro ab s σ H x y v u Q I rx ry h;obtain⟨i,j,rfl,rfl,q⟩:=h;obtain⟨t,rfl⟩:=rx;obtain⟨t',rfl⟩:=ry;exact rule i j t t' s _ _ ⟨.int (g i j),H,I.tok _,⟨_,rfl⟩,q⟩
theorem Oq{f:Value->Value->Sem Value}{g:Int->Int->Bool}
  (rule:∀(i j:Int) (t u:Tok) (s:Shared) (Q:Value->Shared->Prop) (E:Value->Shared->Prop),Q (.bool (g i j)) s->wpAny (model X.prog X.w) X.A (f (.int i t) (.int j u)) Q E s) :
  vh X f (GH fun i j=>.bl (g i j)):=by
 intro ab s σ H x y v u Q I rx ry h;obtain⟨i,j,rfl,rfl,q⟩:=h;obtain⟨t,rfl⟩:=rx;obtain⟨t',rfl⟩:=ry;exact rule i j t t' s _ _ ⟨.bl (g i j),H,I,rfl,q⟩
def LF(i j:Int):Prop:=0<j/\j<1073741824
def LW(i j:Int):Prop:=0<=j/\j<=1000000/\i.natAbs<2 ^ 64
def Gi(i j:Int):Prop:=(-(2 ^ 64)<i/\i<2 ^ 64)∨(-(2 ^ 64)<j/\j<2 ^ 64)
theorem Gi.ok{i j:Int}(h:Gi i j):IntMulOk i j:=by
 rcases h with ⟨h1,h2⟩|⟨h1,h2⟩
 .exact .of_left (intBits_le_64 h1 h2)
 .exact .of_right (intBits_le_64 h1 h2)
theorem fg:vh X (binaryOp .Add) (GH fun i j=>.int (i+j)):=OG fun _ _ _ _ _ _ _ q=>add_int q
theorem qW:vh X (binaryOp .Sub) (GH fun i j=>.int (i-j)):=OG fun _ _ _ _ _ _ _ q=>sub_int q
theorem qM:vh X (binaryOp .Mult) (rI Gi fun i j=>.int (i*j)):=N1 fun _ _ _ _ _ _ _ hc q=>mul_int q hc.ok
theorem ik:vh X (binaryOp .FloorDiv) (rI LF fun i j=>.int (i / j)):=N1 fun i j _ _ _ _ _ hc q=>by
 have h1:(0:Int)<j:=hc.1;have h2:j<1073741824:=hc.2;exact floordiv_int (by lia) (by rw[VS i (by lia)];exact q) (.inl (PyProof.noPylong_small (by lia)))
theorem eX:vh X (binaryOp .Mod) (rI (fun _ j=>0<j) fun i j=>.int (i % j)):=N1 fun i j _ _ _ _ _ hc q=>by
 have h1:(0:Int)<j:=hc;exact mod_int' (by lia) (by rw[Int.fmod_eq_emod_of_nonneg i (by lia)];exact q)
theorem uE:vh X (binaryOp .Pow) (rI LW fun i j=>.int (i ^ j.toNat)):=N1 fun _ _ _ _ _ _ _ hc q=>pow_int_small hc.1 hc.2.1 hc.2.2 q
theorem RC{f:Value->Sem Value}{g:Int->Int}
  (rule:∀(i:Int) (t:Tok) (s:Shared) (Q:Value->Shared->Prop) (E:Value->Shared->Prop),Q (.int (g i) s.toks) { s with toks:=s.toks+1 }->wpAny (model X.prog X.w) X.A (f (.int i t)) Q E s) :
  QD X f (rU fun i=>.int (g i)):=by
 intro ab s σ H x v Q I rx h;obtain⟨i,rfl,q⟩:=h;obtain⟨t,rfl⟩:=rx;exact rule i t s _ _ ⟨.int (g i),H,I.tok _,⟨_,rfl⟩,q⟩
theorem gF:QD X (unaryOp .USub) (rU fun i=>.int (-i)):=RC fun _ _ _ _ _ q=>neg_int q
end
noncomputable def scal:V->V->Bool
 | .non,.non=>true|.non,.int _=>true|.int _,.non=>true|.non,.bl _=>true|.bl _,.non=>true|.non,.str _=>true|.str _,.non=>true
 | .int _,.int _=>true|.bl _,.bl _=>true|.str _,.str _=>true|.byt _,.byt _=>true
 | .int _,.str _=>true|.str _,.int _=>true|.bl _,.str _=>true|.str _,.bl _=>true
 |_,_=>false
def Rh:R2:=fun x y H Q=>scal x y=true/\Q (.bl (decide (x=y))) H
def Rg:R2:=fun x y H Q=>scal x y=true/\Q (.bl (!decide (x=y))) H
theorem BI{i j:Int}:decide (V.int i=V.int j)=(i == j):=by
 rw[T3];simp
theorem Hr{i j:Bool}:decide (V.bl i=V.bl j)=(i == j):=by
 rw[T3];simp
theorem BB{i j:Str}:decide (V.str i=V.str j)=(i == j):=by
 rw[T3];simp
theorem Ca{i j:Array UInt8}:decide (V.byt i=V.byt j)=(i.toList == j.toList):=by
 rw[T3];cases i;cases j;simp
section
variable {X:Cx}{a b c:Expr}{ta tb tc:TE}{pos:Pos}
theorem bV{ab:List (Addr×Obj)}{σ:St}{H:Hp}{s:Shared}{Q:VK}{k k':Bool}(I:Inv X ab σ H s) (q:Q (.bl k) H) (e:k=k'):EP X ab σ Q (.bool k') s:=by
 subst e;exact⟨.bl k,H,I,rfl,q⟩
theorem rB:vh X (compareOp .Eq) Rh:=by
 intro ab s σ H x y v u Q I rx ry h;obtain⟨hs,q⟩:=h;cases x with
 |non =>
  cases rx;cases y with
  |non=>cases ry;exact PySem.EqNone.eq_none_none (bV I q (by simp))
  |bl j=>cases ry;exact PySem.EqNone.eq_none_bool (bV I q (by simp))
  |int j=>obtain⟨t',rfl⟩:=ry;exact PySem.EqNone.eq_none_int (bV I q (by simp))
  |str j=>obtain⟨t',rfl⟩:=ry;exact PySem.EqNone.eq_none_str (bV I q (by simp))
  |_=>exact absurd (show false=true from hs) SN
 |bl i =>
  cases rx;cases y with
  |non=>cases ry;exact PySem.EqNone.eq_bool_none (bV I q (by simp))
  |bl j=>cases ry;exact eq_bool (bV I q Hr)
  |str j=>obtain⟨t',rfl⟩:=ry;exact PySem.EqMixed.eq_bool_str (bV I q (by simp))
  |_=>exact absurd (show false=true from hs) SN
 |int i =>
  obtain⟨t,rfl⟩:=rx;cases y with
  |non=>cases ry;exact PySem.EqNone.eq_int_none (bV I q (by simp))
  |int j=>obtain⟨t',rfl⟩:=ry;exact eq_int (bV I q BI)
  |str j=>obtain⟨t',rfl⟩:=ry;exact PySem.EqMixed.eq_int_str (bV I q (by simp))
  |_=>exact absurd (show false=true from hs) SN
 |str i =>
  obtain⟨t,rfl⟩:=rx;cases y with
  |non=>cases ry;exact PySem.EqNone.eq_str_none (bV I q (by simp))
  |bl j=>cases ry;exact PySem.EqMixed.eq_str_bool (bV I q (by simp))
  |int j=>obtain⟨t',rfl⟩:=ry;exact PySem.EqMixed.eq_str_int (bV I q (by simp))
  |str j=>obtain⟨t',rfl⟩:=ry;exact eq_str (bV I q BB)
  |_=>exact absurd (show false=true from hs) SN
 |byt i =>
  obtain⟨t,rfl⟩:=rx;cases y with
  |byt j=>obtain⟨t',rfl⟩:=ry;exact W.eq_bytes (bV I q Ca)
  |_=>exact absurd (show false=true from hs) SN
 |_=>cases y <;> exact absurd (show false=true from hs) SN
theorem wm:vh X (compareOp .NotEq) Rg:=by
 intro ab s σ H x y v u Q I rx ry h;obtain⟨hs,q⟩:=h;cases x with
 |non =>
  cases rx;cases y with
  |non=>cases ry;exact PySem.EqNone.ne_none_none (bV I q (by simp))
  |bl j=>cases ry;exact PySem.EqNone.ne_none_bool (bV I q (by simp))
  |int j=>obtain⟨t',rfl⟩:=ry;exact PySem.EqNone.ne_none_int (bV I q (by simp))
  |str j=>obtain⟨t',rfl⟩:=ry;exact PySem.EqNone.ne_none_str (bV I q (by simp))
  |_=>exact absurd (show false=true from hs) SN
 |bl i =>
  cases rx;cases y with
  |non=>cases ry;exact PySem.EqNone.ne_bool_none (bV I q (by simp))
  |bl j=>cases ry;exact ne_bool (bV I q (congrArg not Hr))
  |str j=>obtain⟨t',rfl⟩:=ry;exact PySem.EqMixed.ne_bool_str (bV I q (by simp))
  |_=>exact absurd (show false=true from hs) SN
 |int i =>
  obtain⟨t,rfl⟩:=rx;cases y with
  |non=>cases ry;exact PySem.EqNone.ne_int_none (bV I q (by simp))
  |int j=>obtain⟨t',rfl⟩:=ry;exact ne_int (bV I q (congrArg not BI))
  |str j=>obtain⟨t',rfl⟩:=ry;exact PySem.EqMixed.ne_int_str (bV I q (by simp))
  |_=>exact absurd (show false=true from hs) SN
 |str i =>
  obtain⟨t,rfl⟩:=rx;cases y with
  |non=>cases ry;exact PySem.EqNone.ne_str_none (bV I q (by simp))
  |bl j=>cases ry;exact PySem.EqMixed.ne_str_bool (bV I q (by simp))
  |int j=>obtain⟨t',rfl⟩:=ry;exact PySem.EqMixed.ne_str_int (bV I q (by simp))
  |str j=>obtain⟨t',rfl⟩:=ry;exact ne_str (bV I q (congrArg not BB))
  |_=>exact absurd (show false=true from hs) SN
 |byt i =>
  obtain⟨t,rfl⟩:=rx;cases y with
  |byt j=>obtain⟨t',rfl⟩:=ry;exact W.ne_bytes (bV I q (congrArg not Ca))
  |_=>exact absurd (show false=true from hs) SN
 |_=>cases y <;> exact absurd (show false=true from hs) SN
theorem tW:vh X (compareOp .Lt) (GH fun i j=>.bl (decide (i<j))):=Oq fun _ _ _ _ _ _ _ q=>lt_int q
theorem CG:vh X (compareOp .Gt) (GH fun i j=>.bl (decide (j<i))):=Oq fun _ _ _ _ _ _ _ q=>gt_int q
theorem GM:vh X (compareOp .Is) (fun x y H Q=>y = .non/\Q (.bl (decide (x = .non))) H):=by
 intro ab s σ H x y v u Q I rx ry h;obtain⟨rfl,q⟩:=h;cases ry;refine is_none_gen (bV I q ?_);cases x <;> first
  | (cases rx;rfl)
  | (obtain⟨t,rfl⟩:=rx;rfl)
theorem cF(b:Expr) {op:CmpOp}(h:op ≠ .In:=by decide) (h2:op ≠ .NotIn:=by decide):behindInMarks op b=false:=by
 have e1:(op == CmpOp.In)=false:=by cases op <;> first|rfl|exact absurd rfl h
 have e2:(op == CmpOp.NotIn)=false:=by cases op <;> first|rfl|exact absurd rfl h2
 cases b <;> simp[behindInMarks,e1,e2]
theorem wF{op:CmpOp}{r:R2}(ho:vh X (compareOp op) r) (ha:PE X a ta) (hb:PE X b tb) (hm:behindInMarks op b=false):PE X (.Compare a [op] [b] pos) (J1 r ta tb):=by
 intro ab s σ H Q I h;exact wpAny_Compare1 (KP ha hb I h fun v u s2 x y H2 I2 rx ry q=>ho ab s2 σ H2 x y v u Q I2 rx ry q) hm
noncomputable def Kx(t:TE):TT:=fun σ H Q=>t σ H fun x H'=>∃k,x = .bl k/\Q k H'
theorem bQ{op:CmpOp}{r:R2}(ho:vh X (compareOp op) r) (ha:PE X a ta) (hb:PE X b tb) (hm:behindInMarks op b=false):PT X (.Compare a [op] [b] pos) (Kx (J1 r ta tb)):=by
 intro ab s σ H Q I h;refine wpAny_isTrue_Compare1 (eE (ha ab s σ H _ I h) fun v s1 ⟨x,H1,I1,r1,q1⟩=>eE (hb ab s1 σ H1 _ I1 q1) fun u s2 ⟨y,H2,I2,r2,q2⟩ =>
  eE (ho ab s2 σ H2 x y v u _ I2 r1 r2 q2) fun c s3 ⟨z,H3,I3,r3,k,e,q3⟩=>?_) hm
 subst e;cases r3;exact wpAny_truthy_bool ⟨H3,I3,q3⟩
def MZ(K:W.Frag) (x:V) (H:Hp) (k:Bool):Prop :=
 match x with
 | .non=>k=false
 | .bl b=>k=b
 | .int i=>k=(i != 0)
 | .str y=>y.length<=sizeLine/\k=((y.length:Int) != 0)
 | .byt y=>y.size<=sizeLine/\k=((y.size:Int) != 0)
 | .ref p=>(∃xs,dP K H p xs/\k = !xs.isEmpty)∨(∃xs,rF K H p xs/\k = !xs.isEmpty)∨∃kvs,H p=some (.dK kvs)/\k = !kvs.isEmpty
 |_=>False
theorem A5{κ:Type}{kvs:List (κ×V)}{vs:List (κ×Value)}(r:KV kvs vs):(!vs.isEmpty) = !kvs.isEmpty:=by
 cases r <;> rfl
theorem uV{xs:List V}{its:List Value}(r:bz xs its):(!its.toArray.isEmpty) = !xs.isEmpty:=by
 cases r <;> simp
theorem xr:(sizeLine:Nat)<2 ^ 63:=by rw[sizeLine_eq];decide
theorem MN:Q1 X (fun x H Q=>∃k,MZ X.K x H k/\Q k H):=by
 intro ab s σ H x v Q I rx h;obtain⟨k,e,q⟩:=h;have hl:=xr;have hs:sizeLine=16777216:=sizeLine_eq;cases x with
 |non =>
  cases rx;have e':k=false:=e;subst e';exact truthy_none ⟨H,I,q⟩
 |bl b =>
  cases rx;have e':k=b:=e;subst e';exact wpAny_truthy_bool ⟨H,I,q⟩
 |int i =>
  obtain⟨t,rfl⟩:=rx;have e':k=(i != 0):=e;subst e';exact PySem.P.truthy_int ⟨H,I,q⟩
 |str y =>
  obtain⟨t,rfl⟩:=rx;obtain⟨hy,e'⟩:y.length<=sizeLine/\k=((y.length:Int) != 0):=e;subst e';exact PySem.P.truthy_str (by lia) ⟨H,I.tok _,q⟩
 |byt y =>
  obtain⟨t,rfl⟩:=rx;obtain⟨hy,e'⟩:y.size<=sizeLine/\k=((y.size:Int) != 0):=e;subst e';exact W.truthy_bytes (by lia) ⟨H,I.tok _,q⟩
 |ref p =>
  cases rx;have e':(∃xs,dP X.K H p xs/\k = !xs.isEmpty)∨(∃xs,rF X.K H p xs/\k = !xs.isEmpty)∨∃kvs,H p=some (.dK kvs)/\k = !kvs.isEmpty:=e;rcases e' with ⟨xs,hx,e'⟩|⟨xs,hx,e'⟩|⟨kvs,hx,e'⟩
  .subst e';obtain⟨its,r,pl,hz⟩:=I.list hx;have hlen:=r.length;exact wpAny_truthy_list pl.isList (by simp only[Sx];lia) ⟨H,I.tok _,by rw[uV r];exact q⟩
  .subst e';obtain⟨its,r,pl,hz⟩:=I.tuple hx;have hlen:=r.length;exact truthy_tuple pl (by simp only[Sx];lia) ⟨H,I.tok _,by rw[uV r];exact q⟩
  .subst e';obtain⟨hz,hS,vs,r,m⟩:kvs.length<=sizeLine/\(p == sysModules)=false/\∃vs,KV kvs vs/\s.heap.DictOf (cT X.prog X.w) p vs:=I.hok p _ hx;have hlen:kvs.length=vs.length:=Paired.length r;exact wpAny_truthy_dict hS m (by lia) ⟨H,I.tok _,by rw[A5 r];exact q⟩
 |_=>exact(show False from e).elim
theorem nD(ha:PE X a ta) (he:∀whole,isTrue a X.env whole=(do let v ←whole;standAt a.pos;holding [v] (truthy v))) :
  PT X a (fun σ H Q=>ta σ H fun x H'=>∃k,MZ X.K x H' k/\Q k H'):=by
 intro ab s σ H Q I h;exact isTrue_plain (eE (ha ab s σ H _ I h) fun v s1 ⟨x,H1,I1,r1,q1⟩=>MN ab s1 σ H1 x v Q I1 r1 q1) (he _)
theorem oe{x:V}{us:List Value}(r:bz [x] us):∃u,us=[u]/\cx x u:=by
 cases r with
 |cons r1 r2=>cases r2;exact⟨_,rfl,r1⟩
theorem EO{x y:V}{us:List Value}(r:bz [x,y] us):∃u w',us=[u,w']/\cx x u/\cx y w':=by
 cases r with
 |cons r1 r2 =>
  cases r2 with
  |cons r3 r4=>cases r4;exact⟨_,_,rfl,r1,r3⟩
def NX(K:W.Frag) (x:V) (H:Hp) (n:Nat):Prop :=
 match x with
 | .str y=>y.length<=sizeLine/\n=y.length
 | .byt y=>y.size<=sizeLine/\n=y.size
 | .ref p=>(∃xs,dP K H p xs/\n=xs.length)∨∃xs,rF K H p xs/\n=xs.length
 |_=>False
theorem aT:eC X (.builtin "len") (fun xs H Q=>∃x n,xs=[x]/\NX X.K x H n/\Q (.int n) H):=by
 intro ab s σ H xs us Q I r h;obtain⟨x,n,rfl,e,q⟩:=h;obtain⟨u,rfl,rx⟩:=oe r;have hl:=xr;have hs:sizeLine=16777216:=sizeLine_eq;cases x with
 |str y =>
  obtain⟨t,rfl⟩:=rx;obtain⟨hy,e'⟩:y.length<=sizeLine/\n=y.length:=e;subst e';exact len_str (by lia) ⟨.int _,H,I.tok _,⟨_,rfl⟩,q⟩
 |byt y =>
  obtain⟨t,rfl⟩:=rx;obtain⟨hy,e'⟩:y.size<=sizeLine/\n=y.size:=e;subst e';exact W.len_bytes (by lia) ⟨.int _,H,I.tok _,⟨_,rfl⟩,q⟩
 |ref p =>
  cases rx;have e':(∃xs,dP X.K H p xs/\n=xs.length)∨∃xs,rF X.K H p xs/\n=xs.length:=e;rcases e' with ⟨xs,hx,e'⟩|⟨xs,hx,e'⟩
  .subst e';obtain⟨its,r',pl,hz⟩:=I.list hx;have hlen:=r'.length;exact Calls.call_len_list pl.isList (by simp only[Sx];lia) ⟨.int xs.length,H,I.tok _,⟨_,by simp only[Sx];rw[hlen]⟩,q⟩
  .subst e';obtain⟨its,r',pl,hz⟩:=I.tuple hx;have hlen:=r'.length;exact len_tuple pl (by simp only[Sx];lia) ⟨.int xs.length,H,I.tok _,⟨_,by simp only[Sx];rw[hlen]⟩,q⟩
 |_=>exact(show False from e).elim
end
theorem vv.some_of{v:V}{o:Option Value}(r:vv (some v) o):∃u,o=some u/\cx v u:=by
 cases o with
 |none=>exact(show False from r).elim
 |some u=>exact⟨u,rfl,r⟩
structure jH (k:Nat) (A:Around):Prop where
 hd:A.handled=none
 dp:A.depth+3*k+5<recursionLimit
 un:A.units+16*k+200<cLine
theorem jH.mono{j k:Nat}{A:Around}(r:jH k A) (h:j<=k):jH j A:=⟨r.hd,by have:=r.dp;lia,by have:=r.un;lia⟩
theorem jH.deeper{k:Nat}{A:Around}(r:jH (k+1) A) (env:Env):jH k (A.deeper env) :=
 ⟨r.hd,by have:=r.dp;show A.depth+1+3*k+5<_;lia,by have:=r.un;show A.units+3+16*k+200<_;lia⟩
theorem jH.depth{k:Nat}{A:Around}(r:jH k A):A.depth<recursionLimit:=by have:=r.dp;lia
theorem jH.units{k:Nat}{A:Around}(r:jH k A):A.units+64<cLine:=by have:=r.un;lia
noncomputable def kq:TA:=fun _ H Q=>Q [] H
noncomputable def fk(ta:TE) (tr:TA):TA:=fun σ H Q=>ta σ H fun x H1=>tr σ H1 fun xs H2=>Q (x::xs) H2
section
variable {X:Cx}{e:Expr}{es:List Expr}{te:TE}{t:TA}{pos:Pos}
theorem ag:PA X [] kq:=fun _ _ _ _ H Q I h=>Calls.spliced_nil ⟨[],H,I,.nil,h⟩
theorem aa(ha:PE X e te) (hr:PA X es t) (hs:starEach (e::es) X.env=(false,eval e X.env)::starEach es X.env:=by rfl):PA X (e::es) (fk te t):=by
 intro pos ab s σ H Q I h;rw[hs];show wpAny _ _ (spliced ((false,eval e X.env)::backTo pos (starEach es X.env))) _ _ s;refine Calls.spliced_cons (eE (ha ab s σ H _ I h) fun u s1 ⟨x,H1,I1,r1,q1⟩=>?_)
 exact eE (hr pos ab s1 σ H1 _ I1 q1) fun us s2 ⟨xs,H2,I2,r2,q2⟩=>⟨x::xs,H2,I2,.cons r1 r2,q2⟩
def N6(t:TA):TE:=fun σ H Q=>t σ H fun xs H1=>xs.length<=sizeLine/\∀p,H1 p=none->Q (.ref p) (cW H1 p (.tup xs))
def LZ(t:TA):TE:=fun σ H Q=>t σ H fun xs H1=>xs.length<=sizeLine/\∀p,H1 p=none->Q (.ref p) (cW H1 p (.lst xs))
theorem xy{x1} (h:PA X es t):PE X (.Tuple es x1 pos) (N6 t):=by
 intro ab s σ H Q I hq;refine wpAny_Tuple_spliced (eE (h pos ab s σ H _ I hq) fun us s1 ⟨xs,H1,I1,r,z,q⟩=>⟨by rw[←r.length];exact z,?_⟩)
 have hf:H1 s1.heap.objs.size=none:=I1.hok.fresh (Sg _);refine⟨.ref s1.heap.objs.size,cW H1 s1.heap.objs.size (.tup xs),I1.laid (t':=s1.toks) (fun b u e=>Sn _ e) (Sg _) ?_,rfl,q _ hf⟩
 exact⟨z,us,r,⟨_,Tp _ rfl,rfl,_,rfl⟩⟩
theorem cw(h:PA X es t):PE X (.List es pos) (LZ t):=by
 intro ab s σ H Q I hq;refine wpAny_List_spliced (eE (h pos ab s σ H _ I hq) fun us s1 ⟨xs,H1,I1,r,z,q⟩=>⟨by rw[←r.length];exact z,?_⟩)
 have hf:H1 s1.heap.objs.size=none:=I1.hok.fresh (Sg _);refine⟨.ref s1.heap.objs.size,cW H1 s1.heap.objs.size (.lst xs),I1.laid (t':=s1.toks) (fun b u e=>Sn _ e) (Sg _) ?_,rfl,q _ hf⟩
 exact⟨z,us,0,r,Tp _ rfl⟩
end
abbrev Sp:=List V->Hp->VK->XK->Prop
abbrev GQ:=List Env->Hp->Shared->XK->Value->Shared->Prop
structure JL (P:Program) (w:World) (K:W.Frag) (mg:Str->Option Value) (base:Heap) (A:Around) (outer:List Env) (s:Shared) (H:Hp):Prop where
 frames:A.frames=some outer
 mod:Mod K mg base
 bs:∀b o,base.get? b=some o->s.heap.get? b=some o/\H b=none
 bsz:base.objs.size<=s.heap.objs.size
 funs:s.heap.FunFrames base outer
 frf:∀b∈G3 outer,H b=none
 hok:pD P w H s.heap
 bare:AllBare s.gens
def CE(outer:List Env) (P:Program) (w:World) (H:Hp) (s:Shared) (Q:VK) (u:Value) (s':Shared):Prop :=
 ∃v H',s'.os=s.os/\AllBare s'.gens/\Un (G3 outer) [] H H' s.heap s'.heap/\pD P w H' s'.heap/\cx v u/\Q v H'
def CR(CX:GQ) (outer:List Env) (P:Program) (w:World) (H:Hp) (s:Shared) (Q:VK) (E:XK) (r:Result) (s':Shared):Prop :=
 match r with
 | .ok (.ret u)=>CE outer P w H s Q u s'
 | .ok _=>False
 | .error e=>CX outer H s E e s'
structure rO (P:Program) (w:World) (K:W.Frag) (mg:Str->Option Value) (base:Heap) (CX:GQ) (k:Nat) (f:Addr) (fd:FuncData) (ps:List Str) (sp:Sp):Prop where
 len:∀vs H Q E,sp vs H Q E->vs.length=ps.length
 run:∀(A:Around) (outer:List Env) (s:Shared) (H:Hp) (args:Args) (us:List Value) (vs:List V) (Q:VK) (E:XK),jH k A->JL P w K mg base A outer s H->BindsTo s fd args (ps.zip us)->bz vs us->sp vs H Q E ->
  codeAny (model P w) A (.call (.ref f) args) (CR CX outer P w H s Q E) s
theorem rO.imp{P:Program}{w:World}{K:W.Frag}{mg:Str->Option Value}{base:Heap}{CX:GQ}{k:Nat}{f:Addr}{fd:FuncData}{ps:List Str}{sp sp':Sp}(F:rO P w K mg base CX k f fd ps sp)
  (h:∀vs H Q E,sp' vs H Q E->sp vs H Q E):rO P w K mg base CX k f fd ps sp' :=
 ⟨fun vs H Q E q=>F.len vs H Q E (h _ _ _ _ q),fun A outer s H args us vs Q E hr he hb hv hs=>F.run A outer s H args us vs Q E hr he hb hv (h _ _ _ _ hs)⟩
section
variable {X:Cx}{ab:List (Addr×Obj)}{σ:St}{H:Hp}{s s':Shared}
theorem Inv.env0(I:Inv X ab σ H s):JL X.prog X.w X.K X.mg X.base X.A X.stack s H :=
 ⟨I.ok.frames,I.ok.mod,I.bs,TV I.ok.bsz I.sz,I.stack,I.stkFree,I.hok,I.bare⟩
theorem Inv.after{Q:VK}{u:Value}(I:Inv X ab σ H s) (h:CE X.stack X.prog X.w H s Q u s'):EP X ab σ Q u s':=by
 obtain⟨v,H',os,bare,un,hok,r,q⟩:=h;obtain⟨hh,g,d,t,os'⟩:=s';obtain rfl:os'=s.os:=os;exact⟨v,H',I.call (h':=hh) (g':=g) (d':=d) (t':=t) (ch:=[]) un hok bare (fun b z=>absurd z (by simp)),r,q⟩
end
noncomputable def zp(sp:Sp) (dvs:List V) (E:XK) (t:TA):TE:=fun σ H Q=>t σ H fun vs H1=>sp (vs++dvs) H1 Q E
def wu(K:W.Frag) (fd:FuncData) (ps:List Str) (ds:List Value):Prop :=
 ∀(s:Shared) (us:List Value),K.In s.heap->(us++ds).length=ps.length->BindsTo s fd ⟨us,[]⟩ (ps.zip (us++ds))
theorem wu.all{K:W.Frag}{fd:FuncData}{ps:List Str}(h:∀us:List Value,us.length=ps.length->bindArgs fd ⟨us,[]⟩=pure (ps.zip us)):wu K fd ps []:=fun s us _ hl=>by
 rw[aNq]at hl ⊢;exact .of_eq (h us hl)
def zV(CX:GQ) (X:Cx) (E:XK):Prop:=∀(ab:List (Addr×Obj)) (σ:St) (H:Hp) (s:Shared) (e:Value) (s':Shared),Inv X ab σ H s->CX X.stack H s E e s'->X.xe e s'
section
variable {X:Cx}{CX:GQ}{k:Nat}{f C:Addr}{fd:FuncData}{ps:List Str}{sp:Sp}{dvs:List V}{ds:List Value}{E:XK}{x m:Str}{p pos apos:Pos}{e o:Expr}{es:List Expr}{ta:TE}{t:TA}
theorem LG{ab:List (Addr×Obj)}{σ:St}{H:Hp}{s:Shared}{Q:VK}{us:List Value}{vs:List V}(F:rO X.prog X.w X.K X.mg X.base CX k f fd ps sp) (hr:jH k X.A) (hb:wu X.K fd ps ds) (hd:bz dvs ds) (hx:zV CX X E)
  (I:Inv X ab σ H s) (r:bz vs us) (h:sp (vs++dvs) H Q E):wpAny (model X.prog X.w) X.A (call (.ref f) us) (EP X ab σ Q) X.xe s:=by
 have r2:bz (vs++dvs) (us++ds):=r.append hd;have hl:(us++ds).length=ps.length:=by rw[←r2.length];exact F.len _ _ _ _ h
 refine wpAny_call (codeAny_mono (F.run X.A X.stack s H ⟨us,[]⟩ (us++ds) (vs++dvs) Q E hr I.env0 (hb s us I.kIn hl) r2 h) fun r s' hq=>?_)
 cases r with
 |error e=>exact hx ab σ H s e s' I hq
 |ok fl =>
  cases fl with
  |ret u=>exact I.after hq
  |next=>exact False.elim hq
  |brk=>exact False.elim hq
  |cont=>exact False.elim hq
theorem Jg(F:rO X.prog X.w X.K X.mg X.base CX k f fd ps sp) (hr:jH k X.A) (hg:Gl X x) (hm:X.mg x=some (.ref f)) (hk:W.keepIn X.K (.ref f)=true) (hb:wu X.K fd ps ds) (hd:bz dvs ds) (hx:zV CX X E)
  (ha:PA X (e::es) t) (hdb:(x == ("__debug__" : Str))=false:=by decide) (he:starEach (e::es) X.env=(false,eval e X.env)::starEach es X.env:=by rfl) (hpl:(backTo pos (starEach es X.env)).any (·.1)=false:=by rfl) :
  PE X (.Call (.Name x p) (e::es) [] pos) (zp sp dvs E t):=by
 intro ab s σ H Q I h;refine wpAny_Call_Name_kw (IK I hg hm ?_ hdb);refine W.callWith_K (h₀:=X.base) I.ok.mod.kin hk (eE (ha pos ab s σ H _ I h) fun us s1 ⟨vs,H1,I1,r,q⟩=>⟨I1.kIn,?_⟩) he hpl
 exact LG F hr hb hd hx I1 r q
end
structure bx (N P:List Str) (sc:Scope):Prop where
 kind:sc.kind = .function
 co:sc.isCoroutine=false
 gen:sc.isGenerator=false
 nd:N.Nodup
 pre:N.take P.length=P
 par:∀x∈P,sc.names.lookup x=some .local∨sc.names.lookup x=some .cell
 nofree:∀y∈sc.names,y.2 ≠ .free
theorem vA{kindOf:Str->Option NameKind}{x:Str}:∀{binds:List (Str×Value)}{m:Str->Option Value},(∀v,(x,v)∉binds)->bindL kindOf binds m x=m x
 | [],_,_=>rfl
 | (n,v)::r,m,h=>by
  unfold bindL;rw[vA fun w hw=>h w (mCo _ hw)]
  split
  .have:x≠n:=by rintro rfl;exact h v Ss
   simp[this]
  .rfl
theorem wk{kindOf:Str->Option NameKind}{x:Str}:∀{binds:List (Str×Value)}{m:Str->Option Value},(∀v,(x,v)∉binds)->bindC kindOf binds m x=m x
 | [],_,_=>rfl
 | (n,v)::r,m,h=>by
  unfold bindC;rw[wk fun w hw=>h w (mCo _ hw)]
  split
  .rfl
  .have:x≠n:=by rintro rfl;exact h v Ss
   simp[this]
theorem vx{kindOf:Str->Option NameKind}{x:Str}{v:Value}:∀{P:List Str}{vs:List Value}{i:Nat}{m:Str->Option Value},P.Nodup->P[i]?=some x->vs[i]?=some v->kindOf x=some .local ->
  bindL kindOf (P.zip vs) m x=some v
 | [],_,_,_,_,h,_,_=>by simp at h
 |_::_,[],_,_,_,_,h,_=>by simp at h
 |p::P,w::vs,0,m,nd,h1,h2,hk=>by
  simp at h1 h2;subst h1;subst h2;show bindL kindOf ((p,w)::P.zip vs) m p=_;unfold bindL;rw[vA fun v hv=>(Sm.mp nd).1 (Wf hv).1,if_pos hk]
  simp
 |p::P,w::vs,i+1,m,nd,h1,h2,hk=>by
  show bindL kindOf ((p,w)::P.zip vs) m x=_;unfold bindL;exact vx (i:=i) (Sm.mp nd).2 (by simpa using h1) (by simpa using h2) hk
theorem wt{kindOf:Str->Option NameKind}{x:Str}{v:Value}:∀{P:List Str}{vs:List Value}{i:Nat}{m:Str->Option Value},P.Nodup->P[i]?=some x->vs[i]?=some v->kindOf x≠some .local ->
  bindC kindOf (P.zip vs) m x=some v
 | [],_,_,_,_,h,_,_=>by simp at h
 |_::_,[],_,_,_,_,h,_=>by simp at h
 |p::P,w::vs,0,m,nd,h1,h2,hk=>by
  simp at h1 h2;subst h1;subst h2;show bindC kindOf ((p,w)::P.zip vs) m p=_;unfold bindC;rw[wk fun v hv=>(Sm.mp nd).1 (Wf hv).1,if_neg hk]
  simp
 |p::P,w::vs,i+1,m,nd,h1,h2,hk=>by
  show bindC kindOf ((p,w)::P.zip vs) m x=_;unfold bindC;exact wt (i:=i) (Sm.mp nd).2 (by simpa using h1) (by simpa using h2) hk
noncomputable def mJ(N:List Str) (vs:List V):St:=vs.map some++S9 (N.length-vs.length) none
noncomputable def De(CX:GQ) (P:Program) (w:World) (K:W.Frag) (mg:Str->Option Value) (base:Heap) (N:List Str) (qual:Str) (scope:Scope) (f:Addr) (cd:Value) (A:Around) (outer:List Env) (s:Shared) (H:Hp) (E:XK):Cx where
 prog:=P
 w:=w
 K:=K
 mg:=mg
 base:=base
 A:=A.deeper (envOfC qual scope s.heap.objs.size f cd)
 N:=N
 s₀:=s
 H₀:=H
 env:=envOfC qual scope s.heap.objs.size f cd
 outer:=outer
 stack:=envOfC qual scope s.heap.objs.size f cd::outer
 ex:=[]
 calm:=true
 fn:=fun _=>true
 pn:=[]
 xe:=fun e s'=>wpAny (model P w) (A.deeper (envOfC qual scope s.heap.objs.size f cd)) (leaving (envOfC qual scope s.heap.objs.size f cd) e) (fun _ s''=>CX outer H s E e s'') (fun e' s''=>CX outer H s E e' s'') s'
theorem yQ{sc:Scope}{n:Nat}{x:Str}(h:sc.names.lookup x=some .cell):∃c,(cellsFrom n sc.names []).lookup x=some c:=by
 have q:=W.cellsFrom_some sc.names n [] (.inl h);exact Option.isSome_iff_exists.mp q
theorem C6{CX:GQ}{P:Program}{w:World}{K:W.Frag}{mg:Str->Option Value}{base:Heap}{N ps:List Str}{qual:Str}{scope:Scope}{f:Addr}{cd:Value}{A:Around}{outer:List Env}{s s1:Shared}{H:Hp}{E:XK}{us:List Value}{vs:List V}
  (S:bx N ps scope) (hd:A.handled=none) (e0:JL P w K mg base A outer s H) (hl:vs.length=ps.length) (r:bz vs us)
  (x:InCallC s s.heap.objs.size (bindL (envOfC qual scope s.heap.objs.size f cd).kindOf (ps.zip us) fun _=>none) (cellsFrom (s.heap.objs.size+1) scope.names []) (bindC (envOfC qual scope s.heap.objs.size f cd).kindOf (ps.zip us) fun _=>none) s1) :
  Inv (De CX P w K mg base N qual scope f cd A outer s H E) [] (mJ N vs) H s1:=by
 have hpl:ps.length<=N.length:=by have:=congrArg TJ S.pre;rw[lTq]at this;lia
 obtain⟨h1,tk,rfl,hk⟩:=x.done;have noA:∀b:Addr,b∉(De CX P w K mg base N qual scope f cd A outer s H E).ex:=fun b z=>absurd (show b∈([]:List Addr) from z) (by simp)
 refine⟨⟨e0.mod,S.kind,rfl,rfl,Sg _,fun y z c h1 h2=>?_,fun y hy=>?_,fun y c _ h=>?_,fun _=>hd,Around.frames_deeper e0.frames,.inr ⟨rfl,rfl⟩,fun b z=>absurd z (noA b),e0.bs,e0.bsz,fun b _ _=>noA b,fun b z=>absurd z (noA b),e0.funs,e0.frf⟩,
  rfl,e0.bare,Un.kept hk,⟨_,x.toInCall.ns,fun i y v h1 h2 h3=>?_⟩,fun y c h=>⟨_,x.cell y c h⟩,e0.hok.fresh (Sg _),fun y c h=>?_,fun p hp=>absurd (show p∈([]:List (Addr×Obj)) from hp) (by simp),e0.hok.kept hk,?_⟩
 .exact name_of_addr x.apart (PySem.mem_of_lookup h1) (PySem.mem_of_lookup h2)
 .have hy:scope.names.lookup y=some .cell∨scope.names.lookup y=some .free:=hy;rcases hy with hy|hy
  .exact yQ hy
  .exact absurd rfl (S.nofree _ (PySem.mem_of_lookup hy))
 .exact T8 (x.above y c (PySem.mem_of_lookup h))
 .have hi:i<vs.length:=by
   unfold mJ at h2
   by_cases hi:i<vs.length
   .exact hi
   .rw [gYq (by simpa using hi)]at h2
    rw[Ux]at h2;split at h2 <;> cases h2
  have ha:vs[i]?=some v:=by
   unfold mJ at h2;rw[gZq (by simpa using hi),gMq]at h2
   cases e:vs[i]? with
   |none=>rw[e]at h2;cases h2
   |some a=>rw[e]at h2;cases h2;rfl
  obtain⟨u,hu,rv⟩:=r.get ha;have hp:ps[i]?=some y:=by
   rw[←S.pre,UO (by lia)];exact h1
  have ndP:ps.Nodup:=by rw[←S.pre];exact S.nd.sublist (Tj _ _)
  refine⟨u,rv,?_⟩;rcases S.par y (mGq hp) with k|k
  .exact .inl ⟨k,vx ndP hp hu k⟩
  .obtain ⟨c,e⟩:=yQ (n:=s.heap.objs.size+1) k;refine .inr ⟨.inl k,c,e,?_⟩;have q:=x.cell y c e;rw[wt ndP hp hu (by show scope.names.lookup y≠_;rw[k];decide)]at q
   exact q
 .exact e0.hok.fresh (T8 (x.above y c (PySem.mem_of_lookup h)))
 .unfold mJ;show _=N.length;rw[lAq,lMq,U9];lia
theorem OO{CX:GQ}{P:Program}{w:World}{K:W.Frag}{mg:Str->Option Value}{base:Heap}{k:Nat}{f:Addr}{name qual:Str}{params:Arguments}{body:List Stmt}{scope:Scope}{dV kV doc pm iI ct oc:Value}{an od:Option Addr}
  {osl:Array (Option Value)}{N ps:List Str}{sp:Sp}(lk:K.lookup f=some ⟨oc,od,.func (W.fnOf name qual params body scope dV kV doc pm an iI ct),osl⟩) (hcd:W.codeIn K iI qual=true) (S:bx N ps scope)
  (len:∀vs H Q E,sp vs H Q E->vs.length=ps.length)
  (hbody:∀(A:Around) (outer:List Env) (s:Shared) (H:Hp) (vs:List V) (Q:VK) (E:XK),jH k (A.deeper (envOfC qual scope s.heap.objs.size f iI))->sp vs H Q E ->
   ∃t,Ef (De CX P w K mg base N qual scope f iI A outer s H E) body t/\t { nx:=fun _ H'=>Q .non H',rt:=Q } (mJ N vs) H) :
  rO P w K mg base CX (k+1) f (W.fnOf name qual params body scope dV kV doc pm an iI ct) ps sp:=by
 refine⟨len,fun A outer s H args us vs Q E hr e0 hb r hsp=>?_⟩
 have hl:=len _ _ _ _ hsp;have KX:K.In s.heap:=e0.mod.kin.keeps fun b o e=>(e0.bs b o e).1
 have lim:s.heap.NoLimit:=e0.mod.nolimit.keeps fun b o e=>(e0.bs b o e).1
 have hkind:∀y∈ps.zip us,scope.names.lookup y.1=some .local∨(scope.names.lookup y.1=some .cell/\((cellsFrom (s.heap.objs.size+1) scope.names []).lookup y.1).isSome=true):=fun⟨n,v⟩ hy=>by
  rcases S.par n (Wf hy).1 with q|q
  .exact .inl q
  .exact .inr ⟨q,W.cellsFrom_some _ _ _ (.inl q)⟩
 refine codeAny_call_function hr.depth (KX _ _ lk) rfl S.co S.gen rfl (W.codeRec_of KX hcd) (hb _ _ _ _ ?_);refine wpAny_newFunctionEnv_cells S.kind hkind fun env he s1 x=>?_
 subst he;refine⟨lim.keeps x.toInCall.keep,codeAny_func ?_⟩;obtain⟨t,ht,hq⟩:=hbody A outer s H vs Q E (hr.deeper _) hsp;have I:Inv (De CX P w K mg base N qual scope f iI A outer s H E) [] (mJ N vs) H s1:=C6 S hr.hd e0 hl r x;refine wpAny_mono (ht [] s1 (mJ N vs) H _ I hq) (fun fl s' hs=>?_) fun e s' hs=>hs
 have fin:∀{σ':St}{H':Hp}{v:V}{u:Value},Inv (De CX P w K mg base N qual scope f iI A outer s H E) [] σ' H' s'->cx v u->Q v H'->CE outer P w H s Q u s' :=
  fun {σ' H' v u} J rv q=>⟨v,H',J.os,J.bare,J.base,J.hok,rv,q⟩
 cases fl with
 |ret u =>
  obtain⟨v,σ',H',J,rv,q⟩:=hs;exact fin J rv q
 |next =>
  obtain⟨σ',H',J,q⟩:=hs;exact fin (v:=V.non) (u:=Xp) J rfl q
 |brk =>
  obtain⟨_,_,_,q⟩:=hs;exact False.elim q
 |cont =>
  obtain⟨_,_,_,q⟩:=hs;exact False.elim q
section
variable {X:Cx}{x:Str}{p pos:Pos}{e:Expr}{es:List Expr}{t:TA}{id T:String}{r:List V->Hp->VK->Prop}
noncomputable def HW(r:List V->Hp->VK->Prop) (t:TA):TE:=fun σ H Q=>t σ H fun vs H1=>r vs H1 Q
theorem aG(hc:eC X (.builtin id) r) (hg:Gl X x) (hm:X.mg x=none) (hv:bootBuiltins x=some (.builtin id)) (ha:PA X (e::es) t) (hn:x ≠ "__name__" := by decide) (hdb:(x == ("__debug__" : Str))=false:=by decide)
  (he:starEach (e::es) X.env=(false,eval e X.env)::starEach es X.env:=by rfl) (hpl:(backTo pos (starEach es X.env)).any (·.1)=false:=by rfl):PE X (.Call (.Name x p) (e::es) [] pos) (HW r t):=by
 intro ab s σ H Q I h;refine wpAny_Call_Name_kw (mY I hg hm hv ?_ hn hdb);exact W0 (eE (ha pos ab s σ H _ I h) fun us s1 ⟨vs,H1,I1,r1,q1⟩=>hc ab s1 σ H1 vs us Q I1 r1 q1) he hpl
theorem kA(hc:eC X (.type T) r) (hg:Gl X x) (hm:X.mg x=none) (hv:bootBuiltins x=some (.type T)) (ha:PA X (e::es) t) (hn:x ≠ "__name__" := by decide) (hdb:(x == ("__debug__" : Str))=false:=by decide)
  (he:starEach (e::es) X.env=(false,eval e X.env)::starEach es X.env:=by rfl) (hpl:(backTo pos (starEach es X.env)).any (·.1)=false:=by rfl):PE X (.Call (.Name x p) (e::es) [] pos) (HW r t):=by
 intro ab s σ H Q I h;refine wpAny_Call_Name_kw (mY I hg hm hv ?_ hn hdb);exact TU (eE (ha pos ab s σ H _ I h) fun us s1 ⟨vs,H1,I1,r1,q1⟩=>hc ab s1 σ H1 vs us Q I1 r1 q1) he hpl
end
end L2
namespace HT
open PySem PyProof.Rows
noncomputable def eR:List Int->List Int->Bool
 | [],[]=>false
 | [],_::_=>true
 |_::_,[]=>false
 |x::xs,y::ys=>if x=y then eR xs ys else decide (x<y)
theorem mh(x y:Int) (xs ys:List Int):eR (x::xs) (y::ys)=if x=y then eR xs ys else decide (x<y):=rfl
theorem vp:eR [] []=false:=rfl
theorem tR(y:Int) (ys:List Int):eR [] (y::ys)=true:=rfl
theorem tJ(x:Int) (xs:List Int):eR (x::xs) []=false:=rfl
theorem Gh(A:Around) (s:Shared) (a:Int) (t:Tok) (c:Int) (u:Tok):∃e,SeqAt.EqAt A s (.int a t) (.int c u) e/\(e=true↔a=c) :=
 ⟨(a == c),SeqAt.EqAt.int_int a t c u,by simp⟩
theorem Hu(A:Around) (s:Shared) (a:Int) (t:Tok) (c:Int) (u:Tok) (prog:Program) (w:World) (E:Value->Shared->Prop) (Q:Value->Shared->Prop) (h:Q (.bool (decide (a<c))) s) :
  wpAny (model prog w) A (richCompare .Lt (.int a t) (.int c u)) Q E s :=
 (Xr h:wpAny (model prog w) A (compareOp .Lt (.int a t) (.int c u)) Q E s)
section
open PySem.SeqAt
open PySem.AutoSeq1 (wpAny_loadPart')
open PySem.MeetsSeq PySem.MeetsSeq2 PySem.MeetsSeq3
end
section
variable {prog:Program}{w:World}{A:Around}{E:Value->Shared->Prop}{s:Shared}
noncomputable def fT(n d:Nat):Option Int->Nat
 |none=>d
 |some v=>if v<0 then (v+(n:Int)).toNat else min v.toNat n
theorem yI(n d:Nat):fT n d none=d:=rfl
theorem sU(n d k:Nat):fT n d (some (k:Int))=min k n:=by
 show (if (k:Int)<0 then ((k:Int)+(n:Int)).toNat else min (k:Int).toNat n)=min k n
 rw[if_neg (by lia),Ub]
theorem Lu(n d:Nat) (hd:d<=n) (o:Option Int):fT n d o<=n:=by
 cases o with
 |none=>exact hd
 |some v =>
  show (if v<0 then (v+(n:Int)).toNat else min v.toNat n)<=n
  by_cases hv:v<0
  .rw [if_pos hv];lia
  .rw [if_neg hv];exact Nat.min_le_right _ _
theorem B8(v:Int) (n d:Nat):(if v<0 then max (v+(n:Int)) 0 else min v (n:Int))=((fT n d (some v):Nat):Int):=by
 show (if v<0 then max (v+(n:Int)) 0 else min v (n:Int))=(((if v<0 then (v+(n:Int)).toNat else min v.toNat n):Nat):Int)
 by_cases hv:v<0
 .simp only [if_pos hv];lia
 .simp only [if_neg hv];lia
theorem Bd(lo hi:Option Int) (n:Nat):Builtin.Slice.sliceAdjust lo hi 1 (n:Int)=(((fT n 0 lo:Nat):Int),((fT n n hi:Nat):Int)):=by
 have h1:¬ ((1:Int)<0):=by lia
 unfold Builtin.Slice.sliceAdjust;simp only[h1,if_false];refine WE ?_ ?_
 .cases lo with
  |none=>rfl
  |some v=>exact B8 v n 0
 .cases hi with
  |none=>rfl
  |some v=>exact B8 v n n
theorem AA(i j:Nat):Builtin.Slice.slicePlaces (i:Int) (j:Int) 1=j-i:=by
 unfold Builtin.Slice.slicePlaces;have h1:(1:Int)>0:=by lia
 simp only[h1,if_true,Int.ediv_one];split <;> lia
theorem tj{v:Value}{o:Option Int}{Q:Option Int->Shared->Prop}(p:IsPart v o) (h:Q o s):wpAny (model prog w) A (Builtin.Slice.slicePartIndex v) Q E s:=by
 cases p with
 |none=>exact slicePart_none h
 |int i t=>exact slicePart_int h
theorem qw{sl:Addr}{vl vu:Value}{lo hi:Option Int}{n:Nat}{Q:Int×Int×Nat->Shared->Prop}(hs:s.heap.IsSliceOf sl vl vu .none) (pl:IsPart vl lo) (pu:IsPart vu hi)
  (h:Q (((fT n 0 lo:Nat):Int),1,fT n n hi-fT n 0 lo) s):wpAny (model prog w) A (Builtin.Slice.sliceApplied (.ref sl) (pure (n:Int))) Q E s:=by
 obtain⟨os,hos,hcs,hds⟩:=id hs;unfold Builtin.Slice.sliceApplied Builtin.Slice.sliceFields;refine wpAny_bind (wpAny_bind (wpAny_field hos hds (x:=vl) rfl (wpAny_bind (wpAny_field hos hds (x:=vu) rfl (wpAny_bind (wpAny_field hos hds (x:=.none) rfl (wpAny_pure ?_)))))));refine wpAny_bind (slicePart_none ?_);show wpAny _ _ (if ((1:Int) == 0)=true then _ else _) _ _ s
 rw[if_neg (by decide)]
 refine wpAny_bind (tj pl (wpAny_bind (tj pu (wpAny_bind (wpAny_pure ?_)))));show wpAny _ _ (match Builtin.Slice.sliceAdjust lo hi 1 (n:Int) with|(lo,hi)=>pure (lo,(1:Int),Builtin.Slice.slicePlaces lo hi 1)) _ _ s
 rw[Bd lo hi n];show wpAny _ _ (pure (((fT n 0 lo:Nat):Int),(1:Int),Builtin.Slice.slicePlaces ((fT n 0 lo:Nat):Int) ((fT n n hi:Nat):Int) 1)) _ _ s;rw[AA];exact wpAny_pure h
theorem E2(xs:Array Value) (i k:Nat):((To k).filterMap fun(m:Nat)=>xs[((i:Int)+(m:Int)*1).toNat]?).toArray=((xs.toList.drop i).take k).toArray:=by
 have e:(fun(m:Nat)=>xs[((i:Int)+(m:Int)*1).toNat]?)=fun m=>xs[i+m]?:=by
  funext m;have:((i:Int)+(m:Int)*1).toNat=i+m:=by lia
  rw[this]
 rw[e];have:=pick_run xs i k;rw[List.filterMap_map]at this;have e2:((fun x=>xs[x]?)∘fun x=>i+x)=fun m=>xs[i+m]?:=rfl
 rw[e2]at this;rw[this]
theorem pT{t sl:Addr}{items:Array Value}{vl vu:Value}{lo hi:Option Int}{Q:Value->Shared->Prop}(ht:IsTup s.heap t items) (hs:s.heap.IsSliceOf sl vl vu .none) (pl:IsPart vl lo) (pu:IsPart vu hi)
  (hw:¬ (fT items.size 0 lo=0/\fT items.size items.size hi=items.size))
  (h:Q (.ref s.heap.objs.size) { s with heap:=s.heap.push { cls:=.type "tuple", data:=.seq ((items.toList.drop (fT items.size 0 lo)).take (fT items.size items.size hi-fT items.size 0 lo)).toArray } })
  (hsz:items.size<=sizeLine):wpAny (model prog w) A (getItem (.ref t) (.ref sl)) Q E s:=by
 have htake:sizeOk (.seq ((items.toList.drop (fT items.size 0 lo)).take (fT items.size items.size hi-fT items.size 0 lo)).toArray):=by
  show ((items.toList.drop (fT items.size 0 lo)).take (fT items.size items.size hi-fT items.size 0 lo)).toArray.size<=sizeLine;rw[Sx,lTq,SE,Sv];lia
 have hj:fT items.size items.size hi<=items.size:=Lu _ _ (Sg _) hi;obtain⟨os,hos,hcs,hds⟩:=id hs;have hTs:s.TypeIs (.ref sl) "slice" := ⟨os,hos,hcs⟩;unfold getItem
 try with_reducible refine wpAny_holding ?_
 first|refine wpAny_bind (wpAny_pure ?_)|skip
 refine wpAny_bind (wpAny_sequenceKey ht.typeIs (by decide) ?_)
 refine wpAny_bind (wpAny_callSpecial?_slot (name:=Str.ofString "__getitem__") ht.typeIs UT
  (wpAny_call_entry UT ht.typeIs entry_tuple_getitem ?_ (args_tuple_getitem _ _)))
 show wpAny _ _ (Builtin.Tuple.tupleItemsOf (.ref t) >>= _) _ _ s;refine wpAny_bind (tupleItemsOf_ ht ?_);refine wpAny_bind (wpAny_typeOf hTs ?_);rw[if_pos (by decide)]
 refine wpAny_bind (qw hs pl pu ?_);have hno:¬ ((((fT items.size 0 lo:Nat):Int) == 0 && (1:Int) == 1 && (fT items.size items.size hi-fT items.size 0 lo) == items.size)=true):=by
  intro q;rw[Uk,Uk]at q;have q1:((fT items.size 0 lo:Nat):Int)=0:=eq_of_beq q.1.1;have q2:fT items.size items.size hi-fT items.size 0 lo=items.size:=eq_of_beq q.2;exact hw ⟨by lia,by lia⟩
 show wpAny _ _ (if (((fT items.size 0 lo:Nat):Int) == 0 && (1:Int) == 1 && (fT items.size items.size hi-fT items.size 0 lo) == items.size)=true then _ else _) _ _ s
 rw[if_neg hno,E2]
 first
  |exact wpAny_bind (m:=Builtin.Tuple.tupleExact _) (wpAny_newObj_type (wpAny_pure ⟨_,rfl,wpAny_pure h⟩) htake)
  |exact wpAny_bind (m:=Builtin.Tuple.tupleExact _) (wpAny_newObj_type (wpAny_bind (wpAny_pure (wpAny_pure ⟨_,rfl,wpAny_pure h⟩))) htake)
  |exact wpAny_bind (wpAny_bind (m:=Builtin.Tuple.tupleExact _) (wpAny_newObj_type (wpAny_pure (wpAny_pure ⟨_,rfl,wpAny_pure h⟩)) htake))
  |exact wpAny_bind (wpAny_bind (m:=Builtin.Tuple.tupleExact _) (wpAny_newObj_type (wpAny_pure ⟨_,rfl,wpAny_pure h⟩) htake))
end
end HT
namespace L2
open PySem PySem.Spec PyProof.Rows
abbrev TO:=St->Hp->(Option Int->Hp->Prop)->Prop
def PO(X:Cx) (e:Option Expr) (t:TO):Prop :=
 ∀(ab:List (Addr×Obj)) (s:Shared) (σ:St) (H:Hp) (Q:Option Int->Hp->Prop),Inv X ab σ H s->t σ H Q ->
  wpAny (model X.prog X.w) X.A (evalPart e X.env) (fun u s'=>∃o H',Inv X ab σ H' s'/\IsPart u o/\Q o H') X.xe s
noncomputable def BC:TO:=fun _ H Q=>Q none H
noncomputable def KJ(t:TE):TO:=fun σ H Q=>t σ H fun x H1=>∃i,x = .int i/\Q (some i) H1
theorem oO{ns:List Int}:∀{us:List Value},bz (ns.map V.int) us->IntsAre us ns:=by
 induction ns with
 |nil=>intro us r;rw[UZ]at r;cases r;exact .nil
 |cons n ns ih =>
  intro us r;rw[Sq]at r;cases r with
  |cons r1 r2 =>
   obtain⟨t,e⟩:=r1;subst e;exact .cons n t (ih r2)
section
variable {X:Cx}{e:Expr}{te:TE}{lo hi:Option Expr}{tl th:TO}{pos p2:Pos}
theorem mF:PO X none BC:=by
 intro ab s σ H Q I h;rw[evalPart_none];exact wpAny_pure ⟨none,H,I,.none,h⟩
theorem iS(h:PE X e te):PO X (some e) (KJ te):=by
 intro ab s σ H Q I hw;rw[evalPart_some];refine eE (h ab s σ H _ I hw) fun u s1 ⟨x,H1,I1,r1,q1⟩=>?_
 obtain⟨i,rfl,q⟩:=q1;obtain⟨t,rfl⟩:=r1;exact⟨some i,H1,I1,.int i t,q⟩
def Qa(X:Cx) (r:V->Option Int->Option Int->Hp->VK->Prop):Prop :=
 ∀(ab:List (Addr×Obj)) (s:Shared) (σ:St) (H:Hp) (x:V) (v vl vu:Value) (lo hi:Option Int) (sl:Addr) (Q:VK),Inv X ab σ H s->cx x v->s.heap.IsSliceOf sl vl vu .none->IsPart vl lo->IsPart vu hi->r x lo hi H Q ->
  ∃T id,typeLookup (.type T) "__getitem__" = pure (some (.builtin id))/\s.TypeIs v T/\wpAny (model X.prog X.w) X.A (getItem v (.ref sl)) (EP X ab σ Q) X.xe s
def Q0(r:V->Option Int->Option Int->Hp->VK->Prop) (te:TE) (tl th:TO):TE:=fun σ H Q=>te σ H fun x H1=>tl σ H1 fun l H2=>th σ H2 fun u H3=>r x l u H3 Q
theorem iy{r:V->Option Int->Option Int->Hp->VK->Prop}(hr:Qa X r) (he:PE X e te) (hl:PO X lo tl) (hu:PO X hi th):PE X (.Subscript e (.Slice lo hi none p2) pos) (Q0 r te tl th):=by
 intro ab s σ H Q I h;refine Subscript_ (eE (he ab s σ H _ I h) fun v s1 ⟨x,H1,I1,r1,q1⟩=>?_)
 refine wpAny_Slice (eE (hl ab s1 σ H1 _ I1 q1) fun vl s2 ⟨l,H2,I2,pl,q2⟩=>eE (hu ab s2 σ H2 _ I2 q2) fun vu s3 ⟨u,H3,I3,pu,q3⟩=>?_)
 rw[evalPart_none];refine wpAny_pure ?_;have I4:Inv X ab σ H3 { s3 with heap:=s3.heap.push { cls:=.type "slice", data:=.fields #[vl,vu,.none] } }:=I3.kept (t':=s3.toks) fun b ob q=>Sn _ q
 obtain⟨T,id,hT,ht,hg⟩:=hr ab { s3 with heap:=s3.heap.push { cls:=.type "slice", data:=.fields #[vl,vu,.none] } } σ H3 x v vl vu l u s3.heap.objs.size Q I4 r1 (Heap.IsSliceOf.new ..) pl pu q3
 show wpAny (model X.prog X.w) X.A (subscriptTail e (.Slice lo hi none p2) v (.ref s3.heap.objs.size)) (EP X ab σ Q) X.xe { s3 with heap:=s3.heap.push { cls:=.type "slice", data:=.fields #[vl,vu,.none] } }
 exact tail_any (ops:=[.ref s3.heap.objs.size,v]) ht hT hg (by with_unfolding_all rfl)
def vk(xs:List V) (lo hi:Option Int):List V:=(xs.drop (HT.fT xs.length 0 lo)).take (HT.fT xs.length xs.length hi-HT.fT xs.length 0 lo)
theorem rp(xs:List V) (lo hi:Option Int):(vk xs lo hi).length<=xs.length:=by
 unfold vk;rw[lTq,SE];lia
def OI(K:W.Frag):V->Option Int->Option Int->Hp->VK->Prop:=fun x lo hi H Q=>∃a xs,x = .ref a/\rF K H a xs /\
 ¬ (HT.fT xs.length 0 lo=0/\HT.fT xs.length xs.length hi=xs.length)/\∀p,H p=none->Q (.ref p) (cW H p (.tup (vk xs lo hi)))
theorem LM:Qa X (OI X.K):=by
 intro ab s σ H x v vl vu lo hi sl Q I rx hs pl pu h;obtain⟨a,xs,rfl,hx,hw,q⟩:=h;cases rx;obtain⟨its,r,ht,hz⟩:=I.tuple hx;have hlen:its.toArray.size=xs.length:=by rw[Sx];exact r.length.symm
 refine⟨"tuple", _,UT.lookup,ht.typeIs,?_⟩;refine HT.pT ht hs pl pu (by rw[hlen];exact hw) ?_ (by rw[hlen];exact hz)
 rw[hlen];refine⟨.ref s.heap.objs.size,_,I.laid (t':=s.toks) (o:=.tup (vk xs lo hi)) (fun b ob q=>Sn _ q) (Sg _) ?_,rfl,q _ (I.hok.fresh (Sg _))⟩
 exact⟨TV (rp xs lo hi) hz,_,(r.drop (HT.fT xs.length 0 lo)).take (HT.fT xs.length xs.length hi-HT.fT xs.length 0 lo),IsTup.new _ _⟩
end
noncomputable def xf(n:Nat) (i:Int):Option Nat:=if 0<=i then (if i<n then some i.toNat else none) else if -(n:Int)<=i then some (i+n).toNat else none
def atI{α:Type}(xs:List α) (i:Int):Option α:=(xf xs.length i).bind fun j=>xs[j]?
theorem Bw{n:Nat}{i:Int}{j:Nat}(h:xf n i=some j):seqIndex? i n=some j/\j<n/\-(n:Int)<=i/\i<n:=by
 unfold xf at h
 by_cases h0:0<=i
 .rw [if_pos h0]at h
  by_cases h1:i<n
  .rw [if_pos h1]at h;have e:i.toNat=j:=Sz.inj h;exact⟨by rw[seqIndex_of h0 h1,e],by lia,by lia,h1⟩
  .rw [if_neg h1]at h;cases h
 .rw [if_neg h0]at h
  by_cases h1:-(n:Int)<=i
  .rw [if_pos h1]at h;have e:(i+n).toNat=j:=Sz.inj h;exact⟨by rw[seqIndex_neg (by lia) h1,e],by lia,h1,by lia⟩
  .rw [if_neg h1]at h;cases h
theorem BY{α:Type}{xs:List α}{i:Int}{v:α}(h:atI xs i=some v):∃j,seqIndex? i xs.length=some j/\xs[j]?=some v/\j<xs.length/\-(xs.length:Int)<=i/\i<xs.length:=by
 unfold atI at h;cases e:xf xs.length i with
 |none=>rw[e]at h;cases h
 |some j =>
  rw[e]at h;obtain⟨h1,h2,h3,h4⟩:=Bw e;exact⟨j,h1,h,h2,h3,h4⟩
theorem nU{α:Type}{xs:List α}{j:Nat}{v:α}(h:xs[j]?=some v):atI xs (j:Int)=some v:=by
 have hj:j<xs.length:=(gSq.mp h).1;have e:xf xs.length (j:Int)=some j:=by
  unfold xf;rw[if_pos (by lia),if_pos (by lia)];simp
 unfold atI;rw[e];exact h
theorem tG{α:Type}(xs:List α) (v:α):atI (xs++[v]) (-1)=some v:=by
 have hl:(xs++[v]).length=xs.length+1:=by simp
 have e:xf (xs++[v]).length (-1)=some xs.length:=by
  unfold xf;rw[hl,if_neg (by decide),if_pos (by lia)]
  congr 1;lia
 unfold atI;rw[e];show (xs++[v])[xs.length]?=some v;simp
def JM(b:Expr):Prop:=∀o i,subscripted b false o i=operate [o,i] (getItem o i)
def JR(X:Cx) (r:R2):Prop :=
 ∀(value slice:Expr) (ab:List (Addr×Obj)) (s:Shared) (σ:St) (H:Hp) (x y:V) (v u:Value) (Q:VK),Inv X ab σ H s->cx x v->cx y u->r x y H Q ->
  subscripted slice false v u=operate [v,u] (getItem v u)->wpAny (model X.prog X.w) X.A (subscriptTail value slice v u) (EP X ab σ Q) X.xe s
def Pu(X:Cx) (id:String) (r:V->List V->Hp->VK->Prop):Prop :=
 ∀(ab:List (Addr×Obj)) (s:Shared) (σ:St) (H:Hp) (x:V) (xs:List V) (v:Value) (us:List Value) (Q:VK),Inv X ab σ H s->cx x v->bz xs us->r x xs H Q ->
  wpAny (model X.prog X.w) X.A (call (.builtin id) (v::us)) (EP X ab σ Q) X.xe s
section
variable {X:Cx}{a b:Expr}{ta tb:TE}{pos:Pos}
theorem JR.or{r r':R2}(h:JR X r) (h':JR X r'):JR X (fun x y H Q=>r x y H Q∨r' x y H Q):=by
 intro value slice ab s σ H x y v u Q I rx ry q hs;rcases q with q|q
 .exact h value slice ab s σ H x y v u Q I rx ry q hs
 .exact h' value slice ab s σ H x y v u Q I rx ry q hs
theorem fM{r:R2}(hr:JR X r) (ha:PE X a ta) (hb:PE X b tb) (hs:JM b):PE X (.Subscript a b pos) (J1 r ta tb):=by
 intro ab s σ H Q I h;exact Subscript_ (KP ha hb I h fun v u s2 x y H2 I2 rx ry q=>hr a b ab s2 σ H2 x y v u Q I2 rx ry q (hs _ _))
def FZ(K:W.Frag):R2:=fun x y H Q=>∃p xs i v,x = .ref p/\y = .int i/\dP K H p xs/\atI xs i=some v/\Q v H
def JY(K:W.Frag):R2:=fun x y H Q=>∃p xs i v,x = .ref p/\y = .int i/\rF K H p xs/\atI xs i=some v/\Q v H
theorem dB:JR X (FZ X.K):=by
 intro value slice ab s σ H x y v u Q I rx ry h hs;obtain⟨p,xs,i,z,rfl,rfl,hq,he,q⟩:=h;cases rx;obtain⟨t,rfl⟩:=ry;obtain⟨its,r,pl,hz⟩:=I.list hq;obtain⟨j,h1,h2,h3,h4,h5⟩:=BY he;obtain⟨w,ew,rw'⟩:=r.get h2;have hl:=r.length;have hn:=xr;have fin:EP X ab σ Q w s:=⟨z,H,I,rw',q⟩
 by_cases h0:0<=i
 .have hj:i.toNat=j:=by
   rw[seqIndex_of h0 h5]at h1;exact Sz.inj h1
  exact item_listR pl.isList h0 (by lia) (by rw[hj];simpa using ew) fin hs
 .have hj:(i+(its.toArray.size:Int)).toNat=j:=by
   rw[seqIndex_neg (by lia) h4]at h1
   rw[Sx,←hl];exact Sz.inj h1
  exact subscriptTail_builtinR (x:=w) pl.isList.typeIs slot_list_getitem.lookup
   (wpAny_getItem_list_neg (Q:=fun r s'=>r=w/\EP X ab σ Q r s') pl.isList (by lia) (by rw[Sx] <;> lia) (by lia) (by rw[hj];simpa using ew) ⟨rfl,fin⟩) hs
theorem uR:JR X (JY X.K):=by
 intro value slice ab s σ H x y v u Q I rx ry h hs;obtain⟨p,xs,i,z,rfl,rfl,hq,he,q⟩:=h;cases rx;obtain⟨t,rfl⟩:=ry;obtain⟨its,r,pl,hz⟩:=I.tuple hq;obtain⟨j,h1,h2,h3,h4,h5⟩:=BY he;obtain⟨w,ew,rw'⟩:=r.get h2;have hl:=r.length;have hn:=xr;have fin:EP X ab σ Q w s:=⟨z,H,I,rw',q⟩;exact subscriptTail_builtinR (x:=w) pl.typeIs slot_tuple_getitem.lookup
  (getItem_tuple (j:=j) (Q:=fun r s'=>r=w/\EP X ab σ Q r s') pl (by lia) (by lia) (by rw[Sx,←hl];exact h1) (by simpa using ew) ⟨rfl,fin⟩) hs
theorem xQ(lo hi:Option Int) (n:Nat):(sliceBounds lo hi none n).1=((HT.fT n 0 lo:Nat):Int)/\(sliceBounds lo hi none n).2.1=((HT.fT n n hi:Nat):Int)/\(sliceBounds lo hi none n).2.2=1:=by
 refine⟨?_,?_,rfl⟩
 .cases lo with
  |none=>simp[sliceBounds,HT.fT]
  |some i =>
   simp only[sliceBounds,HT.fT,WU,show (1:Int)>0 by decide,if_true]
   by_cases h:i<0
   .simp only [h,if_true] <;> lia
   .simp only [h,if_false] <;> lia
 .cases hi with
  |none=>simp[sliceBounds,HT.fT]
  |some i =>
   simp only[sliceBounds,HT.fT,WU,show (1:Int)>0 by decide,if_true]
   by_cases h:i<0
   .simp only [h,if_true] <;> lia
   .simp only [h,if_false] <;> lia
theorem vt(its:List Value) (lo hi:Option Int):slicePick its.toArray lo hi none=((its.drop (HT.fT its.length 0 lo)).take (HT.fT its.length its.length hi-HT.fT its.length 0 lo)).toArray:=by
 obtain⟨h1,h2,h3⟩:=xQ lo hi its.toArray.size;unfold slicePick;rw[h1,h2,h3];simp only[sliceRange_one,pick_run,Sx] <;> rfl
def NG(K:W.Frag):V->Option Int->Option Int->Hp->VK->Prop:=fun x lo hi H Q=>∃a xs,x = .ref a/\dP K H a xs/\∀p,H p=none->Q (.ref p) (cW H p (.lst (vk xs lo hi)))
theorem kT:Qa X (NG X.K):=by
 intro ab s σ H x v vl vu lo hi sl Q I rx hs pl pu h;obtain⟨a,xs,rfl,hx,q⟩:=h;cases rx;obtain⟨its,r,ht,hz⟩:=I.list hx;have hlen:=r.length;refine⟨"list", _,slot_list_getitem.lookup,ht.isList.typeIs,?_⟩;refine wpAny_getItem_list_slice ht.isList hs pl pu .none (by simp) ?_ (by rw[Sx] <;> lia)
 rw[vt,←hlen];refine⟨.ref s.heap.objs.size,_,I.laid (t':=s.toks) (o:=.lst (vk xs lo hi)) (fun b ob q=>Sn _ q) (Sg _) ?_,rfl,q _ (I.hok.fresh (Sg _))⟩
 exact⟨TV (rp xs lo hi) hz,_,0,(r.drop (HT.fT xs.length 0 lo)).take (HT.fT xs.length xs.length hi-HT.fT xs.length 0 lo),Tp _ rfl⟩
noncomputable def om:V->Bool
 | .non=>true
 | .bl _=>true
 | .int _=>true
 | .str _=>true
 |_=>false
noncomputable def Kt:V->V->Bool
 | .non,.non=>true
 | .bl a,.bl b=>a == b
 | .bl a,.int b=>(if a then 1 else 0) == b
 | .int a,.bl b=>a == (if b then 1 else 0)
 | .int a,.int b=>a == b
 | .str a,.str b=>a == b
 |_,_=>false
theorem Mz{A:Around}{s:Shared}{y x:V}{u v:Value}(ry:cx y u) (rx:cx x v) (fy:om y=true) (fx:om x=true):SeqAt.EqAt A s u v (Kt y x):=by
 cases y with
 |non =>
  cases ry;cases x with
  |non=>cases rx;exact SeqAt.EqAt.same _
  |bl b=>cases rx;exact SeqAt.EqAt.none_bool b
  |int b=>obtain⟨t,rfl⟩:=rx;exact SeqAt.EqAt.none_int b t
  |str b=>obtain⟨t,rfl⟩:=rx;exact SeqAt.EqAt.none_str b t
  |_=>exact absurd (show false=true from fx) SN
 |bl a =>
  cases ry;cases x with
  |non=>cases rx;exact SeqAt.EqAt.bool_none a
  |bl b=>cases rx;exact SeqAt.EqAt.bool_bool a b
  |int b=>obtain⟨t,rfl⟩:=rx;exact SeqAt.EqAt.bool_int a b t
  |str b=>obtain⟨t,rfl⟩:=rx;exact SeqAt.EqAt.bool_str a b t
  |_=>exact absurd (show false=true from fx) SN
 |int a =>
  obtain⟨t',rfl⟩:=ry;cases x with
  |non=>cases rx;exact SeqAt.EqAt.int_none a t'
  |bl b=>cases rx;exact SeqAt.EqAt.int_bool a t' b
  |int b=>obtain⟨t,rfl⟩:=rx;exact SeqAt.EqAt.int_int a t' b t
  |str b=>obtain⟨t,rfl⟩:=rx;exact SeqAt.EqAt.int_str a t' b t
  |_=>exact absurd (show false=true from fx) SN
 |str a =>
  obtain⟨t',rfl⟩:=ry;cases x with
  |non=>cases rx;exact SeqAt.EqAt.str_none a t'
  |bl b=>cases rx;exact SeqAt.EqAt.str_bool a t' b
  |int b=>obtain⟨t,rfl⟩:=rx;exact SeqAt.EqAt.str_int a t' b t
  |str b=>obtain⟨t,rfl⟩:=rx;exact SeqAt.EqAt.str_str a t' b t
  |_=>exact absurd (show false=true from fx) SN
 |_=>exact absurd (show false=true from fy) SN
def IR(x:V) (u:Value):Bool:=match u with
 | .none=>Kt .non x
 | .bool b=>Kt (.bl b) x
 | .int i _=>Kt (.int i) x
 | .str z _=>Kt (.str z) x
 |_=>false
theorem Hm{x y:V}{u:Value}(r:cx y u) (f:om y=true):IR x u=Kt y x:=by
 cases y with
 |non=>cases r;rfl
 |bl b=>cases r;rfl
 |int i=>obtain⟨t,rfl⟩:=r;rfl
 |str z=>obtain⟨t,rfl⟩:=r;rfl
 |_=>exact absurd (show false=true from f) SN
theorem xx{x:V}:∀{xs:List V}{us:List Value},bz xs us->xs.all om=true->us.any (IR x)=xs.any fun y=>Kt y x
 |_,_,.nil,_=>rfl
 |y::xs,u::us,.cons r t,f=>by
  rw[Wy,Uk]at f;rw[UH,UH,Hm r f.1,xx t f.2]
theorem uH{A:Around}{s:Shared}{x:V}{v:Value}(rx:cx x v) (fx:om x=true):∀{xs:List V}{us:List Value},bz xs us->xs.all om=true->∀u∈us,SeqAt.EqAt A s u v (IR x u)
 |_,_,.nil,_=>fun u hu=>by cases hu
 |y::xs,u::us,.cons r t,f=>fun u' hu=>by
  rw[Wy,Uk]at f;rcases Si.mp hu with rfl|hu
  .rw [Hm r f.1];exact Mz r rx f.1 fx
  .exact uH rx fx t f.2 u' hu
def Np(x:V) (xs:List V):Bool:=xs.any fun y=>Kt y x
def Rv(K:W.Frag) (neg:Bool):R2:=fun x y H Q=>∃p xs,y = .ref p/\(dP K H p xs∨rF K H p xs)/\om x=true/\xs.all om=true/\Q (.bl (if neg then !Np x xs else Np x xs)) H
theorem DR:vh X (compareOp .In) (Rv X.K false):=by
 intro ab s σ H x y v u Q I rx ry h;obtain⟨p,xs,rfl,hq,fx,fs,q⟩:=h;cases ry;rcases hq with hq|hq
 .obtain ⟨its,r,pl,hz⟩:=I.list hq;refine SeqAt.in_listAt (IR x) pl.isList (fun w hw=>uH rx fx r fs w (by simpa using hw)) ⟨.bl _,H,I,rfl,?_⟩
  rw[show its.toArray.any (IR x)=its.any (IR x) by simp,xx r fs]
  exact q
 .obtain ⟨its,r,pl,hz⟩:=I.tuple hq;refine SeqAt.in_tupleAt (IR x) pl (fun w hw=>uH rx fx r fs w (by simpa using hw)) ⟨.bl _,H,I,rfl,?_⟩
  rw[show its.toArray.any (IR x)=its.any (IR x) by simp,xx r fs]
  exact q
theorem eC.or{f:Value}{r r':List V->Hp->VK->Prop}(h:eC X f r) (h':eC X f r'):eC X f (fun xs H Q=>r xs H Q∨r' xs H Q):=by
 intro ab s σ H xs us Q I rs q;rcases q with q|q
 .exact h ab s σ H xs us Q I rs q
 .exact h' ab s σ H xs us Q I rs q
theorem gC:eC X (.type "list") (fun xs H Q=>∃p ys,xs=[.ref p]/\(dP X.K H p ys∨rF X.K H p ys)/\∀l,H l=none->Q (.ref l) (cW H l (.lst ys))):=by
 intro ab s σ H xs us Q I r h;obtain⟨p,ys,rfl,hq,q⟩:=h;obtain⟨u,rfl,rx⟩:=oe r;cases rx;have fin:∀(its:List Value),bz ys its->ys.length<=sizeLine->∀(h':Heap) (c':Nat),(∀b o',s.heap.get? b=some o'->h'.get? b=some o') ->
   h'.get? s.heap.objs.size=some { cls:=.type "list", dict:=none,data:=.seq its.toArray c',slots:=#[] }->EP X ab σ Q (.ref s.heap.objs.size) { s with heap:=h' }:=fun its r' hz h' c' kp e =>
  ⟨.ref s.heap.objs.size,_,I.laid (t':=s.toks) kp (Sg _) (show dA X.prog X.w _ h' _ (.lst ys) from ⟨hz,its,c',r',e⟩),rfl,q _ (I.hok.fresh (Sg _))⟩
 rcases hq with hq|hq
 .obtain ⟨its,r',pl,hz⟩:=I.list hq;have hlen:=r'.length;obtain⟨o,ho,hc,n,hd⟩:=pl.isList;exact call_list_seq p (.inl rfl) ho hc hd (fun h' c' kp e=>fin its r' hz h' c' kp e) (by simp only[Sx] <;> lia)
 .obtain ⟨its,r',pl,hz⟩:=I.tuple hq;have hlen:=r'.length;obtain⟨o,ho,hc,n,hd⟩:=pl;exact call_list_seq p (.inr rfl) ho hc hd (fun h' c' kp e=>fin its r' hz h' c' kp e) (by simp only[Sx] <;> lia)
def P3(K:W.Frag) (T:String) (x:V) (H:Hp):Prop:=match x with
 | .str _=>T = "str"
 | .int _=>T = "int"
 | .ref p=>(T = "list" /\ ∃xs,dP K H p xs)∨(T = "tuple" /\ ∃o,K.lookup p=some o/\o.cls = .type "tuple" /\ o.dict=none) ∨
   (T = "dict" /\ ((∃kvs,H p=some (.dK kvs))∨∃kvs,H p=some (.dT kvs)))∨(T = "set" /\ ∃S n,H p=some (.set S n))
 |_=>False
theorem EB{ab:List (Addr×Obj)}{σ:St}{H:Hp}{s:Shared}{T:String}{x:V}{v:Value}(I:Inv X ab σ H s) (r:cx x v) (ty:P3 X.K T x H) :
  s.TypeIs v T/\∀a,v = .ref a->∃ob,s.heap.get? a=some ob/\ob.dict=none:=by
 cases x with
 |str z =>
  obtain⟨t,rfl⟩:=r;cases (show T = "str" from ty)
  exact⟨typeIs_str s z t,fun _ e=>nomatch e⟩
 |int i =>
  obtain⟨t,rfl⟩:=r;cases (show T = "int" from ty)
  exact⟨typeIs_int s i t,fun _ e=>nomatch e⟩
 |ref p =>
  cases r;rcases ty with ⟨rfl,xs,hq⟩|⟨rfl,o,hk,hc,hd⟩|⟨rfl,hk⟩|⟨rfl,S,n,hk⟩
  .obtain ⟨its,_,pl,_⟩:=I.list hq;refine⟨pl.isList.typeIs,fun a e=>?_⟩
   cases e;obtain⟨o,n,e,c,hd,_⟩:=pl;exact⟨o,e,hd⟩
  .refine ⟨⟨o,I.kIn p o hk,hc⟩,fun a e=>?_⟩
   cases e;exact⟨o,I.kIn _ o hk,hd⟩
  .have z:∃o,s.heap.get? p=some o/\o.ExactDict:=by
    rcases hk with ⟨kvs,hk⟩|⟨kvs,hk⟩
    .obtain ⟨_,_,_,_,o,_,_,e,ex,_⟩:=I.hok p _ hk;exact⟨o,e,ex⟩
    .obtain ⟨_,_,_,_,o,_,_,e,ex,_⟩:=I.hok p _ hk;exact⟨o,e,ex⟩
   obtain⟨o,e,ex⟩:=z;refine⟨⟨o,e,ex.1⟩,fun a e2=>?_⟩
   cases e2;exact⟨o,e,ex.2.1⟩
  .obtain ⟨o,_,_,_,e,ex,_⟩:=I.hok p _ hk;refine⟨⟨o,e,ex.1⟩,fun a e2=>?_⟩
   cases e2;exact⟨o,e,ex.2.1⟩
 |_=>exact False.elim ty
noncomputable def Og(K:W.Frag) (T:String) (r:V->List V->Hp->VK->Prop) (to:TE):TE:=fun σ H Q=>to σ H fun x H1=>P3 K T x H1/\r x [] H1 Q
noncomputable def Ep(K:W.Frag) (T:String) (r:V->List V->Hp->VK->Prop) (to:TE) (t:TA):TE:=fun σ H Q=>to σ H fun x H1=>P3 K T x H1/\t σ H1 fun xs H2=>r x xs H2 Q
variable {o e:Expr}{es:List Expr}{to:TE}{t:TA}{name:Str}{apos cpos:Pos}{T id:String}{r:V->List V->Hp->VK->Prop}
theorem FV(pa:PlainAttrs T) (slot:Slot T name id) (hty:typeOf (.builtin id)=pure (.type "method_descriptor")) (hm:Pu X id r) (ho:PE X o to)
  (hbase:attributeBase o name X.env (eval o X.env)=eval o X.env:=by rfl) (hline:(apos.endLine == cpos.line)=true:=by rfl):PE X (.Call (.Attribute o name apos) [] [] cpos) (Og X.K T r to):=by
 intro ab s σ H Q I h;refine wpAny_Call_method0_late hbase hline (eE (ho ab s σ H _ I h) fun v s1 ⟨x,H1,I1,r1,ty,q1⟩=>?_)
 obtain⟨h1,h2⟩:=EB I1 r1 ty;exact⟨T,id,pa,slot,hty,h1,h2,Calls.callWith_builtin rfl (PySem.evalArgs_none (hm ab s1 σ H1 x [] v [] Q I1 r1 .nil q1))⟩
theorem dO(pa:PlainAttrs T) (slot:Slot T name id) (hty:typeOf (.builtin id)=pure (.type "method_descriptor")) (hm:Pu X id r) (ho:PE X o to) (ha:PA X (e::es) t)
  (hbase:attributeBase o name X.env (eval o X.env)=eval o X.env:=by rfl)
  (hfew:((backTo cpos (starEach (e::es) X.env)).all (fun x=>!x.1) && (backToKw cpos (keywordEach [] X.env)).all (fun x=>x.1.isSome)
   && decide ((e::es).length+([]:List Keyword).length+(if ([]:List Keyword).isEmpty then 0 else 1)<30))=true:=by rfl)
  (hline:(apos.endLine == cpos.line)=true:=by rfl) (hs:starEach (e::es) X.env=(false,eval e X.env)::starEach es X.env:=by rfl) (hplain:(backTo cpos (starEach es X.env)).any (·.1)=false:=by rfl) :
  PE X (.Call (.Attribute o name apos) (e::es) [] cpos) (Ep X.K T r to t):=by
 intro ab s σ H Q I h;refine wpAny_Call_method_late hbase hfew hline rfl (eE (ho ab s σ H _ I h) fun v s1 ⟨x,H1,I1,r1,ty,q1⟩=>?_)
 obtain⟨h1,h2⟩:=EB I1 r1 ty;refine⟨T,id,pa,slot,hty,h1,h2,?_⟩;have hA:=ha cpos ab s1 σ H1 _ I1 q1;rw[hs]at hA ⊢;refine Calls.callWith_builtin (by show (false || (backTo cpos (starEach es X.env)).any (·.1))=false;rw[hplain] <;> rfl) (Calls.evalArgs_plain ?_)
 exact eE hA fun us s2 ⟨vs,H2,I2,r2,q2⟩=>hm ab s2 σ H2 x vs v us Q I2 r1 r2 q2
/- xs.append(e),list.index on a module's tuple .. are Pu facts of 06m -/
end
def NP(X:Cx) (id:String) (r:V->List V->Hp->VK->Prop):Prop :=
 ∀(ab:List (Addr×Obj)) (s:Shared) (σ:St) (H:Hp) (x:V) (xs:List V) (v:Value) (us:List Value) (Q:VK),Inv X ab σ H s->cx x v->bz xs us->r x xs H Q ->
  wpAny (model X.prog X.w) X.A (call (.builtin id) (v::us)) (EP X ab σ Q) X.xe s
theorem bz.one:∀{x:V}{us:List Value},bz [x] us->∃u,us=[u]/\cx x u
 |_,_,.cons r .nil=>⟨_,rfl,r⟩
theorem bz.zero:∀{us:List Value},bz [] us->us=[]
 |_,.nil=>rfl
theorem bz.dropLast{xs:List V}{us:List Value}(h:bz xs us):bz xs.dropLast us.dropLast:=by
 induction h with
 |nil=>exact .nil
 |cons r t ih =>
  cases t with
  |nil=>exact .nil
  |cons q t'=>exact .cons r ih
theorem bz.eraseIdx:∀{xs:List V}{us:List Value}(i:Nat),bz xs us->bz (xs.eraseIdx i) (us.eraseIdx i)
 |_,_,_,.nil=>.nil
 |_,_,0,.cons _ t=>t
 |_,_,i+1,.cons r t=>.cons r (bz.eraseIdx i t)
theorem bz.reverse{xs:List V}{us:List Value}(h:bz xs us):bz xs.reverse us.reverse:=by
 induction h with
 |nil=>exact .nil
 |cons r t ih=>rw[Vo,Vo];exact bz.append ih (.cons r .nil)
theorem oD{α:Type}(l:List α):l.eraseIdx (l.length-1)=l.dropLast:=by
 induction l with
 |nil=>rfl
 |cons a r ih =>
  cases r with
  |nil=>rfl
  |cons b r =>
   have e:(a::b::r).length-1=((b::r).length-1)+1:=by
    have h1:(a::b::r).length=r.length+2:=rfl;have h2:(b::r).length=r.length+1:=rfl;lia
   rw[e,TX,ih]
   all_goals rfl
theorem vH{α:Type}:∀(l:List α) (i:Nat),(l.eraseIdx i).length<=l.length
 | [],_=>Sg _
 |_::_,0=>Ua _
 |_::r,i+1=>Nat.succ_le_succ (vH r i)
section
variable {X:Cx}{ab:List (Addr×Obj)}{σ:St}{H:Hp}{s:Shared}{l b:Addr}{xs ys zs:List V}
theorem Inv.lset{its its':List Value}{n:Nat}{f:Array Value->Array Value}{t':Nat}(I:Inv X ab σ H s) (hH:H l=some (.lst xs))
  (e:s.heap.get? l=some { cls:=.type "list", data:=.seq its.toArray n }) (hf:f its.toArray=its'.toArray) (hv:bz ys its') (hz:ys.length<=sizeLine) :
  Inv X ab σ (cW H l (.lst ys)) { s with heap:=s.heap.update l (Obj.mapSeq f),toks:=t' }:=by
 have q:=PySem.IsL.update e f;rw[hf]at q;refine I.write (x:=l) (e:=l) (by rw[hH];exact trivial) (.inl rfl) (fun b' u hb hu=>(Wg s.heap (Obj.mapSeq f) (Ne.symm hb)).trans hu) ⟨_,q⟩ ?_
 exact⟨hz,its',_,hv,q⟩
theorem Inv.lnew{its:List Value}{t':Nat}(I:Inv X ab σ H s) (hv:bz ys its) (hz:ys.length<=sizeLine) :
  Inv X ab σ (cW H s.heap.objs.size (.lst ys)) { s with heap:=s.heap.push { cls:=.type "list", data:=.seq its.toArray },toks:=t' } :=
 I.laid (fun _ _ q=>Sn _ q) (Sg _) ⟨hz,its,0,hv,Tp _ rfl⟩
theorem Inv.fresh(I:Inv X ab σ H s):H s.heap.objs.size=none:=I.hok.fresh (Sg _)
theorem Inv.lstM(I:Inv X ab σ H s) (hH:H l=some (.lst xs)):xs.length<=sizeLine/\∃(its:List Value) (n:Nat),bz xs its/\xs.length=its.length/\s.heap.get? l=some { cls:=.type "list", data:=.seq its.toArray n }:=by
 obtain⟨z,its,n,r,e⟩:=I.hok l _ hH;exact⟨z,its,n,r,r.length,e⟩
theorem FD{n:Nat}(h:n<=sizeLine):Builtin.List.listTooLong n=false:=by
 unfold Builtin.List.listTooLong;exact decide_eq_false (by lia)
end
section
variable {X:Cx}
def qk:V->List V->Hp->VK->Prop:=fun x vs H Q=>∃l xs y,x = .ref l/\vs=[y]/\H l=some (.lst xs)/\xs.length<sizeLine/\Q .non (cW H l (.lst (xs++[y])))
theorem bT:NP X "list.append" qk:=by
 intro ab s σ H x vs v us Q I rx rv h;obtain⟨l,xs,y,rfl,rfl,hH,hz,q⟩:=h;cases rx;obtain⟨u,rfl,ru⟩:=rv.one;obtain⟨z,its,n,r,hl,e⟩:=I.lstM hH;refine call_meets F.slot_list_append ⟨_,e,rfl⟩ F.entry_list_append (F.args_list_append_2 _ _) (PySem.list_append l its.toArray n u (by rw[Sx];lia)) ⟨e,?_⟩
 refine⟨.non,_,I.lset (its':=its++[u]) hH e (by simp) (r.append (.cons ru .nil)) ?_,rfl,q⟩
 rw[lAq,lSq];lia
def sI:V->List V->Hp->VK->Prop:=fun x vs H Q=>∃l b xs zs,x = .ref l/\vs=[.ref b]/\H l=some (.lst xs)/\H b=some (.lst zs)/\xs.length+zs.length<=sizeLine/\Q .non (cW H l (.lst (xs++zs)))
theorem kE:NP X "list.extend" sI:=by
 intro ab s σ H x vs v us Q I rx rv h;obtain⟨l,b,xs,zs,rfl,rfl,hH,hB,hz,q⟩:=h;cases rx;obtain⟨u,rfl,ru⟩:=rv.one;cases ru;obtain⟨z,its,n,r,hl,e⟩:=I.lstM hH;obtain⟨z2,its2,n2,r2,hl2,e2⟩:=I.lstM hB;have hsz:its.toArray.size+its2.toArray.size<=sizeLine:=by rw[Sx,Sx];lia
 have hlong:¬ (!its.toArray.isEmpty && Builtin.List.listTooLong (its.toArray.size+its2.toArray.size))=true:=by
  rw[FD hsz,Bool.and_false];exact SN
 refine call_meets F.slot_list_extend ⟨_,e,rfl⟩ F.entry_list_extend (F.args_list_extend_2 _ _)
  (AutoSeq1.list_extend_list_list_0 l its.toArray n b its2.toArray n2 hlong (by rw[Sx];lia) (by lia)) ⟨e,e2,?_⟩
 refine⟨.non,_,I.lset (its':=its++its2) hH e (by simp) (r.append r2) ?_,rfl,q⟩
 rw[lAq];lia
def Ng:V->List V->Hp->VK->Prop:=fun x vs H Q=>∃l xs y,x = .ref l/\vs=[]/\H l=some (.lst xs)/\xs[xs.length-1]?=some y/\Q y (cW H l (.lst xs.dropLast))
theorem FS:NP X "list.pop" Ng:=by
 intro ab s σ H x vs v us Q I rx rv h;obtain⟨l,xs,y,rfl,rfl,hH,hy,q⟩:=h;cases rx;have hus:=rv.zero;subst hus;obtain⟨z,its,n,r,hl,e⟩:=I.lstM hH;obtain⟨u,hu,ru⟩:=r.get hy;have hy':its.toArray[its.toArray.size-1]?=some u:=by
  show its.toArray[its.length-1]?=some u;rw[←SJ,←hl];exact hu
 refine call_meets F.slot_list_pop ⟨_,e,rfl⟩ F.entry_list_pop (F.args_list_pop_1 _) (MeetsSeq.list_pop_last l its.toArray n u hy' (by rw[Sx];lia)) ⟨e,?_⟩
 refine⟨y,_,I.lset (its':=its.dropLast) hH e ?_ r.dropLast ?_,ru,q⟩
 .show its.toArray.eraseIdxIfInBounds (its.toArray.size-1)=its.dropLast.toArray;rw[Sx,Vw,oD]
 .rw [Ws];lia
def Hc:V->List V->Hp->VK->Prop:=fun x vs H Q=>∃l xs i k y,x = .ref l/\vs=[.int i]/\H l=some (.lst xs)/\-(2 ^ 63)<=i/\i<2 ^ 63/\seqIndex? i xs.length=some k/\xs[k]?=some y/\Q y (cW H l (.lst (xs.eraseIdx k)))
theorem ui:NP X "list.pop" Hc:=by
 intro ab s σ H x vs v us Q I rx rv h;obtain⟨l,xs,i,k,y,rfl,rfl,hH,h1,h2,hk,hy,q⟩:=h;cases rx;obtain⟨u,rfl,ru⟩:=rv.one;obtain⟨t,rfl⟩:=ru;obtain⟨z,its,n,r,hl,e⟩:=I.lstM hH;obtain⟨w,hw,rw'⟩:=r.get hy;refine call_meets F.slot_list_pop ⟨_,e,rfl⟩ F.entry_list_pop (F.args_list_pop_2 _ _)
  (MeetsSeq.list_pop_at l its.toArray n i t k w (fitsIndex_both h1 h2) (by rw[Sx,←hl];exact hk) (by rw[←SJ];exact hw) (by rw[Sx];lia)) ⟨e,?_⟩
 refine⟨y,_,I.lset (its':=its.eraseIdx k) hH e ?_ (r.eraseIdx k) ?_,rw',q⟩
 .show its.toArray.eraseIdxIfInBounds k=(its.eraseIdx k).toArray;rw[Vw]
 .have:=vH xs k;lia
def OQ:R2:=fun x y H Q=>∃l b xs zs,x = .ref l/\y = .ref b/\H l=some (.lst xs)/\H b=some (.lst zs)/\xs.length+zs.length<=sizeLine/\∀p,H p=none->Q (.ref p) (cW H p (.lst (xs++zs)))
theorem xk:vh X (binaryOp .Add) OQ:=by
 intro ab s σ H x y v u Q I rx ry h;obtain⟨l,b,xs,zs,rfl,rfl,hH,hB,hz,q⟩:=h;cases rx;cases ry;obtain⟨z,its,n,r,hl,e⟩:=I.lstM hH;obtain⟨z2,its2,n2,r2,hl2,e2⟩:=I.lstM hB;refine PySem.P.add_list e e2 ?_ (by rw[Sx,Sx];lia)
 have ea:its.toArray++its2.toArray=(its++its2).toArray:=by simp
 rw[ea];exact⟨.ref _,_,I.lnew (t':=s.toks) (r.append r2) (by rw[lAq];lia),rfl,q _ I.fresh⟩
end
section
variable {κ:Type} [DecidableEq κ]
noncomputable def pU(kvs:List (κ×V)) (k:κ):Option V:=(kvs.find? fun kv=>decide (kv.1=k)).map (·.2)
noncomputable def nj(kvs:List (κ×V)) (k:κ) (v:V):List (κ×V) :=
 if (kvs.any fun kv=>decide (kv.1=k))=true then kvs.map (fun kv=>if kv.1=k then (kv.1,v) else kv) else kvs++[(k,v)]
theorem uZ{p:κ×V}{r:List (κ×V)}{k:κ}(e:p.1=k):pU (p::r) k=some p.2:=by simp[pU,U4,e]
theorem uA{p:κ×V}{r:List (κ×V)}{k:κ}(e:¬ p.1=k):pU (p::r) k=pU r k:=by simp[pU,U4,e]
theorem yK(k:κ):∀kvs:List (κ×V),(kvs.any fun kv=>decide (kv.1=k))=(pU kvs k).isSome
 | []=>rfl
 |p::r=>by
  rw[UH]
  by_cases e:p.1=k
  .simp only [uZ e,decide_eq_true e,Bool.true_or,Option.isSome_some]
  .rw [uA e,decide_eq_false e,Bool.false_or];exact yK k r
theorem mZ(kvs:List (κ×V)) (k:κ) (v:V):(nj kvs k v).length<=kvs.length+1:=by
 unfold nj;split
 .rw [lMq];lia
 .rw [lAq,lCq,T4];lia
theorem vv.isSome_eq{o:Option V}{u:Option Value}(r:vv o u):o.isSome=u.isSome:=by
 cases o with
 |none=>cases u with
  |none=>rfl
  |some _=>exact(show False from r).elim
 |some _=>cases u with
  |none=>exact(show False from r).elim
  |some _=>rfl
theorem KV.val{kvs:List (κ×V)}{vs:List (κ×Value)}(r:KV kvs vs) (k:κ):vv (pU kvs k) (valueAt vs k):=by
 unfold KV at r
 induction r with
 |nil=>exact True.intro
 | @cons p q ps qs h t ih =>
  obtain⟨h1,h2⟩:=h
  by_cases e:p.1=k
  .have e':q.1=k:=h1.symm.trans e;have b:valueAt (q::qs) k=some q.2:=by simp[valueAt,U4,e']
   rw[uZ e,b];exact h2
  .have e':¬ q.1=k:=fun z=>e (h1.trans z)
   have b:valueAt (q::qs) k=valueAt qs k:=by simp[valueAt,U4,e']
   rw[uA e,b];exact ih
theorem KV.any{kvs:List (κ×V)}{vs:List (κ×Value)}(r:KV kvs vs) (k:κ):(kvs.any fun kv=>decide (kv.1=k))=vs.any fun kv=>decide (kv.1=k):=by
 unfold KV at r
 induction r with
 |nil=>rfl
 |cons h t ih=>rw[UH,UH,ih,h.1]
theorem KV.repl{kvs:List (κ×V)}{vs:List (κ×Value)}(r:KV kvs vs) (k:κ) {y:V}{u:Value}(ry:cx y u) :
  KV (kvs.map fun kv=>if kv.1=k then (kv.1,y) else kv) (vs.map fun kv=>if kv.1=k then (kv.1,u) else kv):=by
 unfold KV at r ⊢
 induction r with
 |nil=>exact .nil
 | @cons p q ps qs h t ih =>
  rw[Sq,Sq];refine .cons ?_ ih;obtain⟨h1,h2⟩:=h
  by_cases e:p.1=k
  .rw [if_pos e,if_pos (h1.symm.trans e)];exact⟨h1,ry⟩
  .rw [if_neg e,if_neg (fun z=>e (h1.trans z))];exact⟨h1,h2⟩
theorem KV.put{kvs:List (κ×V)}{vs:List (κ×Value)}(r:KV kvs vs) (k:κ) {y:V}{u:Value}(ry:cx y u):KV (nj kvs k y) (stored vs k u):=by
 unfold nj stored;rw[r.any k]
 by_cases e:(vs.any fun kv=>decide (kv.1=k))=true
 .rw [if_pos e,if_pos e];exact r.repl k ry
 .rw [if_neg e,if_neg e];exact Paired.snoc r ⟨rfl,ry⟩
theorem KV.length{kvs:List (κ×V)}{vs:List (κ×Value)}(r:KV kvs vs):kvs.length=vs.length:=Paired.length r
end
theorem zA{P:Program}{w:World}{k:aX}{u:Value}(r:cx (kV k) u):(cT P w).is k u=true:=by
 cases k with
 |inl i=>obtain⟨t,e⟩:=(show ∃t,u=Wk i t from r);subst e;exact yO P w i t
 |inr x=>obtain⟨t,e⟩:=(show ∃t,u=Xf x t from r);subst e;exact yr P w x t
theorem vM{P:Program}{w:World}:∀{ks:List aX}{us:List Value},bz (ks.map kV) us->ItemsAre (cT P w) ks us
 | [],_,r=>by rw[UZ]at r;cases r;exact .nil
 |k::ks,_,r=>by
  rw[Sq]at r;cases r with
  |cons h t=>exact .cons (zA h) (vM t)
abbrev KT(H:Hp):List (List aX×V)->List (List aX×Addr×Value)->Prop:=Paired fun p q=>p.1=q.1/\H q.2.1=some (.tup (p.1.map kV))/\cx p.2 q.2.2
theorem KT.val{H:Hp}{kvs:List (List aX×V)}{xs:List (List aX×Addr×Value)}(r:KT H kvs xs) (k:List aX):vv (pU kvs k) ((atKey xs k).map (·.2)):=by
 induction r with
 |nil=>exact True.intro
 | @cons p q ps qs h t ih =>
  obtain⟨h1,_,h2⟩:=h
  by_cases e:p.1=k
  .have e':q.1=k:=h1.symm.trans e;have b:atKey (q::qs) k=some q.2:=by simp[atKey,U4,e']
   rw[uZ e,b];exact h2
  .have e':¬ q.1=k:=fun z=>e (h1.trans z)
   have b:atKey (q::qs) k=atKey qs k:=by simp[atKey,U4,e']
   rw[uA e,b];exact ih
theorem KT.repl{H:Hp}{kvs:List (List aX×V)}{xs:List (List aX×Addr×Value)}(r:KT H kvs xs) (k:List aX) {y:V}{u:Value}(ry:cx y u) :
  KT H (kvs.map fun kv=>if kv.1=k then (kv.1,y) else kv) (xs.map (putAt k u)):=by
 induction r with
 |nil=>exact .nil
 | @cons p q ps qs h t ih =>
  rw[Sq,Sq];refine .cons ?_ ih;obtain⟨h1,h2,h3⟩:=h;unfold putAt
  by_cases e:p.1=k
  .rw [if_pos e,if_pos (h1.symm.trans e)];exact⟨h1,h2,ry⟩
  .rw [if_neg e,if_neg (fun z=>e (h1.trans z))];exact⟨h1,h2,h3⟩
theorem KT.put{H:Hp}{kvs:List (List aX×V)}{xs:List (List aX×Addr×Value)}(r:KT H kvs xs) (k:List aX) {b:Addr}{y:V}{u:Value}(hb:H b=some (.tup (k.map kV))) (ry:cx y u) :
  KT H (nj kvs k y) (storedH xs k b u):=by
 have e:(kvs.any fun kv=>decide (kv.1=k))=(atKey xs k).isSome:=by
  rw[yK,(r.val k).isSome_eq,Vp]
 unfold nj storedH;rw[e]
 by_cases q:(atKey xs k).isSome=true
 .rw [if_pos q,if_pos q];exact r.repl k ry
 .rw [if_neg q,if_neg q];exact Paired.snoc r ⟨rfl,hb,ry⟩
theorem KT.keeps{H H':Hp}{kvs:List (List aX×V)}{xs:List (List aX×Addr×Value)}(r:KT H kvs xs) (ht:∀b ys,H b=some (.tup ys)->H' b=some (.tup ys)):KT H' kvs xs :=
 Paired.mapP r fun _ _ z=>⟨z.1,ht _ _ z.2.1,z.2.2⟩
section
variable {P:Program}{w:World}{H:Hp}{h:Heap}{a:Addr}
theorem Kh{u:HO}(ok:pD P w H h) (e:Rd H a u):dA P w H h a u:=e.ok ok
theorem yG{kvs:List (aX×V)}(ok:pD P w H h) (e:Rd H a (.dK kvs)):kvs.length<=sizeLine/\(a == sysModules)=false/\∃vs,KV kvs vs/\h.DictOf (cT P w) a vs :=
 show dA P w H h a (.dK kvs) from Kh ok e
theorem Km{kvs:List (aX×V)}(ok:pD P w H h) (e:H a=some (.dK kvs)):kvs.length<=sizeLine/\(a == sysModules)=false/\∃vs,KV kvs vs/\h.DictOf (cT P w) a vs:=yG ok (.inl e)
theorem wY{ks:List aX}(ok:pD P w H h) (e:H a=some (.tup (ks.map kV))):(tupleKind (cT P w)).is h ks a:=by
 obtain⟨_,its,r,o,h1,h2,n,h3⟩:=(show dA P w H h a (.tup (ks.map kV)) from ok a _ e)
 exact⟨o,its.toArray,n,h1,h2,h3,by simpa using vM r⟩
theorem yT{kvs:List (List aX×V)}(ok:pD P w H h) (e:Rd H a (.dT kvs)):kvs.length<=sizeLine/\(a == sysModules)=false /\
  ∃xs,KT H kvs xs/\h.DictOfH (tupleKind (cT P w)) a xs:=by
 obtain⟨z,y,xs,r,o,es,ep,h1,h2,h3,h4,h5⟩:=(show dA P w H h a (.dT kvs) from Kh ok e)
 refine⟨z,y,xs,r,o,es,ep,h1,h2,h3,h4,fun x hx=>?_,h5⟩
 have all:∀{l:List (List aX×V)}{m:List (List aX×Addr×Value)},KT H l m->∀x∈m,(tupleKind (cT P w)).is h x.1 x.2.1:=by
  intro l m q
  induction q with
  |nil=>intro x hx;exact nomatch hx
  | @cons p q ps qs hq t ih =>
   intro x hx;rcases Si.mp hx with e|hx
   .subst e;exact wY ok (by rw[←hq.1];exact hq.2.1)
   .exact ih x hx
 exact all r x hx
theorem Oa{kvs:List (List aX×V)}(ok:pD P w H h) (e:H a=some (.dT kvs)):kvs.length<=sizeLine/\(a == sysModules)=false /\
  ∃xs,KT H kvs xs/\h.DictOfH (tupleKind (cT P w)) a xs:=yT ok (.inl e)
end
def vc(H:Hp) (a:Addr) (y:V) (r:Option V):Prop :=
 (∃kvs k,Rd H a (.dK kvs)/\y=kV k/\r=pU kvs k)∨∃kvs k b,Rd H a (.dT kvs)/\y = .ref b/\H b=some (.tup (k.map kV))/\r=pU kvs k
def C1(H:Hp) (a:Addr) (y v:V) (H':Hp):Prop :=
 (∃kvs k,H a=some (.dK kvs)/\y=kV k/\kvs.length<sizeLine/\H'=cW H a (.dK (nj kvs k v))) ∨
 ∃kvs k b,H a=some (.dT kvs)/\y = .ref b/\H b=some (.tup (k.map kV))/\kvs.length<sizeLine/\H'=cW H a (.dT (nj kvs k v))
theorem vc.k{H:Hp}{a:Addr}{kvs:List (aX×V)}{k:aX}(e:H a=some (.dK kvs)):vc H a (kV k) (pU kvs k):=.inl ⟨kvs,k,.inl e,rfl,rfl⟩
theorem C1.k{H:Hp}{a:Addr}{kvs:List (aX×V)}{k:aX}{v:V}(e:H a=some (.dK kvs)) (hl:kvs.length<sizeLine):C1 H a (kV k) v (cW H a (.dK (nj kvs k v))):=.inl ⟨kvs,k,e,rfl,hl,rfl⟩
section
variable {X:Cx}{ab:List (Addr×Obj)}{σ:St}{H:Hp}{s:Shared}{a:Addr}{y v:V}{u r:Value}{o:Option V}{A:Around}{E:Value->Shared->Prop}
theorem Inv.big(I:Inv X ab σ H s):sysModules<s.heap.objs.size:=by
 have h:mainGlobals<s.heap.objs.size:=(I.mod.glob.keeps I.bk).lt;exact Nat.lt_trans (by decide) h
theorem Df{Q:Value->Shared->Prop}(hu:A.units+1<cLine) (I:Inv X ab σ H s) (g:vc H a y (some v)) (ry:cx y u) (h:∀w' s',Inv X ab σ H s'->cx v w'->Q w' s') :
  wpAny (model X.prog X.w) A (getItem (.ref a) u) Q E s:=by
 rcases g with ⟨kvs,k,e,ey,l⟩|⟨kvs,k,b,e,ey,eb,l⟩
 .subst ey;obtain⟨z,hd,vs,rel,dd⟩:=yG I.hok e;obtain⟨w',hw,rw'⟩:=vv.some_of (v:=v) (o:=valueAt vs k) (by rw[l];exact rel.val k)
  exact wpAny_getItem_of (zA ry) dd.mapOf hw (h w' _ (I.tok _) rw')
 .subst ey;cases (show u=TY b from ry)
  obtain⟨z,hd,xs,rel,dd⟩:=yT I.hok e;obtain⟨w',hw,rw'⟩:=vv.some_of (v:=v) (o:=(atKey xs k).map (·.2)) (by rw[l];exact rel.val k)
  obtain⟨p,hp,hp2⟩:=oMq.mp hw;refine wpAny_getItem_heap (tupleKind_room_in1 hu) (wY I.hok eb) dd hp ?_;rw[hp2];exact h w' _ (I.tok _) rw'
theorem JO{Q:Value->Shared->Prop}(hu:A.units+1<cLine) (I:Inv X ab σ H s) (g:vc H a y o) (ry:cx y u) (h:∀s',Inv X ab σ H s'->Q (.bool (!o.isSome)) s') :
  wpAny (model X.prog X.w) A (compareOp .NotIn u (.ref a)) Q E s:=by
 rcases g with ⟨kvs,k,e,ey,l⟩|⟨kvs,k,b,e,ey,eb,l⟩
 .subst ey;obtain⟨z,hd,vs,rel,dd⟩:=yG I.hok e;refine wpAny_notIn_of (zA ry) hd dd.mapOf ?_;rw[← (rel.val k).isSome_eq,←l];exact h _ (I.tok _)
 .subst ey;cases (show u=TY b from ry)
  obtain⟨z,hd,xs,rel,dd⟩:=yT I.hok e;refine wpAny_notIn_heap (tupleKind_room_in1 hu) (wY I.hok eb) hd dd ?_;have q:=(rel.val k).isSome_eq;rw[Vp]at q;rw[←q,←l];exact h _ (I.tok _)
theorem xq{h':Heap}{t':Nat}{ob:HO}(I:Inv X ab σ H s) (mu:OU (H a)) (hs:VM a s.heap h') (he:∃q,h'.get? a=some q) (new:dA X.prog X.w (cW H a ob) h' a ob) :
  Inv X ab σ (cW H a ob) { s with heap:=h',toks:=t' } :=
 I.write (x:=a) (e:=a) mu (.inl rfl) (fun b q hb z=>(hs.2 b hb).trans z) he new
theorem GG{P:Program}{w:World}{H':Hp}{h':Heap}{kvs:List (aX×V)}{vs:List (aX×Value)}(z:kvs.length<=sizeLine) (hd:(a == sysModules)=false) (rel:KV kvs vs) (dd:h'.DictOf (cT P w) a vs) :
  dA P w H' h' a (.dK kvs):=⟨z,hd,vs,rel,dd⟩
theorem Du{H':Hp}{Q:Unit->Shared->Prop}(hu:A.units+1<cLine) (I:Inv X ab σ H s) (g:C1 H a y v H') (ry:cx y u) (rv:cx v r) (h:∀s',Inv X ab σ H' s'->Q () s') :
  wpAny (model X.prog X.w) A (setItem (.ref a) u r) Q E s:=by
 rcases g with ⟨kvs,k,e,ey,l,eH⟩|⟨kvs,k,b,e,ey,eb,l,eH⟩
 .subst ey eH;obtain⟨z,hd,vs,rel,dd⟩:=Km I.hok e;have hz:vs.length<=sizeLine:=by rw[←rel.length];exact z
  have hl:(nj kvs k v).length<=sizeLine:=by have:=mZ kvs k v;lia
  refine wpAny_setItem_pairs (hsz:=hz) (zA ry) dd fun h' dd' hs=>h _ ?_
  have he:∃q,h'.get? a=some q:=let ⟨q,_,_,hq,_⟩:=dd';⟨q,hq⟩
  exact xq I (by rw[e];exact True.intro) hs he (GG hl hd (rel.put k rv) dd')
 .subst ey eH;cases (show u=TY b from ry)
  obtain⟨z,hd,xs,rel,dd⟩:=Oa I.hok e;have hz:xs.length<=sizeLine:=by rw[←Paired.length rel];exact z
  have hl:(nj kvs k v).length<=sizeLine:=by have:=mZ kvs k v;lia
  refine wpAny_setItem_heap (hsz:=hz) (tupleKind_room_in1 hu) (wY I.hok eb) dd fun h' dd' hs=>h _ ?_
  obtain⟨q,es,ep,hq,h2,h3,h4,_,h5⟩:=dd';refine xq I (by rw[e];exact True.intro) hs ⟨q,hq⟩ ⟨hl,hd,_,(rel.put k eb rv).keeps fun c ys ec=>?_,q,es,ep,hq,h2,h3,h4,h5⟩
  rw[aL (Po ec e (fun z=>nomatch z))]
  exact ec
end
def OR(i:Expr):Prop:=∀ov iv,subscripted i false ov iv=operate [ov,iv] (getItem ov iv)
theorem Jv{prog:Program}{w:World}{A:Around}{E:Value->Shared->Prop}{s:Shared}{env:Env}{value slice:Expr}{pos:Pos}{T id:String}{Q:Value->Shared->Prop}
  (hl:typeLookup (.type T) "__getitem__" = pure (some (.builtin id))) (hs:OR slice)
  (h:wpAny (model prog w) A (eval value env) (fun o s₁=>wpAny (model prog w) A (eval slice env) (fun i s₂=>s₂.TypeIs o T/\wpAny (model prog w) A (getItem o i) Q E s₂) E s₁) E s) :
  wpAny (model prog w) A (eval (.Subscript value slice pos) env) Q E s:=by
 refine Subscript_ (wpAny_mono h (fun o s₁ h₁=>wpAny_mono h₁ (fun i s₂ h₂=>?_) fun _ _ x=>x) fun _ _ x=>x)
 obtain⟨hT,h₂⟩:=h₂;unfold subscriptTail;refine wpAny_bind ?_;rw[getitemInPython_of_ne hT.not_modules];refine wpAny_bind (wpAny_specialOf hT hl ?_);have fin:wpAny (model prog w) A (subscripted slice false o i) (fun r s₃=>wpAny (model prog w) A (letTemporaryGo value o r >>= fun _=>pure r) Q E s₃) E s₂:=by
  rw[hs o i];exact wpAny_operating (wpAny_mono h₂ (fun r s₃ h₃=>wpAny_bind (wpAny_letTemporaryGo (wpAny_pure h₃))) fun _ _ x=>x)
 first
  |exact wpAny_pure (wpAny_bind fin)
  |exact wpAny_bind (wpAny_pure (wpAny_bind fin))
  |exact wpAny_bind fin
theorem zt{X:Cx}{ab:List (Addr×Obj)}{σ:St}{H:Hp}{s:Shared}{a:Addr}{y:V}{o:Option V}(I:Inv X ab σ H s) (g:vc H a y o):s.TypeIs (.ref a) "dict" := by
 rcases g with ⟨kvs,k,e,_,_⟩|⟨kvs,k,b,e,_,_,_⟩
 .obtain ⟨_,_,vs,_,dd⟩:=yG I.hok e;exact dd.typeIs
 .obtain ⟨_,_,xs,_,dd⟩:=yT I.hok e;exact dd.typeIs
noncomputable def Et(td ty:TE):TE:=fun σ H Q=>td σ H fun x H1=>ty σ H1 fun y H2=>∃a v,x = .ref a/\vc H2 a y (some v)/\Q v H2
noncomputable def BM(ty td:TE):TE:=fun σ H Q=>ty σ H fun y H1=>td σ H1 fun x H2=>∃a o,x = .ref a/\vc H2 a y o/\Q (.bl (!o.isSome)) H2
def Gg(td ty tv:TE):TS:=fun D σ H=>tv σ H fun v H1=>td σ H1 fun x H2=>ty σ H2 fun y H3=>∃a H4,x = .ref a/\C1 H3 a y v H4/\D.nx σ H4
section
variable {X:Cx}{o i e value:Expr}{pos pos' tpos:Pos}{td ty tv:TE}
theorem nO(hu:X.A.units+1<cLine) (ho:PE X o td) (hi:PE X i ty) (hs:OR i):PE X (.Subscript o i pos) (Et td ty):=by
 intro ab s σ H Q I h;refine Jv PySem.F.slot_dict_getitem.lookup hs (eE (ho ab s σ H _ I h) fun u s1 ⟨x,H1,I1,rx,q1⟩=>eE (hi ab s1 σ H1 _ I1 q1) fun iv s2 ⟨y,H2,I2,ry,a,v,ex,g,q2⟩=>?_)
 subst ex;obtain rfl:u=TY a:=rx;exact⟨zt I2 g,Df hu I2 g ry fun w' s3 I3 rw'=>⟨v,H2,I3,rw',q2⟩⟩
theorem gX(hu:X.A.units+1<cLine) (hi:PE X i ty) (ho:PE X o td):PC X .NotIn i o (BM ty td):=by
 intro ab s σ H Q I h;refine eE (hi ab s σ H _ I h) fun iv s1 ⟨y,H1,I1,ry,q1⟩=>eE (ho ab s1 σ H1 _ I1 q1) fun u s2 ⟨x,H2,I2,rx,a,ov,ex,g,q2⟩=>?_
 subst ex;obtain rfl:u=TY a:=rx;exact JO hu I2 g ry fun s3 I3=>⟨.bl (!ov.isSome),H2,I3,rfl,q2⟩
theorem il(hu:X.A.units+1<cLine) (ho:PE X o td) (hi:PE X i ty) (hv:PE X value tv) (hs:swapsWith value (some (.Subscript o i pos')) pos.line X.env=pure false) :
  PS X (.Assign [.Subscript o i pos'] value pos) (Gg td ty tv):=by
 intro ab s σ H D I h;refine wpAny_Assign_Subscript (eE (hv ab s σ H _ I h) fun r s1 ⟨v,H1,I1,rv,q1⟩=>eE (ho ab s1 σ H1 _ I1 q1) fun u s2 ⟨x,H2,I2,rx,q2⟩=>eE (hi ab s2 σ H2 _ I2 q2) fun iv s3 ⟨y,H3,I3,ry,a,H4,ex,g,q3⟩=>?_) hs
 subst ex;obtain rfl:u=TY a:=rx;exact Du hu I3 g ry rv fun s4 I4=>⟨σ,H4,I4,q3⟩
end
theorem yf{P:Program}{w:World}{H:Hp}(h:Heap) (hb:sysModules<h.objs.size):dA P w H (h.push { cls:=.type "dict", data:=.dict #[] }) h.objs.size (.dK []) :=
 ⟨Tf _,beq_eq_false_iff_ne.mpr (Ne.symm (SU hb)),[],.nil,Heap.DictOf.new h⟩
def EJ:TE:=fun _ H Q=>∀p,H p=none->Q (.ref p) (cW H p (.dK []))
section
variable {X:Cx}{pos:Pos}
theorem gG:PE X (.Dict [] [] pos) EJ:=fun ab s σ H Q I h =>
 wpAny_Dict_empty ⟨.ref s.heap.objs.size,_,I.laid (a:=s.heap.objs.size) (o:=.dK []) (t':=s.toks) (fun _ _ q=>Sn _ q) (Sg _) (yf s.heap I.big),rfl,h _ (I.hok.fresh (Sg _))⟩
end
def AZ:List (TE×TE)->St->Hp->(List (V×V)->Hp->Prop)->Prop
 | [],_,H,Q=>Q [] H
 | (tk,tv)::r,σ,H,Q=>tk σ H fun x H1=>tv σ H1 fun y H2=>AZ r σ H2 fun ps H3=>Q ((x,y)::ps) H3
abbrev VV:List (V×V)->List (Value×Value)->Prop:=Paired fun p q=>cx p.1 q.1/\cx p.2 q.2
def PQ(X:Cx) (pos:Pos) (keys:List (Option Expr)) (values:List Expr) (trs:List (TE×TE)):Prop :=
 ∀(ab:List (Addr×Obj)) (s:Shared) (σ:St) (H:Hp) (Q:List (V×V)->Hp->Prop),Inv X ab σ H s->AZ trs σ H Q ->
  wpAny (model X.prog X.w) X.A (evalPairs (pairTrees keys values X.env pos)) (fun vs s'=>∃ps H',Inv X ab σ H' s'/\VV ps vs/\Q ps H') X.xe s
theorem JT{X:Cx}{pos:Pos}:PQ X pos [] [] []:=fun ab s σ H Q I h=>pairTrees_nil_walk ⟨[],H,I,.nil,h⟩
theorem Fz{X:Cx}{pos:Pos}{k v:Expr}{ks:List (Option Expr)}{vs:List Expr}{tk tv:TE}{trs:List (TE×TE)}(hk:PE X k tk) (hv:PE X v tv) (hr:PQ X pos ks vs trs) :
  PQ X pos (some k::ks) (v::vs) ((tk,tv)::trs):=fun ab s σ H Q I h =>
 pairTrees_cons_walk (eE (hk ab s σ H _ I h) fun u s1 ⟨x,H1,I1,rx,q1⟩=>eE (hv ab s1 σ H1 _ I1 q1) fun w2 s2 ⟨y,H2,I2,ry,q2⟩ =>
  eE (hr ab s2 σ H2 _ I2 q2) fun ws s3 ⟨ps,H3,I3,rel,q3⟩=>⟨(x,y)::ps,H3,I3,.cons ⟨rx,ry⟩ rel,q3⟩)
def qS(kvs more:List (aX×V)):List (aX×V):=more.foldl (fun acc kv=>nj acc kv.1 kv.2) kvs
theorem KV.merge:∀{more:List (aX×V)}{rs:List (aX×Value)}{kvs:List (aX×V)}{vs:List (aX×Value)},KV more rs->KV kvs vs->KV (qS kvs more) (merged vs rs):=by
 intro more rs kvs vs r;unfold KV at r
 induction r generalizing kvs vs with
 |nil=>intro q;exact q
 | @cons p q ps qs h t ih =>
  intro r0;have e:KV (nj kvs p.1 p.2) (stored vs q.1 q.2):=by
   have:=r0.put p.1 h.2;rw[←h.1];exact this
  exact ih e
theorem oi:∀(more kvs:List (aX×V)),(qS kvs more).length<=kvs.length+more.length
 | [],kvs=>by show kvs.length<=kvs.length+0;lia
 |p::r,kvs=>by
  have h1:=oi r (nj kvs p.1 p.2);have h2:=mZ kvs p.1 p.2;show (qS (nj kvs p.1 p.2) r).length<=_;rw[lCq];lia
theorem tx{P:Program}{w:World}:∀{kvs:List (aX×V)}{ws:List (Value×Value)},VV (kvs.map fun kv=>(kV kv.1,kv.2)) ws->∃rs,Carries (cT P w) ws rs/\KV kvs rs
 | [],_,r=>by rw[UZ]at r;cases r;exact⟨[],True.intro,.nil⟩
 |p::kvs,_,r=>by
  rw[Sq]at r;cases r with
  | @cons a b as bs h t =>
   obtain⟨rs,c,q⟩:=tx (P:=P) (w:=w) t;obtain⟨b1,b2⟩:=b;exact⟨(p.1,b2)::rs,⟨zA h.1,rfl,c⟩,.cons ⟨rfl,h.2⟩ q⟩
def Kj(trs:List (TE×TE)):TE:=fun σ H Q=>∀p,H p=none->AZ trs σ (cW H p (.dK [])) fun ps H2=>H2 p=some (.dK [])/\∃kvs:List (aX×V),ps=kvs.map (fun kv=>(kV kv.1,kv.2))/\kvs.length<=15/\Q (.ref p) (cW H2 p (.dK (qS [] kvs)))
theorem ID{X:Cx}{pos:Pos}{keys:List (Option Expr)}{values:List Expr}{trs:List (TE×TE)}(h:PQ X pos keys values trs) (hall:keys.all (·.isSome)=true) (hl:keys.length=values.length) (h0:keys≠[])
  (h15:keys.length<=15):PE X (.Dict keys values pos) (Kj trs):=by
 intro ab s σ H Q I q;have hn:=I.hok.fresh (Sg s.heap.objs.size);have I1:=I.laid (a:=s.heap.objs.size) (o:=.dK []) (h':=s.heap.push { cls:=.type "dict", data:=.dict #[] }) (t':=s.toks) (fun _ _ q=>Sn _ q) (Sg _) (yf s.heap I.big)
 refine wpAny_Dict_walk (knd:=cT X.prog X.w) hall hl h0 h15 (eE (h ab _ σ _ _ I1 (q _ hn)) fun ws s2 ⟨ps,H2,I2,rel,e,kvs,ep,lk,q2⟩=>?_)
 subst ep;obtain⟨rs,c,rk⟩:=tx (P:=X.prog) (w:=X.w) rel;obtain⟨z,hd,vs0,r0,dd⟩:=Km I2.hok e;cases r0;refine⟨rs,c,dd,fun h' dd' hs=>⟨.ref s.heap.objs.size,_,?_,rfl,q2⟩⟩
 have hz:(qS [] kvs).length<=sizeLine:=by
  have h1:=oi kvs [];rw[T4]at h1;rw[sizeLine_eq];lia
 have he:∃q,h'.get? s.heap.objs.size=some q:=let ⟨q,_,_,hq,_⟩:=dd';⟨q,hq⟩
 exact xq I2 (by rw[e];exact True.intro) hs he (GG hz hd (rk.merge .nil) dd')
structure M2 (X:Cx) (o:Expr) (m:Str) (apos:Pos) (e f:Expr) (cpos:Pos):Prop where
 base:attributeBase o m X.env (eval o X.env)=eval o X.env
 few:((backTo cpos (starEach [e,f] X.env)).all (fun x=>!x.1) && (backToKw cpos (keywordEach [] X.env)).all (fun x=>x.1.isSome)
  && decide (([e,f]:List Expr).length+([]:List Keyword).length+(if ([]:List Keyword).isEmpty then 0 else 1)<30))=true
 line:(apos.endLine == cpos.line)=true
 trees:backTo cpos (starEach [e,f] X.env)=[(false,eval e X.env),(false,eval f X.env)]
def RG(H:Hp) (a:Addr):Prop:=(∃kvs,Rd H a (.dK kvs))∨∃kvs,Rd H a (.dT kvs)
theorem Nj{X:Cx}{ab:List (Addr×Obj)}{σ:St}{H:Hp}{s:Shared}{a:Addr}(I:Inv X ab σ H s) (d:RG H a) :
  s.TypeIs (.ref a) "dict" /\ (∀b,TY a = .ref b->∃ob,s.heap.get? b=some ob/\ob.dict=none)/\(a == sysModules)=false:=by
 rcases d with ⟨kvs,e⟩|⟨kvs,e⟩
 .obtain ⟨_,hd,vs,_,dd⟩:=yG I.hok e;refine⟨dd.typeIs,fun b q=>?_,hd⟩
  cases q;obtain⟨ob,_,_,h1,h2,_⟩:=dd;exact⟨ob,h1,h2.2.1⟩
 .obtain ⟨_,hd,xs,_,dd⟩:=yT I.hok e;refine⟨dd.typeIs,fun b q=>?_,hd⟩
  cases q;obtain⟨ob,_,_,h1,h2,_⟩:=dd;exact⟨ob,h1,h2.2.1⟩
end L2
namespace Att
open PySem PySem.W PySem.Calls PyProof.Rows
theorem rS{P:Params}{h:Heap}:∀(ns:List Int) (vs:List Value),WellAll P h vs (ns.map WData.int)->IntsAre vs ns:=by
 intro ns
 induction ns with
 |nil =>
  intro vs w;rw[UZ]at w;cases w;exact .nil
 |cons n ns ih =>
  intro vs w;rw[Sq]at w;cases w with
  |cons a b =>
   cases a;exact .cons _ _ (ih _ b)
theorem Dp{l:OpenLaw}{n:Nat}(hn:l.most=some n) {P:Params}{h:Heap}{args:List WData}{vals:List Value}
  (hpre:l.row.toRowW.claim.pre args=true) (hwl:WellAll P h vals args) :
  ∃a vs ns,vals=[TY a]/\args=[WData.list (ns.map WData.int)]/\h.get? a=some { cls:=.type "list", data:=.seq vs.toArray }/\IntsAre vs ns/\ns.length<=n:=by
 have hsh:WShape.hasAll [] args [.list .int]=true:=(pre_splitW hpre).1;have hc:l.pre.holds [] { args:=args }=true:=(pre_splitW hpre).2;obtain⟨d,r,rfl,h1,h2⟩:=hasAllW_cons hsh;obtain rfl:=hasAllW_nil h2;obtain⟨xs,rfl,h3⟩:=hasW_list h1;obtain⟨ns,rfl⟩:=items_int h3;have hlen:ns.length<=n:=by
  unfold OpenLaw.pre at hc;have h4:(WTm.not (.lt (.lit (.int (n:Int))) (.len (.arg 0)))).holds [] { args:=[.list (ns.map .int)] }=true:=by
   have h4:=(holds_andW hc).1;rw[hn]at h4;exact h4
  have h5:=condW_of h4 (w_not (w_lt w_lit (w_len_list (w_arg rfl))));rw[lMq]at h5;refine Nat.le_of_not_lt fun q=>?_
  have q':(n:Int)<((ns.length:Nat):Int):=by lia
  first
   | (rw[decide_eq_true q']at h5;exact absurd h5 (by decide))
   | (simp at h5;lia)
 cases hwl with
 |cons w1 w2 =>
  cases w2;cases w1 with
  |list ho hall=>exact⟨_,_,ns,rfl,rfl,ho,rS ns _ hall,hlen⟩
theorem Dq(l:OpenLaw) (args:List WData):l.row.toRowW.claim.post args (.bool true) args=true :=
 postW_of (r:=l.row.toRowW) (X:=(true == true))
  (show WShape.has [] (.bool true) .bool=true by first|rfl|decide|simp[WShape.has,WShape.arms,WShape.armsAll])
  (show (WTm.eq .res (.lit (.bool true))).value [] { args:=args,res:=some (.bool true),after:=args }=some (.bool (true == true)) from w_eq_bool (w_res rfl) w_lit) rfl
theorem yn{l:OpenLaw}{n:Nat}{q:Program}{loose:List Str}{XP:(Str->Option Value)->Heap->Prop}{YP:World->Heap->Prop}{d:DefRec}
  (hn:l.most=some n) (hdf:d.params.defaults=[])
  (call:∀(w:World) (s₀ s₁:Shared) (mg mb:Str->Option Value) (fa:Addr) (o:Obj) (pm cd doc:Value) (a:Addr) (vs:List Value) (ns:List Int),
   Ground q loose [] XP w s₀ mg mb s₁.heap->YP w s₁.heap ->
   s₁.heap.get? fa=some o->o.data = .func (docDef d.name d.params d.body d.scope pm cd doc)->s₁.heap.CodeRec cd d.name->mg d.name=some (.ref fa) ->
   s₁.heap.get? a=some { cls:=.type "list", data:=.seq vs.toArray }->IntsAre vs ns->ns.length<=n->s₁.gens=#[] ->
   codeAny (model l.prog w) callerA (.call (.ref fa) ⟨[.ref a],[]⟩) (fun r s'=>r = .ok (.ret (.bool true))/\OldK s₁.heap s'.heap/\s'.os=s₁.os/\AllBare s'.gens) s₁) :
  WalkO q loose XP YP l.row.toRowW d [] (fun f vs=>PySem.call f vs):=by
 intro w s₀ s₁ mg mb G Y fa o pm cd doc dV kV ho hd hcd hD hmg hg args vals as hpre hlay hrd hwl hlo;obtain rfl:dV = .none:=Dflts.none hD hdf;obtain rfl:kV = .none:=Dflts.noKw hD;obtain⟨a,vs,ns,rfl,rfl,hobj,hints,hlen⟩:=Dp hn hpre hwl;refine enter_call (codeAny_mono (call w s₀ s₁ mg mb fa o pm cd doc a vs ns G Y ho (fd_plain hd) hcd hmg hobj hints hlen hg) fun r s' hq=>?_)
 obtain⟨rfl,h2,h3,h4⟩:=hq;exact⟨.inl ⟨.bool true,.bool true,[],rfl,fun _=>rfl,.bool true,Dq l _,fun _=>⟨Sy.nil,fun _ hm=>(nomatch hm)⟩⟩,h2,h3,h4⟩
end Att
namespace L2
open PySem PySem.Spec PyProof.Rows
theorem vals_ints:∀{vs:List Value}{ns:List Int},IntsAre vs ns->bz (ns.map V.int) vs
 |_,_,.nil=>.nil
 |_,_,.cons n t h=>.cons ⟨t,rfl⟩ (vals_ints h)
def Ln(H:Hp):Prop:=∀b,H b=none∨∃o xs,H b=some (.frz o (.lst xs))
theorem EF{P:Program}{w:World}{K:W.Frag}{mg mb:Str->Option Value}{CX:GQ}{k:Nat}{fa a:Addr}{fd:FuncData}{x:Str}{sp:Sp}{s₁:Shared}{vs:List Value}{ns:List Int}
  (KX:K.In s₁.heap) (hns:s₁.heap.Ns mainGlobals mg) (hb:s₁.heap.Ns builtinsNs mb) (hbb:∀x:Str,x ≠ "__name__" -> mb x=bootBuiltins x) (hlim:s₁.heap.NoLimit) (hg:s₁.gens=#[])
  (ha:s₁.heap.get? a=some { cls:=.type "list", data:=.seq vs.toArray }) (hi:IntsAre vs ns) (hl:ns.length<=sizeLine) (hr:jH k callerA)
  (F:∀base:Heap,K.In base->base.Ns mainGlobals mg->rO P w K mg base CX k fa fd [x] sp) (hbind:∀(s:Shared) (u:Value),BindsTo s fd ⟨[u],[]⟩ [(x,u)])
  (hsp:∀H:Hp,Ln H->dP K H a (ns.map V.int)->sp [.ref a] H (fun v _=>v = .bl true) fun _ _ _=>False)
  (hCX:∀H e s',CX [] H s₁ (fun _ _ _=>False) e s'->False) :
  codeAny (model P w) callerA (.call (.ref fa) ⟨[.ref a],[]⟩) (fun r s'=>r = .ok (.ret (.bool true))/\OldK s₁.heap s'.heap/\s'.os=s₁.os/\AllBare s'.gens) s₁:=by
 have rv:=vals_ints hi;have lenV:=hi.length;have core:∀H:Hp,Ln H->dP K H a (ns.map V.int)->pD P w H s₁.heap->(∀b,H b≠none->b=a)->(H a≠none->K.lookup a=none) ->
   codeAny (model P w) callerA (.call (.ref fa) ⟨[.ref a],[]⟩) (fun r s'=>r = .ok (.ret (.bool true))/\OldK s₁.heap s'.heap/\s'.os=s₁.os/\AllBare s'.gens) s₁:=by
  intro H hO hS hok hA hK;have base_of:∀{b:Addr}{o:Obj},s₁.heap.get? b=some o->H b=none->(wN s₁.heap H).get? b=some o:=fun e n=>G4 e n
  have noA:∀{b:Addr}{o:Obj}{es:Array DictEntry}{ep:Nat},s₁.heap.get? b=some o->o.data = .dict es ep->H b=none:=fun {b o es ep} e d=>by
   cases q:H b with
   |none=>rfl
   |some u =>
    have e':b=a:=hA b (by rw[q];simp)
    subst e';rw[ha]at e;cases e;have d':Data.seq vs.toArray _=Data.dict es ep:=d;cases d'
  have nsK:∀{b:Addr}{m:Str->Option Value},s₁.heap.Ns b m->(wN s₁.heap H).Ns b m:=fun {b m} ⟨o,es,ep,e,d,r⟩=>⟨o,es,ep,base_of e (noA e d),d,r⟩
  have hKb:K.In (wN s₁.heap H):=fun b o e=>base_of (KX b o e) (by
   cases q:H b with
   |none=>rfl
   |some u =>
    have e':b=a:=hA b (by rw[q];simp)
    subst e';rw[hK (by rw[q];simp)]at e;cases e)
  have hM:Mod K mg (wN s₁.heap H):=⟨hKb,nsK hns,⟨mb,nsK hb,hbb⟩,let ⟨mc,h1,h2⟩:=hlim;⟨mc,nsK h1,h2⟩⟩
  have e0:JL P w K mg (wN s₁.heap H) callerA [] s₁ H:=⟨rfl,hM,fun b o e=>Ir e,VN (Dv _ _),trivial,fun b hb=>absurd (show b∈([]:List Addr) from hb) (by simp),hok,.of_eq hg⟩
  refine codeAny_mono ((F _ hKb (nsK hns)).run callerA [] s₁ H ⟨[.ref a],[]⟩ [.ref a] [.ref a] _ _ hr e0 (hbind s₁ (.ref a)) (.cons rfl .nil) (hsp H hO hS)) fun r s' h=>?_
  cases r with
  |error e=>exact(hCX H e s' h).elim
  |ok fl =>
   cases fl with
   |next=>exact False.elim h
   |brk=>exact False.elim h
   |cont=>exact False.elim h
   |ret u =>
    obtain⟨v,H',os,bare,un,hok',r',q⟩:=h;have q':v = .bl true:=q;subst q';obtain rfl:u=Xq true:=r';refine⟨rfl,OldK.of_keep fun b o e=>?_,os,bare⟩
    cases q:H b with
    |none=>exact un.keep b o e q (by intro z;exact absurd (show b∈([]:List Addr) from z) (by simp)) (by simp)
    |some u =>
     rcases hO b with z|⟨ob,xs,z⟩
     .rw [q]at z;cases z
     .have z2:=un.frzs b ob _ z;obtain⟨e1,_⟩:=hok b _ z;obtain⟨e2,_⟩:=hok' b _ z2;rw[e]at e1;cases e1;exact e2
 cases hk:K.lookup a with
 |some o =>
  have e:=KX a o hk;rw[ha]at e;cases e;refine core (fun _=>none) (fun _=>.inl rfl) (.inr ⟨_,vs.toArray,_,hk,rfl,rfl,rfl,by rw[Sx,lenV];exact hl,by simpa using rv⟩) (fun b u z=>by have z':(none:Option HO)=some u:=z;cases z') (fun b z=>absurd rfl z) fun z=>absurd rfl z
 |none =>
  refine core (fun b=>if b=a then some (.frz { cls:=.type "list", data:=.seq vs.toArray } (.lst (ns.map V.int))) else none) (fun b=>?_) (.inl (.inr ⟨{ cls:=.type "list", data:=.seq vs.toArray },if_pos rfl⟩)) (fun b u z=>?_) (fun b z=>?_) fun _=>hk
  .by_cases hb:b=a
   .exact .inr ⟨_,_,if_pos hb⟩
   .exact .inl (if_neg hb)
  .by_cases hb:b=a
   .have z':=(if_pos hb).symm.trans z;cases z';subst hb;exact⟨ha,by rw[lMq];exact hl,vs,_,rv,ha⟩
   .have z':=(if_neg hb).symm.trans z;cases z'
  .by_cases hb:b=a
   .exact hb
   .exact absurd (if_neg hb) z
theorem Jj{l:W.OpenLaw}{n k:Nat}{q:Program}{loose:List Str}{XP:(Str->Option Value)->Heap->Prop}{YP:World->Heap->Prop}{d:DefRec}{K:Params->W.Frag}{CX:World->GQ}{sp:World->Sp}{x:Str}
  (hn:l.most=some n) (hn2:n<=sizeLine) (hdf:d.params.defaults=[]) (hr:jH k callerA)
  (hY:∀(w:World) (h:Heap),YP w h->(K w.params).In h)
  (F:∀(w:World) (mg:Str->Option Value) (fa:Addr) (h:Heap),(K w.params).In h->h.Ns mainGlobals mg->mg d.name=some (.ref fa) ->
   ∃fd:FuncData,(∀(s:Shared) (u:Value),BindsTo s fd ⟨[u],[]⟩ [(x,u)]) /\
    ∀base:Heap,(K w.params).In base->base.Ns mainGlobals mg->rO l.prog w (K w.params) mg base (CX w) k fa fd [x] (sp w))
  (hsp:∀(w:World) (H:Hp) (a:Addr) (ns:List Int),ns.length<=n->Ln H->dP (K w.params) H a (ns.map V.int)->sp w [.ref a] H (fun v _=>v = .bl true) fun _ _ _=>False)
  (hCX:∀(w:World) (H:Hp) (s:Shared) (e:Value) (s':Shared),CX w [] H s (fun _ _ _=>False) e s'->False) :
  W.WalkO q loose XP YP l.row.toRowW d [] (fun f vs=>PySem.call f vs):=by
 refine Att.yn hn hdf fun w s₀ s₁ mg mb fa o pm cd doc a vs ns G Y ho hd hcd hmg hobj hints hlen hg=>?_
 have KX:=hY w _ Y;obtain⟨fd,hb,hF⟩:=F w mg fa _ KX G.T.g hmg;exact EF KX G.T.g G.T.b G.T.builtins G.T.nolimit hg hobj hints (TV hlen hn2) hr hF hb (fun H hO hS=>hsp w H a ns hlen hO hS) fun H e s'=>hCX w H s₁ e s'
noncomputable def bh(s:Stmt):Arguments:=match s with
 | .FunctionDef _ a _ _ _ _ _ _ _ _=>a
 |_=>{ posonlyargs:=[],args:=[],vararg:=none,kwonlyargs:=[],kw_defaults:=[],kwarg:=none,defaults:=[] }
noncomputable def aY(s:Stmt):List Stmt:=match s with
 | .FunctionDef _ _ b _ _ _ _ _ _ _=>b
 |_=>[]
noncomputable def au(s:Stmt):Scope:=match s with
 | .FunctionDef _ _ _ _ _ _ sc _ _ _=>sc
 |_=>{ kind:=.function,names:=[],isGenerator:=false,isCoroutine:=false }
noncomputable abbrev Nf:GQ:=fun _ _ _ _ _ _=>False
noncomputable abbrev E0:XK:=fun _ _ _=>False
theorem N4{X:Cx}:zV Nf X E0:=fun _ _ _ _ _ _ _ h=>h.elim
structure Nq (K:W.Frag) (x qual:Str) (st:Stmt) (f:Addr) (fd:FuncData):Prop where
 ex:∃(oc:Value) (od:Option Addr) (kV doc pm:Value) (an:Option Addr) (iI ct:Value) (osl:Array (Option Value)),
  fd=W.fnOf x qual (bh st) (aY st) (au st) .none kV doc pm an iI ct/\K.lookup f=some ⟨oc,od,.func fd,osl⟩/\W.codeIn K iI qual=true
 kp:W.keepIn K (.ref f)=true
section
variable {P:Program}{w:World}{K:W.Frag}{mg:Str->Option Value}{base:Heap}
theorem Nq.ok{x qual:Str}{st:Stmt}{f:Addr}{fd:FuncData}{N ps:List Str}{k:Nat}{sp:Sp}(F:Nq K x qual st f fd) (S:bx N ps (au st)) (len:∀vs H Q E,sp vs H Q E->vs.length=ps.length)
  (hbody:∀(iI:Value) (A:Around) (outer:List Env) (s:Shared) (H:Hp) (vs:List V) (Q:VK) (E:XK),jH k (A.deeper (envOfC qual (au st) s.heap.objs.size f iI))->sp vs H Q E ->
   ∃t,Ef (De Nf P w K mg base N qual (au st) f iI A outer s H E).nox (aY st) t/\t { nx:=fun _ H'=>Q .non H',rt:=Q } (mJ N vs) H):rO P w K mg base Nf (k+1) f fd ps sp:=by
 obtain⟨oc,od,kV,doc,pm,an,iI,ct,osl,rfl,lk,hcd⟩:=F.ex;refine OO lk hcd S len fun A outer s H vs Q E hr hsp=>?_
 obtain⟨t,h,q⟩:=hbody iI A outer s H vs Q E hr hsp;exact⟨t,h.nox,q⟩
theorem Nq.binds{x qual:Str}{st:Stmt}{f:Addr}{fd:FuncData}{ps:List Str}(F:Nq K x qual st f fd)
  (h:∀(kV doc pm:Value) (an:Option Addr) (iI ct:Value) (us:List Value),us.length=ps.length->bindArgs (W.fnOf x qual (bh st) (aY st) (au st) .none kV doc pm an iI ct) ⟨us,[]⟩=pure (ps.zip us)):wu K fd ps []:=by
 obtain⟨oc,od,kV,doc,pm,an,iI,ct,osl,rfl,lk,hcd⟩:=F.ex;exact .all (h kV doc pm an iI ct)
theorem aM{x qual:Str}{st:Stmt}{f:Addr}{oc:Value}{od an:Option Addr}{osl:Array (Option Value)}{kV doc pm iI ct:Value}(l:K.lookup f=some ⟨oc,od,.func (W.fnOf x qual (bh st) (aY st) (au st) .none kV doc pm an iI ct),osl⟩)
  (c:W.codeIn K iI qual=true) (k:W.keepIn K (.ref f)=true):Nq K x qual st f (W.fnOf x qual (bh st) (aY st) (au st) .none kV doc pm an iI ct):=⟨⟨oc,od,kV,doc,pm,an,iI,ct,osl,rfl,l,c⟩,k⟩
end
theorem eO{A:Around}{k:Nat}(hr:jH k A):A.units+1<cLine:=Nat.lt_of_le_of_lt (Nat.add_le_add_left (by decide:1<=64) _) hr.units
section
variable {X:Cx}
theorem pv(i:Nat) {x:Str}{pos:Pos}(hN:X.N[i]?=some x:=by rfl) (hv:Q4 X.env.scope x:=by first|exact Sr rfl|exact So (Sr rfl)|exact So (So rfl)) (hd:(x == ("__debug__" : Str))=false:=by decide)
  (hcd:(x == ("__classdict__" : Str))=false:=by decide):PE X (.Name x pos) (kz i):=KQ hN hv hd hcd
end
theorem Aa{A B:Prop}(h:B):if false=true then A else B:=by
 rw[if_neg SN];exact h
theorem Bb{A B:Prop}(h:A):if true=true then A else B:=by
 rw[if_pos rfl];exact h
def bW(H H':Hp):Prop:=∀b o,H b=some o->H' b=some o
theorem bW.refl(H:Hp):bW H H:=fun _ _ h=>h
theorem bW.trans{H H1 H2:Hp}(a:bW H H1) (b:bW H1 H2):bW H H2:=fun c o h=>b c o (a c o h)
theorem bW.free{H H':Hp}(e:bW H H') {l:Addr}(h:H' l=Xn):H l=Xn:=by
 cases q:H l with
 |none=>rfl
 |some o =>
  rw[e l o q]at h;cases h
theorem bW.seq{K:W.Frag}{H H':Hp}{a:Addr}{xs:List V}(e:bW H H') (h:dP K H a xs):dP K H' a xs:=by
 rcases h with (h|⟨o,h⟩)|h
 .exact .inl (.inl (e _ _ h))
 .exact .inl (.inr ⟨o,e _ _ h⟩)
 .exact .inr h
end L2
namespace Mr
def cell(ns:List Int) (k:Nat):Int:=ns.getD k 0
def bG(ns:List Int):Nat->Nat
 |0=>0
 |k+1=>if ns.getD k 0<ns.getD (bG ns k) 0 then k else bG ns k
noncomputable def rot(ns:List Int) (i:Nat):List Int:=ns.drop i++ns.take i
def good(ns:List Int):List Int:=rot ns (bG ns ns.length)
theorem jc(ns:List Int):∀n,(0<n->bG ns n<n)/\(∀j,j<n->ns.getD (bG ns n) 0<=ns.getD j 0)/\(∀j,j<bG ns n->ns.getD (bG ns n) 0<ns.getD j 0)
 |0=>⟨fun h=>absurd h (UG _),fun j h=>absurd h (Uc _),fun j h=>absurd h (Uc _)⟩
 |n+1=>by
  obtain⟨h1,h2,h3⟩:=jc ns n;simp only[bG]
  by_cases c:ns.getD n 0<ns.getD (bG ns n) 0
  .rw [if_pos c];refine⟨fun _=>Vx n,fun j hj=>?_,fun j hj=>?_⟩
   .rcases Vh (WN hj) with q|q
    .have:=h2 j q;lia
    .subst q;exact VT _
   .have:=h2 j hj;lia
  .rw [if_neg c];refine⟨fun _=>?_,fun j hj=>?_,h3⟩
   .by_cases hn:0<n
    .exact UI (h1 hn)
    .have:n=0:=by lia
     subst this;exact Vx 0
   .rcases Vh (WN hj) with q|q
    .exact h2 j q
    .subst q;lia
theorem oK(ns:List Int):bG ns ns.length<=ns.length:=by
 by_cases h:0<ns.length
 .exact T8 ((jc ns ns.length).1 h)
 .have:ns.length=0:=by lia
  rw[this];exact Sg 0
theorem jS{ns:List Int}{j:Nat}(h:j<ns.length):ns.getD j 0=ns[j]:=by
 rw[gDq,gEg h];rfl
theorem mX{ns:List Int}{M:Int}(hm:M∈ns) (hl:∀a,a∈ns->M<=a):ns.idxOf M=bG ns ns.length:=by
 have h0:0<ns.length:=Vt hm;obtain⟨h1,h2,h3⟩:=jc ns ns.length;have h1:=h1 h0;have hi:ns.idxOf M<ns.length:=UP.mpr hm;have e:ns.getD (ns.idxOf M) 0=M:=by rw[jS hi];exact Vi hi
 have eL:ns.getD (bG ns ns.length) 0=M:=by
  have q1:=h2 _ hi;rw[e]at q1;have q2:=hl _ (by rw[jS h1];exact gRq h1:ns.getD (bG ns ns.length) 0∈ns)
  lia
 rcases WO (ns.idxOf M) (bG ns ns.length) with q|q|q
 .have:=h3 _ q;lia
 .exact q
 .exfalso;have:=Wh (p:=(· == M)) (xs:=ns) (i:=bG ns ns.length) (by simpa [List.idxOf] using q)
  rw[jS h1]at eL;simp[eL]at this
theorem uO:good []=[]:=rfl
theorem Aw(ns:List Int) (i:Nat):(rot ns i).length=ns.length:=by
 unfold rot;rw[lAq,SE,lTq];lia
theorem jW(ns:List Int):(good ns).length=ns.length:=Aw _ _
def step(ns:List Int):Int:=if 0<cell ns 0 % 3 then cell ns 0 % 10 ^ 40+1 else 1
def Os(ns:List Int):Int:=if 0<cell ns 1 % 3 then cell ns 1 % 10 ^ 40 else 0
def Kr(ns:List Int) (k:Int):Int:=step ns*(((1+cell ns 1 / 3 % 66)*k+cell ns 0 / 3 % 67) % 67+1)+Os ns
def RK(ns:List Int) (k:Int):Int:=if cell ns 1 % 5=4 then 10 ^ 60-Kr ns k else Kr ns k
theorem oQ{A B:List Int}{m:Int}(h:∀x,x∈A->m<x) (h2:∀x,x∈B->m<=x):good (A++m::B)=m::B++A:=by
 have hm:m∈A++m::B:=by simp
 have hl:∀a,a∈A++m::B->m<=a:=fun a ha=>by
  rcases mAq.mp ha with q|q
  .exact VO (h a q)
  .rcases Si.mp q with rfl|q
   .exact VT _
   .exact h2 a q
 have e:=mX hm hl;have ei:(A++m::B).idxOf m=A.length:=by
  rw[List.idxOf_append,if_neg (fun q=>absurd (h m q) (Int.lt_irrefl m)),List.idxOf_cons_self,T1]
 unfold good rot;rw[←e,ei,W7,W8]
theorem yj{t:List Int}(h0:t≠[]) (hn:t.Nodup):∃A m B,t=A++m::B/\(∀x,x∈A->m<x)/\∀x,x∈B->m<x:=by
 have hl:0<t.length:=UU.mpr h0;obtain⟨h1,h2,h3⟩:=jc t t.length;have h1:=h1 hl;refine⟨t.take (bG t t.length),t[bG t t.length],t.drop (bG t t.length+1),?_,?_,?_⟩
 .rw [←SW h1,Ta]
 .intro x hx;obtain⟨j,hj,rfl⟩:=List.mem_take_iff_getElem.mp hx;have:=h3 j (by lia)
  rw[jS h1,jS (by lia)]at this
  exact this
 .intro x hx;obtain⟨j,hj,rfl⟩:=List.mem_drop_iff_getElem.mp hx;have a:=h2 (bG t t.length+1+j) (by lia)
  rw[jS h1,jS (by lia)]at a
  have ne:t[bG t t.length]≠t[bG t t.length+1+j]:=Ul.mp hn _ _ h1 (by lia) (by lia)
  lia
theorem tV{t:List Int}(hn:t.Nodup) (i:Nat):good (rot t i)=good t:=by
 by_cases h0:t=[]
 .subst h0;simp[rot]
 .obtain ⟨A,m,B,rfl,h1,h2⟩:=yj h0 hn;rw[oQ h1 (fun x q=>VO (h2 x q))]
  by_cases c:i<=A.length
  .have e:rot (A++m::B) i=A.drop i++m::(B++A.take i):=by
    unfold rot;rw[List.drop_append_of_le_length c,List.take_append_of_le_length c];simp
   rw[e,oQ (fun x q=>h1 x (Tu q)) (fun x q=>?_)]
   .simp
   .rcases mAq.mp q with q|q
    .exact VO (h2 x q)
    .exact VO (h1 x (Tq q))
  .have hi:A.length<i:=by lia
   obtain⟨j,rfl⟩:∃j,i=A.length+(j+1):=⟨i-A.length-1,by lia⟩
   have e:rot (A++m::B) (A.length+(j+1))=(B.drop j++A)++m::B.take j:=by
    unfold rot;rw[WV,List.take_append];simp[Ud,Ue]
   rw[e,oQ (fun x q=>?_) (fun x q=>VO (h2 x (Tq q)))]
   .rw [Vy,Vy,←Sk,Ta]
   .rcases mAq.mp q with q|q
    .exact h2 x (Tu q)
    .exact h1 x q
theorem rot_perm(t:List Int) (i:Nat):(rot t i).Perm t:=by
 unfold rot;exact Ts.trans (by rw[Ta])
theorem bA(t:List Int):(good t).Perm t:=rot_perm t _
theorem cO{rs ts:List (List Int)}(h:rs.Perm ts):rs.flatten.Perm ts.flatten:=by
 induction h with
 |nil=>exact .refl _
 |cons x _ ih=>rw[fCq,fCq];exact TN.append (.refl x) ih
 |swap x y l =>
  rw[fCq,fCq,fCq,fCq,←Sk,←Sk];exact TN.append Ts (.refl _)
 |trans _ _ a b=>exact a.trans b
theorem bb{f:List Int->List Int}(hf:∀r,(f r).Perm r):∀rs:List (List Int),(rs.map f).flatten.Perm rs.flatten
 | []=>.refl _
 |r::rs=>by
  rw[Sq,fCq,fCq];exact TN.append (hf r) (bb hf rs)
theorem CV{rs:List (List Int)}{r:List Int}(h:rs.flatten.Nodup) (hr:r∈rs):r.Nodup:=Sy.sublist (SG hr) h
theorem Ld{rs:List (List Int)}{r:List Int}(hr:r∈rs):r.length<=rs.flatten.length:=(SG hr).length_le
theorem Ck:∀t:Fin 66,∀d:Fin 67,0<d.val->(t.val+1)*d.val % 67≠0:=by decide +kernel
end Mr
namespace MrS
open PySem PyProof.Rows
noncomputable def jJ:Bool->Keyed->Array Keyed->Nat->Nat->Nat->StateT SortSt Sem (Option Nat):=sortPriv% PySem.Builtin.gallop
structure nL (prog:Program) (w:World) (A:Around) (s:Shared) (κ:SortKind) (P:Keyed->Prop) (lt:Keyed->Keyed->Bool):Prop where
 ask:∀x y,P x->P y->∀(E:Value->Shared->Prop) (Q:Bool->Shared->Prop),Q (lt x y) s->wpAny (model prog w) A (keyLt' κ x.1 y.1) Q E s
 asym:∀x y,P x->P y->lt x y=true->lt y x=false
 trans:∀x y z,P x->P y->P z->lt y x=false->lt z y=false->lt z x=false
section
variable {prog:Program}{w:World}{A:Around}{E:Value->Shared->Prop}{s:Shared}{κ:SortKind}{P:Keyed->Prop}{lt:Keyed->Keyed->Bool}
theorem nL.refl(C:nL prog w A s κ P lt) {x:Keyed}(hx:P x):lt x x=false:=by
 cases e:lt x x with
 |false=>rfl
 |true=>rw[←C.asym x x hx hx e,e]
theorem nL.cmp(C:nL prog w A s κ P lt) {x y:Keyed}{st:SortSt}{Q:Option Bool->SortSt->Prop}(hx:P x) (hy:P y) (hk:kindOf st=κ) (h:Q (some (lt x y)) st) :
  wpS (model prog w) A E s (lt' x y) Q st:=by
 rw[lt'_eq];refine wpS_bind (wpS_get ?_);rw[hk];refine wpS_bind (wpS_lift (wpAny_attempt (C.ask x y hx hy _ _ ⟨rfl,?_⟩)));exact wpS_pure h
theorem bI{arr:Array Keyed}{i:Nat}{x:Keyed}{st:SortSt}{Q:Keyed->SortSt->Prop}(hx:arr[i]?=some x) (h:Q x st):wpS (model prog w) A E s (elem' arr i) Q st:=by
 rw[elem'_eq,hx];exact wpS_pure h
theorem nL.at(C:nL prog w A s κ P lt) {i j:Nat}{x y:Keyed}{st:SortSt}{Q:Option Bool->SortSt->Prop}(hi:(arrOf st)[i]?=some x) (hj:(arrOf st)[j]?=some y) (hx:P x) (hy:P y) (hk:kindOf st=κ) (h:Q (some (lt x y)) st) :
  wpS (model prog w) A E s (ltAt' i j) Q st:=by
 rw[ltAt'_eq];refine wpS_bind (wpS_get ?_);exact wpS_bind (bI hi (wpS_bind (bI hj (C.cmp hx hy hk h))))
def mj(lt:Keyed->Keyed->Bool) (left:Bool) (key:Keyed) (arr:Array Keyed) (base i:Nat):Bool :=
 if left then lt (arr.getD (base+i) key) key else !lt key (arr.getD (base+i) key)
theorem AW(left:Bool) (key:Keyed) (arr:Array Keyed) (base n hint:Nat):jJ left key arr base n hint=(do
 let beyond (i:Nat):StateT SortSt Sem (Option Bool):=do
  let x ←elem' arr (base+i)
  if left then lt' x key else return (←lt' key x).map (!·)
 let mut lastofs:=0
 let mut ofs:=1
 let mut lo:=0
 let mut hi:=0
 let some right ←beyond hint|return none
 if right then
  let maxofs:=n-hint
  for _ in [0:n] do
   if ofs ≥ maxofs then break
   let some more ←beyond (hint+ofs)|return none
   if !more then break
   lastofs:=ofs
   ofs:=2*ofs+1
  lo:=hint+lastofs+1
  hi:=hint+min ofs maxofs
 else
  let maxofs:=hint+1
  for _ in [0:n] do
   if ofs ≥ maxofs then break
   let some found ←beyond (hint-ofs)|return none
   if found then break
   lastofs:=ofs
   ofs:=2*ofs+1
  lo:=hint+1-min ofs maxofs
  hi:=hint-lastofs
 for _ in [0:n] do
  if lo ≥ hi then break
  let m:=lo+(hi-lo) / 2
  let some more ←beyond m|return none
  if more then lo:=m+1 else hi:=m
 return some hi):=rfl
theorem jD(C:nL prog w A s κ P lt) {left:Bool}{key:Keyed}{arr:Array Keyed}{base i:Nat}{st:SortSt}{Q:Option Bool->SortSt->Prop}(hi:base+i<arr.size) (ha:∀x,x∈arr->P x) (hkey:P key) (hk:kindOf st=κ)
  (h:Q (some (mj lt left key arr base i)) st):wpS (model prog w) A E s (do
   let x ←elem' arr (base+i)
   if left=true then lt' x key else do
    let __x ←lt' key x
    pure (__x.map (!·))) Q st:=by
 have e:arr[base+i]?=some arr[base+i]:=Sh hi;have e2:arr.getD (base+i) key=arr[base+i]:=by simp[Wz,hi]
 refine wpS_bind (bI e ?_);have hp:P arr[base+i]:=ha _ (Td hi);unfold mj at h;rw[e2]at h;cases left with
 |true =>
  rw[if_pos rfl]at h ⊢;exact C.cmp hp hkey hk h
 |false =>
  rw[if_neg (by decide)]at h ⊢
  exact wpS_bind (C.cmp hkey hp hk (wpS_pure h))
theorem rm{left:Bool}{key:Keyed}{arr:Array Keyed}{base n lo hi:Nat}{st:SortSt}{f:Nat->Option (Option Nat)×Nat×Nat->StateT SortSt Sem (ForInStep (Option (Option Nat)×Nat×Nat))}
  (mono:∀i j,i<=j->j<n->mj lt left key arr base j=true->mj lt left key arr base i=true)
  (down:∀i j,i<=j->j<n->mj lt left key arr base i=false->mj lt left key arr base j=false)
  (hf:∀(i l u:Nat) (Q':ForInStep (Option (Option Nat)×Nat×Nat)->SortSt->Prop),u<=n->(u<=l->Q' (.done (none,l,u)) st)->(l<u->mj lt left key arr base (l+(u-l) / 2)=true->Q' (.yield (none,l+(u-l) / 2+1,u)) st) ->
   (l<u->mj lt left key arr base (l+(u-l) / 2)=false->Q' (.yield (none,l,l+(u-l) / 2)) st)->wpS (model prog w) A E s (f i (none,l,u)) Q' st)
  (h1:lo<=hi) (h2:hi<=n) (h3:∀j,j<lo->mj lt left key arr base j=true) (h4:∀j,hi<=j->j<n->mj lt left key arr base j=false) :
  wpS (model prog w) A E s (forIn [:n] ((none,lo,hi):Option (Option Nat)×Nat×Nat) f)
   (fun c st'=>∃k,c=(none,k,k)/\st'=st/\k<=n/\(∀j,j<k->mj lt left key arr base j=true)/\(∀j,k<=j->j<n->mj lt left key arr base j=false)) st:=by
 refine wpS_forRange
  (I:=fun i c st'=>∃l u,c=(none,l,u)/\st'=st/\l<=u/\u<=n/\(∀j,j<l->mj lt left key arr base j=true)/\(∀j,u<=j->j<n->mj lt left key arr base j=false)/\(u-l)+i<=n)
  ?step ?fin ⟨lo,hi,rfl,rfl,h1,h2,h3,h4,by lia⟩
 case step =>
  rintro i c st' _ hi' ⟨l,u,rfl,rfl,a1,a2,a3,a4,a5⟩;refine hf i l u _ a2 (fun c1=>?_) (fun c1 e=>?_) (fun c1 e=>?_)
  .have e:l=u:=by lia
   subst e;exact⟨l,rfl,rfl,a2,a3,a4⟩
  .exact ⟨_,u,rfl,rfl,by lia,a2,fun j hj=>mono j _ (by lia) (by lia) e,a4,by lia⟩
  .exact ⟨l,_,rfl,rfl,by lia,by lia,a3,fun j hj hn=>down _ j hj hn e,by lia⟩
 case fin =>
  rintro c st' ⟨l,u,rfl,rfl,a1,a2,a3,a4,a5⟩;have e:l=u:=by lia
  subst e;exact⟨l,rfl,rfl,a2,a3,a4⟩
theorem hV(C:nL prog w A s κ P lt) {left:Bool}{key:Keyed}{arr:Array Keyed}{base n hint:Nat}{st:SortSt}{Q:Option Nat->SortSt->Prop}(hh:hint<n) (hb:base+n<=arr.size) (ha:∀x,x∈arr->P x) (hkey:P key) (hk:kindOf st=κ)
  (mono:∀i j,i<=j->j<n->mj lt left key arr base j=true->mj lt left key arr base i=true)
  (h:∀k,k<=n->(∀j,j<k->mj lt left key arr base j=true)->(∀j,k<=j->j<n->mj lt left key arr base j=false)->Q (some k) st) :
  wpS (model prog w) A E s (jJ left key arr base n hint) Q st:=by
 have down:∀i j,i<=j->j<n->mj lt left key arr base i=false->mj lt left key arr base j=false:=fun i j hij hj e=>by
  cases q:mj lt left key arr base j with
  |false=>rfl
  |true=>rw[mono i j hij hj q]at e;cases e
 rw[AW];dsimp only;refine wpS_bind (jD C (base:=base) (i:=hint) (by lia) ha hkey hk ?_)
 cases er:mj lt left key arr base hint with
 |true =>
  dsimp only;rw[if_pos rfl];refine wpS_bind (wpS_mono (wpS_forRange
   (I:=fun i c st'=>∃l o,c=(none,l,o)/\st'=st/\l<o/\i+1<=o/\hint+l<n/\mj lt left key arr base (hint+l)=true)
   (Q:=fun c st'=>∃l o,c=(none,l,o)/\st'=st/\l<o/\hint+l<n/\mj lt left key arr base (hint+l)=true/\(n-hint<=o∨(hint+o<n/\mj lt left key arr base (hint+o)=false)))
   ?step ?fin ⟨0,1,rfl,rfl,by lia,by lia,by lia,er⟩) ?post)
  case step =>
   rintro i c st' _ hi' ⟨l,o,rfl,rfl,a1,a2,a3,a4⟩;dsimp only
   by_cases c1:o ≥ n-hint
   .rw [if_pos c1];exact wpS_pure ⟨l,o,rfl,rfl,a1,a3,a4,.inl c1⟩
   .rw [if_neg c1];refine wpS_bind (jD C (base:=base) (i:=hint+o) (by lia) ha hkey hk ?_)
    cases e:mj lt left key arr base (hint+o) with
    |true =>
     dsimp only;rw[if_neg (by decide)]
     exact wpS_pure ⟨o,_,rfl,rfl,by lia,by lia,by lia,e⟩
    |false =>
     dsimp only;rw[if_pos (by decide)]
     exact wpS_pure ⟨l,o,rfl,rfl,a1,a3,a4,.inr ⟨by lia,e⟩⟩
  case fin =>
   rintro c st' ⟨l,o,rfl,rfl,a1,a2,a3,a4⟩;exact⟨l,o,rfl,rfl,a1,a3,a4,.inl (by lia)⟩
  case post =>
   rintro c st' ⟨l,o,rfl,rfl,a1,a3,a4,a5⟩;dsimp only;refine wpS_bind (wpS_mono (rm (lt:=lt) (left:=left) (key:=key) (arr:=arr) (base:=base) mono down (fun i l' u' Q' hu q1 q2 q3=>?_) (by lia) (by lia) (fun j hj=>mono j _ (by lia) a3 a4) ?_) ?_)
   .dsimp only
    by_cases c1:l' ≥ u'
    .rw [if_pos c1];exact wpS_pure (q1 c1)
    .rw [if_neg c1];refine wpS_bind (jD C (base:=base) (i:=l'+(u'-l') / 2) (by lia) ha hkey hk ?_)
     cases e:mj lt left key arr base (l'+(u'-l') / 2) with
     |true =>
      dsimp only;rw[if_pos rfl];exact wpS_pure (q2 (by lia) e)
     |false =>
      dsimp only;rw[if_neg (by decide)]
      exact wpS_pure (q3 (by lia) e)
   .intro j hj hn;rcases a5 with a5|⟨a5,a6⟩
    .lia
    .exact down (hint+o) j (by lia) hn a6
   .rintro c st' ⟨k,rfl,rfl,k1,k2,k3⟩;exact wpS_pure (h k k1 k2 k3)
 |false =>
  dsimp only;rw[if_neg (by decide)]
  refine wpS_bind (wpS_mono (wpS_forRange
   (I:=fun i c st'=>∃l o,c=(none,l,o)/\st'=st/\l<o/\i+1<=o/\l<=hint/\mj lt left key arr base (hint-l)=false)
   (Q:=fun c st'=>∃l o,c=(none,l,o)/\st'=st/\l<o/\l<=hint/\mj lt left key arr base (hint-l)=false/\(hint+1<=o∨(o<=hint/\mj lt left key arr base (hint-o)=true)))
   ?step ?fin ⟨0,1,rfl,rfl,by lia,by lia,by lia,er⟩) ?post)
  case step =>
   rintro i c st' _ hi' ⟨l,o,rfl,rfl,a1,a2,a3,a4⟩;dsimp only
   by_cases c1:o ≥ hint+1
   .rw [if_pos c1];exact wpS_pure ⟨l,o,rfl,rfl,a1,a3,a4,.inl c1⟩
   .rw [if_neg c1];refine wpS_bind (jD C (base:=base) (i:=hint-o) (by lia) ha hkey hk ?_)
    cases e:mj lt left key arr base (hint-o) with
    |true =>
     dsimp only;rw[if_pos rfl];exact wpS_pure ⟨l,o,rfl,rfl,a1,a3,a4,.inr ⟨by lia,e⟩⟩
    |false =>
     dsimp only;rw[if_neg (by decide)]
     exact wpS_pure ⟨o,_,rfl,rfl,by lia,by lia,by lia,e⟩
  case fin =>
   rintro c st' ⟨l,o,rfl,rfl,a1,a2,a3,a4⟩;exact⟨l,o,rfl,rfl,a1,a3,a4,.inl (by lia)⟩
  case post =>
   rintro c st' ⟨l,o,rfl,rfl,a1,a3,a4,a5⟩;dsimp only;refine wpS_bind (wpS_mono (rm (lt:=lt) (left:=left) (key:=key) (arr:=arr) (base:=base) mono down (fun i l' u' Q' hu q1 q2 q3=>?_) (by lia) (by lia) ?_ (fun j hj hn=>down _ j hj hn a4)) ?_)
   .dsimp only
    by_cases c1:l' ≥ u'
    .rw [if_pos c1];exact wpS_pure (q1 c1)
    .rw [if_neg c1];refine wpS_bind (jD C (base:=base) (i:=l'+(u'-l') / 2) (by lia) ha hkey hk ?_)
     cases e:mj lt left key arr base (l'+(u'-l') / 2) with
     |true =>
      dsimp only;rw[if_pos rfl];exact wpS_pure (q2 (by lia) e)
     |false =>
      dsimp only;rw[if_neg (by decide)]
      exact wpS_pure (q3 (by lia) e)
   .intro j hj;rcases a5 with a5|⟨a5,a6⟩
    .lia
    .exact mono j (hint-o) (by lia) (by lia) a6
   .rintro c st' ⟨k,rfl,rfl,k1,k2,k3⟩;exact wpS_pure (h k k1 k2 k3)
end
abbrev kZ(lt:Keyed->Keyed->Bool) (l:List Keyed):Prop:=l.Pairwise fun x y=>lt y x=false
structure MI (lt:Keyed->Keyed->Bool) (a b out:Array Keyed) (ia ib:Nat):Prop where
 la:ia<=a.size
 lb:ib<=b.size
 pm:(out.toList++(a.toList.drop ia++b.toList.drop ib)).Perm (a.toList++b.toList)
 so:kZ lt out.toList
 ua:∀x∈out.toList,∀y∈a.toList.drop ia,lt y x=false
 ub:∀x∈out.toList,∀y∈b.toList.drop ib,lt y x=false
section
variable {lt:Keyed->Keyed->Bool}{a b out out':Array Keyed}{ia ib k:Nat}
theorem MI.congr(m:MI lt a b out ia ib) (e:out'.toList=out.toList):MI lt a b out' ia ib:=⟨m.la,m.lb,by rw[e];exact m.pm,by rw[e];exact m.so,by rw[e];exact m.ua,by rw[e];exact m.ub⟩
theorem yz(l:List Keyed) (i k:Nat):l.drop i=(l.drop i).take k++l.drop (i+k):=by
 rw[←List.drop_drop,Ta]
theorem lO(a:Array Keyed) (i k:Nat):(a.extract i (i+k)).toList=(a.toList.drop i).take k:=by
 rw[VF,Ve,V9]
theorem MI.moreA(m:MI lt a b out ia ib) (sa:kZ lt a.toList) (hk:ia+k<=a.size) (h:∀x∈(a.toList.drop ia).take k,∀y∈b.toList.drop ib,lt y x=false):MI lt a b (out++a.extract ia (ia+k)) (ia+k) ib:=by
 have e:(out++a.extract ia (ia+k)).toList=out.toList++(a.toList.drop ia).take k:=by rw[SX,lO]
 have sd:kZ lt (a.toList.drop ia):=sa.sublist (TZ _ _);have c:=yz a.toList ia k;have sd2:=sd;rw[c]at sd2;obtain⟨q1,q2,q3⟩:=SV.mp sd2;refine⟨hk,m.lb,?_,?_,?_,?_⟩
 .rw [e,Sk];refine(TN.append_left _ ?_).trans m.pm;rw[←Sk,←c]
 .rw [e];exact SV.mpr ⟨m.so,q1,fun x hx y hy=>m.ua x hx y (Tq hy)⟩
 .rw [e];intro x hx y hy;rcases mAq.mp hx with hx|hx
  .exact m.ua x hx y (by rw[c];exact SB _ hy)
  .exact q3 x hx y hy
 .rw [e];intro x hx y hy;rcases mAq.mp hx with hx|hx
  .exact m.ub x hx y hy
  .exact h x hx y hy
theorem MI.moreB(m:MI lt a b out ia ib) (sb:kZ lt b.toList) (hk:ib+k<=b.size) (h:∀x∈(b.toList.drop ib).take k,∀y∈a.toList.drop ia,lt y x=false):MI lt a b (out++b.extract ib (ib+k)) ia (ib+k):=by
 have e:(out++b.extract ib (ib+k)).toList=out.toList++(b.toList.drop ib).take k:=by rw[SX,lO]
 have sd:kZ lt (b.toList.drop ib):=sb.sublist (TZ _ _);have c:=yz b.toList ib k;have sd2:=sd;rw[c]at sd2;obtain⟨q1,q2,q3⟩:=SV.mp sd2;refine⟨m.la,hk,?_,?_,?_,?_⟩
 .rw [e,Sk];refine(TN.append_left _ ?_).trans m.pm;refine((List.perm_append_comm_assoc _ _ _).trans ?_);rw[←c]
 .rw [e];exact SV.mpr ⟨m.so,q1,fun x hx y hy=>m.ub x hx y (Tq hy)⟩
 .rw [e];intro x hx y hy;rcases mAq.mp hx with hx|hx
  .exact m.ua x hx y hy
  .exact h x hx y hy
 .rw [e];intro x hx y hy;rcases mAq.mp hx with hx|hx
  .exact m.ub x hx y (by rw[c];exact SB _ hy)
  .exact q3 x hx y hy
theorem lL{l:List Keyed}{i:Nat}{x:Keyed}(h:l[i]?=some x):(l.drop i).take 1=[x]:=by
 obtain⟨hi,e⟩:=gSq.mp h;rw[SW hi,e];rfl
theorem MI.pushA{x:Keyed}(m:MI lt a b out ia ib) (sa:kZ lt a.toList) (hx:a[ia]?=some x) (h:∀y∈b.toList.drop ib,lt y x=false):MI lt a b (out.push x) (ia+1) ib:=by
 have hi:ia<a.size:=(Tr.mp hx).1;have hx':a.toList[ia]?=some x:=by rw[SJ];exact hx
 refine(m.moreA sa (k:=1) hi fun z hz y hy=>?_).congr ?_
 .rw [lL hx',mSq]at hz;rw[hz];exact h y hy
 .rw [Va,SX,lO,lL hx']
theorem MI.pushB{x:Keyed}(m:MI lt a b out ia ib) (sb:kZ lt b.toList) (hx:b[ib]?=some x) (h:∀y∈a.toList.drop ia,lt y x=false):MI lt a b (out.push x) ia (ib+1):=by
 have hi:ib<b.size:=(Tr.mp hx).1;have hx':b.toList[ib]?=some x:=by rw[SJ];exact hx
 refine(m.moreB sb (k:=1) hi fun z hz y hy=>?_).congr ?_
 .rw [lL hx',mSq]at hz;rw[hz];exact h y hy
 .rw [Va,SX,lO,lL hx']
structure HU (lt:Keyed->Keyed->Bool) (a b r:Array Keyed):Prop where
 pm:r.toList.Perm (a.toList++b.toList)
 so:kZ lt r.toList
theorem kx(a:Array Keyed) (i:Nat):(a.extract i a.size).toList=a.toList.drop i:=by
 rw[VF,Ve];exact Ue (by rw[SE,Sv];exact Sg _)
theorem MI.endB(m:MI lt a b out ia ib) (sa:kZ lt a.toList) (e:ib=b.size):HU lt a b (out++a.extract ia a.size++b.extract ib b.size):=by
 have eb:b.toList.drop ib=[]:=by rw[e,←Sv,UA]
 have et:(out++a.extract ia a.size++b.extract ib b.size).toList=out.toList++a.toList.drop ia:=by
  rw[SX,SX,kx,kx,eb,aNq]
 have pm:=m.pm;rw[eb,aNq]at pm;exact⟨by rw[et];exact pm,by rw[et];exact SV.mpr ⟨m.so,sa.sublist (TZ _ _),m.ua⟩⟩
theorem MI.endA(m:MI lt a b out ia ib) (sb:kZ lt b.toList) (e:ia=a.size):HU lt a b (out++a.extract ia a.size++b.extract ib b.size):=by
 have ea:a.toList.drop ia=[]:=by rw[e,←Sv,UA]
 have et:(out++a.extract ia a.size++b.extract ib b.size).toList=out.toList++b.toList.drop ib:=by
  rw[SX,SX,kx,kx,ea,aNq]
 have pm:=m.pm;rw[ea,T5]at pm;exact⟨by rw[et];exact pm,by rw[et];exact SV.mpr ⟨m.so,sb.sublist (TZ _ _),m.ub⟩⟩
theorem MI.lastA(m:MI lt a b out ia ib) (sa:kZ lt a.toList) (sb:kZ lt b.toList) (h:∀x∈b.toList.drop ib,∀y∈a.toList.drop ia,lt y x=false):HU lt a b (out++b.extract ib b.size++a.extract ia a.size):=by
 have et:(out++b.extract ib b.size++a.extract ia a.size).toList=out.toList++(b.toList.drop ib++a.toList.drop ia):=by
  rw[SX,SX,kx,kx,Sk]
 refine⟨?_,?_⟩
 .rw [et];exact(TN.append_left _ Ts).trans m.pm
 .rw [et];refine SV.mpr ⟨m.so,SV.mpr ⟨sb.sublist (TZ _ _),sa.sublist (TZ _ _),h⟩,fun x hx y hy=>?_⟩
  rcases mAq.mp hy with hy|hy
  .exact m.ub x hx y hy
  .exact m.ua x hx y hy
end
noncomputable def uD:Array Keyed->Array Keyed->StateT SortSt Sem (Array Keyed):=sortPriv% PySem.Builtin.mergeLo
noncomputable def ez:Nat->StateT SortSt Sem Unit:=sortPriv% PySem.Builtin.setMinGallop
abbrev sg(st:SortSt) (g:Nat):SortSt:=SortSt.mk' (kindOf st) (arrOf st) (pendingOf st) g (failedOf st)
theorem qN(g:Nat):ez g=modify fun st=>sg st g:=rfl
section
variable (a b:Array Keyed)
noncomputable abbrev dn(o:Array Keyed) (i j:Nat):=o++a.extract i a.size++b.extract j b.size
noncomputable abbrev lA(o:Array Keyed) (i j:Nat):=o++b.extract j b.size++a.extract i a.size
noncomputable abbrev SF(α:Type):=ForInStep (Option (Array Keyed)×Array Keyed×Nat×Nat×α)
def Qp(o:Array Keyed) (i j m k l:Nat):StateT SortSt Sem (SF (Nat×Nat×Nat)):=do
 let x ←elem' a i
 if i+1+1 == a.size then pure (.done (some (lA a b (o.push x) (i+1) j),o.push x,i+1,j,m,k,l))
 else if decide (k<7) && decide (l<7) then pure (.done (none,o.push x,i+1,j,m,k,l))
 else pure (.yield (none,o.push x,i+1,j,m,k,l))
def Qo(o:Array Keyed) (i j m k q:Nat):StateT SortSt Sem (SF (Nat×Nat×Nat)):=do
 let x ←elem' b j
 if j+1 == b.size then pure (.done (some (dn a b (o.push x) i (j+1)),o.push x,i,j+1,m,k,q))
 else do
  let y ←elem' a i
  match ←jJ true y b (j+1) (b.size-(j+1)) 0 with
  |some l =>
   if l>0 then
    if j+1+l == b.size then pure (.done (some (dn a b (o.push x++b.extract (j+1) (j+1+l)) i (j+1+l)),o.push x++b.extract (j+1) (j+1+l),i,j+1+l,m,k,l))
    else Qp a b (o.push x++b.extract (j+1) (j+1+l)) i (j+1+l) m k l
   else Qp a b (o.push x) i (j+1) m k l
  |_=>pure (.done (some (dn a b (o.push x) i (j+1)),o.push x,i,j+1,m,k,q))
def QX(o:Array Keyed) (i j m p q:Nat):StateT SortSt Sem (SF (Nat×Nat×Nat)):=do
 ez m
 let x ←elem' b j
 match ←jJ false x a i (a.size-i) 0 with
 |some k =>
  if k>0 then
   if i+k+1 == a.size then pure (.done (some (lA a b (o++a.extract i (i+k)) (i+k) j),o++a.extract i (i+k),i+k,j,m,k,q))
   else if i+k == a.size then pure (.done (some (dn a b (o++a.extract i (i+k)) (i+k) j),o++a.extract i (i+k),i+k,j,m,k,q))
   else Qo a b (o++a.extract i (i+k)) (i+k) j m k q
  else Qo a b o i j m k q
 |_=>pure (.done (some (dn a b o i j),o,i,j,m,p,q))
def Rw(m:Nat) (o:Array Keyed) (i j p q:Nat):StateT SortSt Sem (SF (Nat×Nat)):=do
 let y ←elem' b j
 let x ←elem' a i
 match ←lt' y x with
 |some c =>
  if c then do
   let z ←elem' b j
   if j+1 == b.size then pure (.done (some (dn a b (o.push z) i (j+1)),o.push z,i,j+1,0,q+1))
   else if q+1 ≥ m then pure (.done (none,o.push z,i,j+1,0,q+1))
   else pure (.yield (none,o.push z,i,j+1,0,q+1))
  else do
   let z ←elem' a i
   if i+1+1 == a.size then pure (.done (some (lA a b (o.push z) (i+1) j),o.push z,i+1,j,p+1,0))
   else if p+1 ≥ m then pure (.done (none,o.push z,i+1,j,p+1,0))
   else pure (.yield (none,o.push z,i+1,j,p+1,0))
 |_=>pure (.done (some (dn a b o i j),o,i,j,p,q))
def Rz(o:Array Keyed) (i j m:Nat):StateT SortSt Sem (SF Nat):=do
 let r ←forIn [0:a.size+b.size] (none,o,i,j,0,0) fun _ s=>Rw a b m s.2.1 s.2.2.1 s.2.2.2.1 s.2.2.2.2.1 s.2.2.2.2.2
 Break.runK.match_1 (fun _=>StateT SortSt Sem (SF Nat)) r.1 (fun v=>pure (.done (some v,r.2.1,r.2.2.1,r.2.2.2.1,m))) fun _=>do
  rule "list.sort.gallop"
  let r ←forIn [0:a.size+b.size] (none,r.2.1,r.2.2.1,r.2.2.2.1,m+1,r.2.2.2.2.1,r.2.2.2.2.2) fun _ s=>if s.2.2.2.2.1>1 then QX a b s.2.1 s.2.2.1 s.2.2.2.1 (s.2.2.2.2.1-1) s.2.2.2.2.2.1 s.2.2.2.2.2.2 else QX a b s.2.1 s.2.2.1 s.2.2.2.1 s.2.2.2.2.1 s.2.2.2.2.2.1 s.2.2.2.2.2.2
  Break.runK.match_1 (fun _=>StateT SortSt Sem (SF Nat)) r.1 (fun v=>pure (.done (some v,r.2.1,r.2.2.1,r.2.2.2.1,r.2.2.2.2.1))) fun _=>do
   ez (r.2.2.2.2.1+1)
   pure (.yield (none,r.2.1,r.2.2.1,r.2.2.2.1,r.2.2.2.2.1+1))
theorem yB:uD a b=(do
 rule "list.sort.merge-lo"
 let x ←elem' b 0
 if 1 == b.size then pure (dn a b #[x] 0 1)
 else if 0+1 == a.size then pure (lA a b #[x] 0 1)
 else do
  let st ←get
  let r ←forIn [0:a.size+b.size] (none,#[x],0,1,gallopOf st) fun _ s=>Rz a b s.2.1 s.2.2.1 s.2.2.2.1 s.2.2.2.2
  Break.runK.match_1 (fun _=>StateT SortSt Sem (Array Keyed)) r.1 (fun v=>pure v) fun _=>unsupported "internal:list.sort.merge-bound"):=rfl
end
section
variable {prog:Program}{w:World}{A:Around}{E:Value->Shared->Prop}{s:Shared}{κ:SortKind}{P:Keyed->Prop}{lt:Keyed->Keyed->Bool}
theorem mn{g:Nat}{st:SortSt}{Q:Unit->SortSt->Prop}(h:Q () (sg st g)):wpS (model prog w) A E s (ez g) Q st:=by
 rw[qN];exact wpS_modify h
theorem kR{x:String}{st:SortSt}{Q:Unit->SortSt->Prop}(h:Q () st):wpS (model prog w) A E s (liftM (rule x):StateT SortSt Sem Unit) Q st:=wpS_lift (wpAny_rule ⟨rfl,h⟩)
theorem sA(C:nL prog w A s κ P lt) {a:Array Keyed}{i:Nat}{x:Keyed}(ha:∀x,x∈a->P x) (sa:kZ lt a.toList) (hx:a[i]?=some x):∀y∈a.toList.drop i,lt y x=false:=by
 obtain⟨hi,e⟩:=Tr.mp hx;have hi':i<a.toList.length:=by simpa using hi
 have e':a.toList[i]=x:=by simpa using e
 have sd:kZ lt (a.toList.drop i):=sa.sublist (TZ _ _);rw[SW hi',e']at sd ⊢;intro y hy;rcases Si.mp hy with rfl|hy
 .exact C.refl (ha _ (by rw[←e];exact Td hi))
 .exact (Uq.mp sd).1 y hy
theorem jn{a:Array Keyed}{i:Nat}{y:Keyed}(h:y∈a.toList.drop i):y∈a:=by simpa using Tu h
theorem qm(C:nL prog w A s κ P lt) {left:Bool}{key:Keyed}{arr:Array Keyed}{base n:Nat}(hb:base+n<=arr.size) (ha:∀x,x∈arr->P x) (hkey:P key) (so:kZ lt (arr.toList.drop base)) :
  ∀i j,i<=j->j<n->mj lt left key arr base j=true->mj lt left key arr base i=true:=by
 intro i j hij hj h;have hi':base+i<arr.size:=by lia
 have hj':base+j<arr.size:=by lia
 have ei:arr.getD (base+i) key=arr[base+i]:=by simp[Wz,hi']
 have ej:arr.getD (base+j) key=arr[base+j]:=by simp[Wz,hj']
 have pi:=ha _ (Td hi');have pj:=ha _ (Td hj');have le:lt arr[base+j] arr[base+i]=false:=by
  rcases Vh hij with q|q
  .have:=Ul.mp so i j (by simp;lia) (by simp;lia) q
   simpa using this
  .subst q;exact C.refl pi
 unfold mj at h ⊢;rw[ei];rw[ej]at h;cases left with
 |true =>
  rw[if_pos rfl]at h ⊢;cases q:lt arr[base+i] key with
  |true=>rfl
  |false =>
   have:=C.trans key arr[base+i] arr[base+j] hkey pi pj q le;rw[h]at this;cases this
 |false =>
  rw[if_neg (by decide)]at h ⊢
  have h':lt key arr[base+j]=false:=by simpa using h
  have:=C.trans arr[base+i] arr[base+j] key pi pj hkey le h';simp[this]
theorem fU{left:Bool}{key x:Keyed}{arr:Array Keyed}{base i:Nat}(hx:arr[base+i]?=some x):mj lt left key arr base i=if left then lt x key else !lt key x:=by
 obtain⟨hi,e⟩:=Tr.mp hx;unfold mj;have ei:arr.getD (base+i) key=x:=by simp[Wz,hi,e]
 rw[ei]
theorem ke{a:Array Keyed}{i k:Nat}{x:Keyed}(h:x∈(a.toList.drop i).take k):∃j,j<k/\a[i+j]?=some x:=by
 obtain⟨j,hj,e⟩:=Uu.mp h;rw[lTq]at hj;refine⟨j,by lia,?_⟩
 rw[VX,Vq]at e;rw[Tr];have hs:i+j<a.size:=by
  rw[SE,Sv]at hj;lia
 exact⟨hs,by simpa using e⟩
theorem mW{a:Array Keyed}{i:Nat}{x:Keyed}(h:x∈a.toList.drop i):∃j,i+j<a.size/\a[i+j]?=some x:=by
 obtain⟨j,hj,e⟩:=Uu.mp h;rw[SE,Sv]at hj;have hs:i+j<a.size:=by lia
 refine⟨j,hs,?_⟩;rw[Vq]at e;rw[Tr];exact⟨hs,by simpa using e⟩
inductive Lp {ρ τ ι σ:Type}(t:ι->τ) (v:ι->σ) (J K:ι->Prop) (R:ρ->σ->Prop):ForInStep (Option ρ×τ)->σ->Prop
 |y (x):J x->Lp t v J K R (.yield (none,t x)) (v x)
 |d (x):K x->Lp t v J K R (.done (none,t x)) (v x)
 |r (a y st):R a st->Lp t v J K R (.done (some a,y)) st
theorem kF{M:Model}{ρ τ ι σ β:Type}{n:Nat}(t:ι->τ) (v:ι->σ) (J:Nat->ι->Prop) (K:ι->Prop) (R:ρ->σ->Prop) {f:Nat->Option ρ×τ->StateT σ Sem (ForInStep (Option ρ×τ))}{k:Option ρ×τ->StateT σ Sem β}{Q:β->σ->Prop}
  (x:ι) (h:J 0 x) (step:∀i x,J i x->wpS M A E s (f i (none,t x)) (Lp t v (J (i+1)) K R) (v x)) (fin:∀x,J n x->K x) (pn:∀x,K x->wpS M A E s (k (none,t x)) Q (v x)) (ps:∀r y st,R r st->wpS M A E s (k (some r,y)) Q st) :
  wpS M A E s (forIn [0:n] (none,t x) f >>= k) Q (v x):=by
 refine wpS_bind (wpS_mono (wpS_forRange (I:=fun i c st=>∃x,c=(none,t x)/\st=v x/\J i x) (Q:=fun c st=>Lp t v K K R (.done c) st) ?_ ?_ ⟨x,rfl,rfl,h⟩) ?_)
 .rintro i c st _ _ ⟨x,rfl,rfl,h⟩;refine wpS_mono (step i x h) fun r st' hr=>?_
  cases hr with
  |y x h=>exact⟨x,rfl,rfl,h⟩
  |d x h=>exact .d x h
  |r a y st h=>exact .r a y _ h
 .rintro c st ⟨x,rfl,rfl,h⟩;rw[WW (Tf n)]at h;exact .d x (fin x h)
 .rintro c st h;cases h with
  |d x h=>exact pn x h
  |r a y st h=>exact ps a y _ h
structure Ls where
 o:Array Keyed
 (i j m p q g:Nat)
structure ML (lt:Keyed->Keyed->Bool) (a b:Array Keyed) (n:Nat) (x:Ls):Prop where
 m:MI lt a b x.o x.i x.j
 p:x.i+1<a.size
 q:x.j<b.size
 r:n<=x.i+x.j
structure Lo (prog:Program) (w:World) (A:Around) (s:Shared) (κ:SortKind) (P:Keyed->Prop) (lt:Keyed->Keyed->Bool) (a b:Array Keyed) (st:SortSt) (Q:Array Keyed->SortSt->Prop):Prop where
 C:nL prog w A s κ P lt
 ha:∀x,x∈a->P x
 hb:∀x,x∈b->P x
 hk:kindOf st=κ
 sa:kZ lt a.toList
 sb:kZ lt b.toList
 h:∀r g,HU lt a b r->Q r (sg st g)
noncomputable abbrev L6(x:Ls):=(x.o,x.i,x.j,x.m,x.p,x.q)
noncomputable abbrev L5(x:Ls):=(x.o,x.i,x.j,x.p,x.q)
noncomputable abbrev L4(x:Ls):=(x.o,x.i,x.j,x.m)
variable {a b:Array Keyed}{st:SortSt}{Q:Array Keyed->SortSt->Prop}{n:Nat}{x:Ls}
noncomputable abbrev Hl(lt:Keyed->Keyed->Bool) (a b:Array Keyed):=∀i,i+1=a.size->∀x∈b.toList,∀y∈a.toList.drop i,lt y x=false
theorem Gb(H:Lo prog w A s κ P lt a b st Q) (hl:Hl lt a b) (q:ML lt a b n x) (hi:∀z,a[x.i]?=some z->∀y∈b.toList.drop x.j,lt y z=false) :
  wpS (model prog w) A E s (Qp a b x.o x.i x.j x.m x.p x.q) (Lp L6 (fun x=>sg st x.g) (ML lt a b n) (ML lt a b n) Q) (sg st x.g):=by
 have p1:=q.p;have ea:a[x.i]?=some a[x.i]:=Sh (by lia)
 refine wpS_bind (bI ea ?_);have m6:=q.m.pushA H.sa ea (hi _ ea)
 by_cases d6:x.i+1+1=a.size
 .rw [if_pos (by simp[d6])]
  exact wpS_pure (.r _ _ _ (H.h _ _ (m6.lastA H.sa H.sb fun y hy=>hl _ d6 y (Tu hy))))
 rw[if_neg (by simpa using d6)]
 have R:ML lt a b n ⟨_,_,_,x.m,x.p,x.q,x.g⟩:=⟨m6,by dsimp only;lia,q.q,by have:=q.r;dsimp only;lia⟩
 split
 .exact wpS_pure (.d _ R)
 .exact wpS_pure (.y _ R)
theorem FK(H:Lo prog w A s κ P lt a b st Q) (hl:Hl lt a b) (q:ML lt a b n x) (hi:∀z,b[x.j]?=some z->∀y∈a.toList.drop x.i,lt y z=false) :
  wpS (model prog w) A E s (Qo a b x.o x.i x.j x.m x.p x.q) (Lp L6 (fun x=>sg st x.g) (ML lt a b n) (ML lt a b n) Q) (sg st x.g):=by
 have p1:=q.p;have p2:=q.q;have p3:=q.r;have eb:b[x.j]?=some b[x.j]:=Sh p2;refine wpS_bind (bI eb ?_);have m4:=q.m.pushB H.sb eb (hi _ eb)
 by_cases d3:x.j+1=b.size
 .rw [if_pos (by simp[d3])]
  exact wpS_pure (.r _ _ _ (H.h _ _ (m4.endB H.sa d3)))
 rw[if_neg (by simpa using d3)]
 have ea:a[x.i]?=some a[x.i]:=Sh (by lia)
 have pa:=H.ha _ (Td (show x.i<a.size by lia))
 refine wpS_bind (bI ea (wpS_bind (hV H.C (base:=x.j+1) (n:=b.size-(x.j+1)) (by lia) (by lia) H.hb pa H.hk (qm H.C (by lia) H.hb pa (H.sb.sublist (TZ _ _))) fun l l1 l2 l3=>?_)))
 have hB:∀z,a[x.i]?=some z->∀y∈b.toList.drop (x.j+1+l),lt y z=false:=fun z hz y hy=>by
  obtain⟨j',hj',ey⟩:=mW hy;have q:=l3 (l+j') (by lia) (by lia)
  rw[fU (by rw[←Vz];exact ey),if_pos rfl]at q
  rw[ea]at hz;cases hz;exact q
 dsimp only
 by_cases cl:l>0
 .rw [if_pos cl];have m5:=m4.moreB H.sb (k:=l) (by lia) fun x hx y hy=>by
   obtain⟨j',hj',ex⟩:=ke hx;have q:=l2 j' hj';rw[fU ex,if_pos rfl]at q;have px:=H.hb x (Tq hx |> jn);exact H.C.trans _ _ _ px pa (H.ha _ (jn hy)) (H.C.asym _ _ px pa q) (sA H.C H.ha H.sa ea y hy)
  by_cases d5:x.j+1+l=b.size
  .rw [if_pos (by simp[d5])]
   exact wpS_pure (.r _ _ _ (H.h _ _ (m5.endB H.sa d5)))
  rw[if_neg (by simpa using d5)]
  exact Gb H hl (x:=⟨_,_,_,_,_,_,x.g⟩) ⟨m5,p1,by dsimp only;lia,by dsimp only;lia⟩ hB
 .rw [if_neg cl];exact Gb H hl (x:=⟨_,_,_,_,_,_,x.g⟩) ⟨m4,p1,by dsimp only;lia,by dsimp only;lia⟩ (by rw[show x.j+1=x.j+1+l by lia];exact hB)
theorem FU(H:Lo prog w A s κ P lt a b st Q) (hl:Hl lt a b) (q:ML lt a b n x) :
  wpS (model prog w) A E s (QX a b x.o x.i x.j x.m x.p x.q) (Lp L6 (fun x=>sg st x.g) (ML lt a b n) (ML lt a b n) Q) (sg st x.g):=by
 have p1:=q.p;have p2:=q.q;have p3:=q.r;have eb:b[x.j]?=some b[x.j]:=Sh p2;have pb:=H.hb _ (Td p2);refine wpS_bind (mn (wpS_bind (bI eb (wpS_bind (hV H.C (base:=x.i) (n:=a.size-x.i) (by lia) (by lia) H.ha pb H.hk (qm H.C (by lia) H.ha pb (H.sa.sublist (TZ _ _))) fun k k1 k2 k3=>?_)))))
 have hA:∀z,b[x.j]?=some z->∀y∈a.toList.drop (x.i+k),lt y z=false:=fun z hz y hy=>by
  obtain⟨j',hj',ey⟩:=mW hy;have q:=k3 (k+j') (by lia) (by lia)
  rw[fU (by rw[←Vz];exact ey),if_neg (by decide)]at q
  rw[eb]at hz;cases hz;exact H.C.asym _ _ pb (H.ha _ (jn hy)) (by simpa using q)
 dsimp only
 by_cases ck:k>0
 .rw [if_pos ck];have m3:=q.m.moreA H.sa (k:=k) (by lia) fun x hx y hy=>by
   obtain⟨j',hj',ex⟩:=ke hx;have q:=k2 j' hj';rw[fU ex,if_neg (by decide)]at q
   exact H.C.trans _ _ _ (H.ha x (Tq hx |> jn)) pb (H.hb _ (jn hy)) (by simpa using q) (sA H.C H.hb H.sb eb y hy)
  by_cases d1:x.i+k+1=a.size
  .rw [if_pos (by simp[d1])]
   exact wpS_pure (.r _ _ _ (H.h _ x.m (m3.lastA H.sa H.sb fun x hx=>hl _ d1 x (Tu hx))))
  rw[if_neg (by simpa using d1)]
  by_cases d2:x.i+k=a.size
  .rw [if_pos (by simp[d2])]
   exact wpS_pure (.r _ _ _ (H.h _ x.m (m3.endA H.sb d2)))
  rw[if_neg (by simpa using d2)]
  exact FK H hl (x:=⟨_,_,_,_,_,_,x.m⟩) ⟨m3,by dsimp only;lia,p2,by dsimp only;lia⟩ hA
 .rw [if_neg ck];exact FK H hl (x:=⟨_,_,_,_,_,_,x.m⟩) ⟨q.m,p1,p2,p3⟩ (by rw[show x.i=x.i+k by lia];exact hA)
theorem Mu(H:Lo prog w A s κ P lt a b st Q) (hl:Hl lt a b) {m j:Nat}(q:ML lt a b (n+j) x) :
  wpS (model prog w) A E s (Rw a b m x.o x.i x.j x.p x.q) (Lp L5 (fun x=>sg st x.g) (ML lt a b (n+(j+1))) (ML lt a b (n+1)) Q) (sg st x.g):=by
 have p1:=q.p;have p2:=q.q;have p3:=q.r;have ea:a[x.i]?=some a[x.i]:=Sh (by lia)
 have eb:b[x.j]?=some b[x.j]:=Sh p2;have pa:=H.ha _ (Td (show x.i<a.size by lia))
 have pb:=H.hb _ (Td p2);refine wpS_bind (bI eb (wpS_bind (bI ea (wpS_bind (H.C.cmp pb pa H.hk ?_)))));cases e:lt b[x.j] a[x.i] with
 |true =>
  dsimp only;rw[if_pos rfl];refine wpS_bind (bI eb ?_);have m2:=q.m.pushB H.sb eb fun z hz=>H.C.trans _ _ _ pb pa (H.ha _ (jn hz)) (H.C.asym _ _ pb pa e) (sA H.C H.ha H.sa ea z hz)
  by_cases d1:x.j+1=b.size
  .rw [if_pos (by simp[d1])]
   exact wpS_pure (.r _ _ _ (H.h _ _ (m2.endB H.sa d1)))
  rw[if_neg (by simpa using d1)]
  have R:∀n,n<=x.i+(x.j+1)->ML lt a b n ⟨_,_,_,0,0,x.q+1,x.g⟩:=fun n hn=>⟨m2,p1,by dsimp only;lia,hn⟩
  split
  .exact wpS_pure (.d _ (R _ (by lia)))
  .exact wpS_pure (.y _ (R _ (by lia)))
 |false =>
  dsimp only;rw[if_neg (by decide)]
  refine wpS_bind (bI ea ?_);have m2:=q.m.pushA H.sa ea fun z hz=>H.C.trans _ _ _ pa pb (H.hb _ (jn hz)) e (sA H.C H.hb H.sb eb z hz)
  by_cases d1:x.i+1+1=a.size
  .rw [if_pos (by simp[d1])]
   exact wpS_pure (.r _ _ _ (H.h _ _ (m2.lastA H.sa H.sb fun x hx=>hl _ d1 x (Tu hx))))
  rw[if_neg (by simpa using d1)]
  have R:∀n,n<=x.i+1+x.j->ML lt a b n ⟨_,_,_,0,x.p+1,0,x.g⟩:=fun n hn=>⟨m2,by dsimp only;lia,p2,hn⟩
  split
  .exact wpS_pure (.d _ (R _ (by lia)))
  .exact wpS_pure (.y _ (R _ (by lia)))
theorem Le(H:Lo prog w A s κ P lt a b st Q) (hl:Hl lt a b) (q:ML lt a b n x) :
  wpS (model prog w) A E s (Rz a b x.o x.i x.j x.m) (Lp L4 (fun x=>sg st x.g) (ML lt a b (n+1)) (fun _=>False) Q) (sg st x.g):=by
 refine kF L5 (fun x=>sg st x.g) (fun j=>ML lt a b (n+j)) (ML lt a b (n+1)) Q ⟨x.o,x.i,x.j,0,0,0,x.g⟩ ⟨q.m,q.p,q.q,q.r⟩ (fun j x q=>Mu H hl q) (fun y h=>⟨h.m,h.p,h.q,by have:=h.r;have:=h.p;have:=h.q;lia⟩) (fun y q=>?_) fun r y st' hr=>wpS_pure (.r _ _ _ hr)
 refine wpS_bind (kR ?_);refine kF L6 (fun x=>sg st x.g) (fun _=>ML lt a b (n+1)) (ML lt a b (n+1)) Q ⟨y.o,y.i,y.j,x.m+1,y.p,y.q,y.g⟩ ⟨q.m,q.p,q.q,q.r⟩ (fun j z q=>?_) (fun _ h=>h) (fun z q=>?_) fun r y st' hr=>wpS_pure (.r _ _ _ hr)
 .dsimp only;split
  .exact FU H hl (x:=⟨_,_,_,z.m-1,_,_,z.g⟩) ⟨q.m,q.p,q.q,q.r⟩
  .exact FU H hl q
 .refine wpS_bind (mn (wpS_pure ?_));exact Lp.y (t:=L4) (v:=fun x=>sg st x.g) ⟨_,_,_,z.m+1,0,0,z.m+1⟩ ⟨q.m,q.p,q.q,q.r⟩
theorem yV(C:nL prog w A s κ P lt) (ha:∀x,x∈a->P x) (hb:∀x,x∈b->P x) (hk:kindOf st=κ) (sa:kZ lt a.toList) (sb:kZ lt b.toList)
  (na:0<a.size) (nb:0<b.size) (h0:∀x,b[0]?=some x->∀y∈a.toList,lt y x=false) (hl:∀i,i+1=a.size->∀x∈b.toList,∀y∈a.toList.drop i,lt y x=false)
  (h:∀r g,HU lt a b r->Q r (sg st g)):wpS (model prog w) A E s (uD a b) Q st:=by
 rw[yB];refine wpS_bind (kR ?_);have eb0:b[0]?=some b[0]:=Sh nb;refine wpS_bind (bI eb0 ?_);have m0:MI lt a b #[] 0 0:=⟨Tf _,Tf _,by simp,by simp[kZ],by simp,by simp⟩
 have m1:MI lt a b #[b[0]] 0 1:=m0.pushB sb eb0 fun y hy=>h0 _ eb0 y (by simpa using hy)
 by_cases c1:1=b.size
 .rw [if_pos (by simp[←c1])]
  exact wpS_pure (h _ (gallopOf st) (m1.endB sa c1))
 rw[if_neg (by simpa using c1)]
 by_cases c2:0+1=a.size
 .rw [if_pos (by simp[←c2])]
  exact wpS_pure (h _ (gallopOf st) (m1.lastA sa sb fun x hx=>hl 0 c2 x (Tu hx)))
 rw[if_neg (by simpa using c2)]
 refine wpS_bind (wpS_get ?_);exact kF L4 (fun x=>sg st x.g) (fun i=>ML lt a b (i+1)) (fun _=>False) Q ⟨_,0,1,_,0,0,gallopOf st⟩ ⟨m1,by dsimp only;lia,by dsimp only;lia,by dsimp only;lia⟩ (fun i x q=>Le ⟨C,ha,hb,hk,sa,sb,h⟩ hl q) (fun x h=>by have:=h.p;have:=h.q;have:=h.r;lia) (fun x h=>h.elim) fun r y st' hr=>wpS_pure hr
end
structure MH (lt:Keyed->Keyed->Bool) (a b out:Array Keyed) (na nb:Nat):Prop where
 la:na<=a.size
 lb:nb<=b.size
 pm:((a.toList.take na++b.toList.take nb)++out.toList.reverse).Perm (a.toList++b.toList)
 so:kZ lt out.toList.reverse
 ua:∀x∈a.toList.take na,∀y∈out.toList,lt y x=false
 ub:∀x∈b.toList.take nb,∀y∈out.toList,lt y x=false
section
variable {lt:Keyed->Keyed->Bool}{a b out out':Array Keyed}{na nb k:Nat}
theorem MH.congr(m:MH lt a b out na nb) (e:out'.toList=out.toList):MH lt a b out' na nb:=⟨m.la,m.lb,by rw[e];exact m.pm,by rw[e];exact m.so,by rw[e];exact m.ua,by rw[e];exact m.ub⟩
theorem pZ(l:List Keyed) (k n:Nat) (h:k<=n):l.take n=l.take k++(l.take n).drop k:=by
 have e:(l.take n).take k=l.take k:=by rw[List.take_take,U5 h]
 rw[←e,Ta]
theorem dw(a:Array Keyed) (k n:Nat):(a.extract k n).toList=(a.toList.take n).drop k:=by
 rw[VF,Ve,List.drop_take]
theorem qh(a:Array Keyed) (n:Nat):(a.extract 0 n).toList=a.toList.take n:=by
 rw[dw,Vn]
theorem MH.moreA(m:MH lt a b out na nb) (sa:kZ lt a.toList) (hk:k<=na) (h:∀x∈b.toList.take nb,∀y∈(a.toList.take na).drop k,lt y x=false):MH lt a b (out++(a.extract k na).reverse) k nb:=by
 have e:(out++(a.extract k na).reverse).toList=out.toList++((a.toList.take na).drop k).reverse:=by rw[SX,Uv,dw]
 have er:(out++(a.extract k na).reverse).toList.reverse=(a.toList.take na).drop k++out.toList.reverse:=by rw[e,Vf,Wt]
 have c:=pZ a.toList k na hk;have sd:kZ lt (a.toList.take na):=sa.sublist (Tj _ _);have sd2:=sd;rw[c]at sd2;obtain⟨q1,q2,q3⟩:=SV.mp sd2;have sub:∀y,y∈(a.toList.take na).drop k->y∈a.toList.take na:=fun y hy=>Tu hy
 refine⟨TV hk m.la,m.lb,?_,?_,?_,?_⟩
 .rw [er];refine TN.trans ?_ m.pm;rw[←Sk];refine TN.append_right _ ?_
  conv=>rhs;rw[c]
  rw[Sk,Sk];exact TN.append_left _ Ts
 .rw [er];exact SV.mpr ⟨q2,m.so,fun x hx y hy=>m.ua x (sub x hx) y (TK.mp hy)⟩
 .rw [e];intro x hx y hy;rcases mAq.mp hy with hy|hy
  .exact m.ua x (by rw[c];exact T7 _ hx) y hy
  .exact q3 x hx y (TK.mp hy)
 .rw [e];intro x hx y hy;rcases mAq.mp hy with hy|hy
  .exact m.ub x hx y hy
  .exact h x hx y (TK.mp hy)
theorem MH.moreB(m:MH lt a b out na nb) (sb:kZ lt b.toList) (hk:k<=nb) (h:∀x∈a.toList.take na,∀y∈(b.toList.take nb).drop k,lt y x=false):MH lt a b (out++(b.extract k nb).reverse) na k:=by
 have e:(out++(b.extract k nb).reverse).toList=out.toList++((b.toList.take nb).drop k).reverse:=by rw[SX,Uv,dw]
 have er:(out++(b.extract k nb).reverse).toList.reverse=(b.toList.take nb).drop k++out.toList.reverse:=by rw[e,Vf,Wt]
 have c:=pZ b.toList k nb hk;have sd:kZ lt (b.toList.take nb):=sb.sublist (Tj _ _);have sd2:=sd;rw[c]at sd2;obtain⟨q1,q2,q3⟩:=SV.mp sd2;have sub:∀y,y∈(b.toList.take nb).drop k->y∈b.toList.take nb:=fun y hy=>Tu hy
 refine⟨m.la,TV hk m.lb,?_,?_,?_,?_⟩
 .rw [er];refine TN.trans ?_ m.pm;rw[←Sk];refine TN.append_right _ ?_
  conv=>rhs;rw[c]
  rw[Sk]
 .rw [er];exact SV.mpr ⟨q2,m.so,fun x hx y hy=>m.ub x (sub x hx) y (TK.mp hy)⟩
 .rw [e];intro x hx y hy;rcases mAq.mp hy with hy|hy
  .exact m.ua x hx y hy
  .exact h x hx y (TK.mp hy)
 .rw [e];intro x hx y hy;rcases mAq.mp hy with hy|hy
  .exact m.ub x (by rw[c];exact T7 _ hx) y hy
  .exact q3 x hx y (TK.mp hy)
theorem lI{l:List Keyed}{i:Nat}{x:Keyed}(h:l[i]?=some x):(l.take (i+1)).drop i=[x]:=by
 rw[UJ,h,WV];have hl:(l.take i).length=i:=by
  have:=(gSq.mp h).1;rw[lTq];lia
 rw[Vu (by lia),hl,T2]
 rfl
theorem MH.pushA{x:Keyed}(m:MH lt a b out (na+1) nb) (sa:kZ lt a.toList) (hx:a[na]?=some x) (h:∀y∈b.toList.take nb,lt x y=false):MH lt a b (out.push x) na nb:=by
 have hx':a.toList[na]?=some x:=by rw[SJ];exact hx
 refine(m.moreA sa (k:=na) (Ua _) fun z hz y hy=>?_).congr ?_
 .rw [lI hx',mSq]at hy;rw[hy];exact h z hz
 .rw [Va,SX,Uv,dw,lI hx'];rfl
theorem MH.pushB{x:Keyed}(m:MH lt a b out na (nb+1)) (sb:kZ lt b.toList) (hx:b[nb]?=some x) (h:∀y∈a.toList.take na,lt x y=false):MH lt a b (out.push x) na nb:=by
 have hx':b.toList[nb]?=some x:=by rw[SJ];exact hx
 refine(m.moreB sb (k:=nb) (Ua _) fun z hz y hy=>?_).congr ?_
 .rw [lI hx',mSq]at hy;rw[hy];exact h z hz
 .rw [Va,SX,Uv,dw,lI hx'];rfl
theorem MH.end(m:MH lt a b out na nb) (sa:kZ lt a.toList) (sb:kZ lt b.toList) (e:na=0∨nb=0):HU lt a b (a.extract 0 na++b.extract 0 nb++out.reverse):=by
 have et:(a.extract 0 na++b.extract 0 nb++out.reverse).toList=(a.toList.take na++b.toList.take nb)++out.toList.reverse:=by
  rw[SX,SX,qh,qh,Uv]
 refine⟨by rw[et];exact m.pm,?_⟩
 rw[et];refine SV.mpr ⟨?_,m.so,fun x hx y hy=>?_⟩
 .rcases e with rfl|rfl
  .rw [W9,T5];exact sb.sublist (Tj _ _)
  .rw [W9,aNq];exact sa.sublist (Tj _ _)
 .rcases mAq.mp hx with hx|hx
  .exact m.ua x hx y (TK.mp hy)
  .exact m.ub x hx y (TK.mp hy)
theorem MH.firstB(m:MH lt a b out na nb) (sa:kZ lt a.toList) (sb:kZ lt b.toList) (h:∀x∈b.toList.take nb,∀y∈a.toList.take na,lt y x=false):HU lt a b (b.extract 0 nb++a.extract 0 na++out.reverse):=by
 have et:(b.extract 0 nb++a.extract 0 na++out.reverse).toList=(b.toList.take nb++a.toList.take na)++out.toList.reverse:=by
  rw[SX,SX,qh,qh,Uv]
 refine⟨?_,?_⟩
 .rw [et];exact(TN.append_right _ Ts).trans m.pm
 .rw [et];refine SV.mpr ⟨SV.mpr ⟨sb.sublist (Tj _ _),sa.sublist (Tj _ _),h⟩,m.so,fun x hx y hy=>?_⟩
  rcases mAq.mp hx with hx|hx
  .exact m.ub x hx y (TK.mp hy)
  .exact m.ua x hx y (TK.mp hy)
end
noncomputable def sZ:Array Keyed->Array Keyed->StateT SortSt Sem (Array Keyed):=sortPriv% PySem.Builtin.mergeHi
section
variable (a b:Array Keyed)
noncomputable abbrev dH(o:Array Keyed) (i j:Nat):=a.extract 0 i++b.extract 0 j++o.reverse
noncomputable abbrev fH(o:Array Keyed) (i j:Nat):=b.extract 0 j++a.extract 0 i++o.reverse
noncomputable abbrev SH(α:Type):=ForInStep (Option (Array Keyed)×Nat×Nat×Array Keyed×α)
def PH(o:Array Keyed) (i j m k l:Nat):StateT SortSt Sem (SH (Nat×Nat×Nat)):=do
 let x ←elem' a (i-1)
 if i-1 == 0 then pure (.done (some (dH a b (o.push x) (i-1) j),i-1,j,o.push x,m,k,l))
 else if decide (k<7) && decide (l<7) then pure (.done (none,i-1,j,o.push x,m,k,l))
 else pure (.yield (none,i-1,j,o.push x,m,k,l))
def Px(o:Array Keyed) (i j m k q:Nat):StateT SortSt Sem (SH (Nat×Nat×Nat)):=do
 let x ←elem' b (j-1)
 if j-1 == 1 then pure (.done (some (fH a b (o.push x) i (j-1)),i,j-1,o.push x,m,k,q))
 else do
  let y ←elem' a (i-1)
  match ←jJ true y b 0 (j-1) (j-1-1) with
  |some l =>
   if j-1-l>0 then
    if l == 1 then pure (.done (some (fH a b (o.push x++(b.extract l (j-1)).reverse) i l),i,l,o.push x++(b.extract l (j-1)).reverse,m,k,j-1-l))
    else if l == 0 then pure (.done (some (dH a b (o.push x++(b.extract l (j-1)).reverse) i l),i,l,o.push x++(b.extract l (j-1)).reverse,m,k,j-1-l))
    else PH a b (o.push x++(b.extract l (j-1)).reverse) i l m k (j-1-l)
   else PH a b (o.push x) i (j-1) m k (j-1-l)
  |_=>pure (.done (some (dH a b (o.push x) i (j-1)),i,j-1,o.push x,m,k,q))
def Pq(o:Array Keyed) (i j m p q:Nat):StateT SortSt Sem (SH (Nat×Nat×Nat)):=do
 ez m
 let x ←elem' b (j-1)
 match ←jJ false x a 0 i (i-1) with
 |some k =>
  if i-k>0 then
   if k == 0 then pure (.done (some (dH a b (o++(a.extract k i).reverse) k j),k,j,o++(a.extract k i).reverse,m,i-k,q))
   else Px a b (o++(a.extract k i).reverse) k j m (i-k) q
  else Px a b o i j m (i-k) q
 |_=>pure (.done (some (dH a b o i j),i,j,o,m,p,q))
def HP(m:Nat) (o:Array Keyed) (i j p q:Nat):StateT SortSt Sem (SH (Nat×Nat)):=do
 let y ←elem' b (j-1)
 let x ←elem' a (i-1)
 match ←lt' y x with
 |some c =>
  if c then do
   let z ←elem' a (i-1)
   if i-1 == 0 then pure (.done (some (dH a b (o.push z) (i-1) j),i-1,j,o.push z,p+1,0))
   else if p+1 ≥ m then pure (.done (none,i-1,j,o.push z,p+1,0))
   else pure (.yield (none,i-1,j,o.push z,p+1,0))
  else do
   let z ←elem' b (j-1)
   if j-1 == 1 then pure (.done (some (fH a b (o.push z) i (j-1)),i,j-1,o.push z,0,q+1))
   else if q+1 ≥ m then pure (.done (none,i,j-1,o.push z,0,q+1))
   else pure (.yield (none,i,j-1,o.push z,0,q+1))
 |_=>pure (.done (some (dH a b o i j),i,j,o,p,q))
def PX(o:Array Keyed) (i j m:Nat):StateT SortSt Sem (SH Nat):=do
 let r ←forIn [0:a.size+b.size] (none,i,j,o,0,0) fun _ s=>HP a b m s.2.2.2.1 s.2.1 s.2.2.1 s.2.2.2.2.1 s.2.2.2.2.2
 Break.runK.match_1 (fun _=>StateT SortSt Sem (SH Nat)) r.1 (fun v=>pure (.done (some v,r.2.1,r.2.2.1,r.2.2.2.1,m))) fun _=>do
  rule "list.sort.gallop"
  let r ←forIn [0:a.size+b.size] (none,r.2.1,r.2.2.1,r.2.2.2.1,m+1,r.2.2.2.2.1,r.2.2.2.2.2) fun _ s=>if s.2.2.2.2.1>1 then Pq a b s.2.2.2.1 s.2.1 s.2.2.1 (s.2.2.2.2.1-1) s.2.2.2.2.2.1 s.2.2.2.2.2.2 else Pq a b s.2.2.2.1 s.2.1 s.2.2.1 s.2.2.2.2.1 s.2.2.2.2.2.1 s.2.2.2.2.2.2
  Break.runK.match_1 (fun _=>StateT SortSt Sem (SH Nat)) r.1 (fun v=>pure (.done (some v,r.2.1,r.2.2.1,r.2.2.2.1,r.2.2.2.2.1))) fun _=>do
   ez (r.2.2.2.2.1+1)
   pure (.yield (none,r.2.1,r.2.2.1,r.2.2.2.1,r.2.2.2.2.1+1))
theorem yo:sZ a b=(do
 rule "list.sort.merge-hi"
 let x ←elem' a (a.size-1)
 if a.size-1 == 0 then pure (dH a b #[x] (a.size-1) b.size)
 else if b.size == 1 then pure (fH a b #[x] (a.size-1) b.size)
 else do
  let st ←get
  let r ←forIn [0:a.size+b.size] (none,a.size-1,b.size,#[x],gallopOf st) fun _ s=>PX a b s.2.2.2.1 s.2.1 s.2.2.1 s.2.2.2.2
  Break.runK.match_1 (fun _=>StateT SortSt Sem (Array Keyed)) r.1 (fun v=>pure v) fun _=>unsupported "internal:list.sort.merge-bound"):=rfl
end
section
variable {prog:Program}{w:World}{A:Around}{E:Value->Shared->Prop}{s:Shared}{κ:SortKind}{P:Keyed->Prop}{lt:Keyed->Keyed->Bool}
theorem sQ(C:nL prog w A s κ P lt) {a:Array Keyed}{i:Nat}{x:Keyed}(ha:∀x,x∈a->P x) (sa:kZ lt a.toList) (hx:a[i]?=some x):∀y∈a.toList.take (i+1),lt x y=false:=by
 obtain⟨hi,e⟩:=Tr.mp hx;have hx':a.toList[i]?=some x:=by rw[SJ];exact hx
 have sd:kZ lt (a.toList.take (i+1)):=sa.sublist (Tj _ _);rw[UJ,hx']at sd ⊢;intro y hy;rcases mAq.mp hy with hy|hy
 .exact (SV.mp sd).2.2 y hy x (by simp)
 .have:y=x:=by simpa using hy
  rw[this];exact C.refl (ha _ (by rw[←e];exact Td hi))
theorem jr{a:Array Keyed}{i:Nat}{y:Keyed}(h:y∈a.toList.take i):y∈a:=by simpa using Tq h
theorem nH{a:Array Keyed}{n:Nat}{x:Keyed}(h:x∈a.toList.take n):∃j,j<n/\a[0+j]?=some x:=by
 have h':x∈(a.toList.drop 0).take n:=by rw[Vn];exact h
 exact ke h'
theorem jw{a:Array Keyed}{k n:Nat}{x:Keyed}(h:x∈(a.toList.take n).drop k):∃j,k<=j/\j<n/\a[0+j]?=some x:=by
 obtain⟨j,hj,e⟩:=Uu.mp h;rw[SE,lTq,Sv]at hj;refine⟨k+j,by lia,by lia,?_⟩
 rw[Vq,VX]at e;rw[Tr];exact⟨by lia,by simpa using e⟩
structure MG (lt:Keyed->Keyed->Bool) (a b:Array Keyed) (n:Nat) (x:Ls):Prop where
 m:MH lt a b x.o x.i x.j
 p:0<x.i
 q:1<x.j
 r:x.i+x.j+n<=a.size+b.size
noncomputable abbrev H6(x:Ls):=(x.i,x.j,x.o,x.m,x.p,x.q)
noncomputable abbrev H5(x:Ls):=(x.i,x.j,x.o,x.p,x.q)
noncomputable abbrev H4(x:Ls):=(x.i,x.j,x.o,x.m)
variable {a b:Array Keyed}{st:SortSt}{Q:Array Keyed->SortSt->Prop}{n:Nat}{x:Ls}{o:Array Keyed}{u v i j m k l g:Nat}
noncomputable abbrev Hf(lt:Keyed->Keyed->Bool) (a b:Array Keyed):=∀x∈b.toList.take 1,∀y∈a.toList,lt y x=false
theorem PZ(H:Lo prog w A s κ P lt a b st Q) (hf:Hf lt a b) (m:MH lt a b o i 1):Q (b.extract 0 1++a.extract 0 i++o.reverse) (sg st g):=H.h _ _ (m.firstB H.sa H.sb fun x hx y hy=>hf x hx y (Tq hy))
theorem FE(H:Lo prog w A s κ P lt a b st Q) (q:MG lt a b n ⟨o,u+1,j,m,k,l,g⟩) (hi:∀z,a[u]?=some z->∀y∈b.toList.take j,lt z y=false) :
  wpS (model prog w) A E s (PH a b o (u+1) j m k l) (Lp H6 (fun x=>sg st x.g) (MG lt a b n) (MG lt a b n) Q) (sg st g):=by
 dsimp only [PH,Vg];have ea:a[u]?=some (a[u]'q.m.la):=Sh q.m.la;refine wpS_bind (bI ea ?_);have m6:=q.m.pushA H.sa ea (hi _ ea)
 by_cases d6:u=0
 .rw [if_pos (by simp[d6])]
  exact wpS_pure (.r _ _ _ (H.h _ _ (m6.end H.sa H.sb (.inl d6))))
 rw[if_neg (by simpa using d6)]
 have R:MG lt a b n ⟨_,_,_,m,k,l,g⟩:=⟨m6,VR d6,q.q,by have:=q.r;dsimp only at *;lia⟩
 split
 .exact wpS_pure (.d _ R)
 .exact wpS_pure (.y _ R)
theorem G5(H:Lo prog w A s κ P lt a b st Q) (hf:Hf lt a b) (q:MG lt a b n ⟨o,u+1,v+1,m,k,l,g⟩) (hi:∀z,b[v]?=some z->∀y∈a.toList.take (u+1),lt z y=false) :
  wpS (model prog w) A E s (Px a b o (u+1) (v+1) m k l) (Lp H6 (fun x=>sg st x.g) (MG lt a b n) (MG lt a b n) Q) (sg st g):=by
 dsimp only [Px,Vg];have la:u<a.size:=q.m.la;have lb:v<b.size:=q.m.lb;have p2:1<v+1:=q.q;have p3:u+1+(v+1)+n<=a.size+b.size:=q.r;have eb:b[v]?=some b[v]:=Sh lb;refine wpS_bind (bI eb ?_);have m4:=q.m.pushB H.sb eb (hi _ eb)
 by_cases d3:v=1
 .rw [if_pos (by simp[d3])]
  subst d3;exact wpS_pure (.r _ _ _ (PZ H hf m4))
 rw[if_neg (by simpa using d3)]
 have ea:a[u]?=some a[u]:=Sh la;have pa:=H.ha _ (Td la);refine wpS_bind (bI ea (wpS_bind (hV H.C (base:=0) (n:=v) (by lia) (by lia) H.hb pa H.hk (qm H.C (by lia) H.hb pa (by rw[Vn];exact H.sb)) fun l l1 l2 l3=>?_)))
 have hB:∀z,a[u]?=some z->∀y∈b.toList.take l,lt z y=false:=fun z hz y hy=>by
  obtain⟨j',hj',ey⟩:=nH hy;have q:=l2 j' hj';rw[fU ey,if_pos rfl]at q;rw[ea]at hz;cases hz;exact H.C.asym _ _ (H.hb _ (jr hy)) pa q
 dsimp only
 by_cases cl:v-l>0
 .rw [if_pos cl];have m5:=m4.moreB H.sb (k:=l) l1 fun x hx y hy=>by
   obtain⟨j',hj1,hj',ey⟩:=jw hy;have q:=l3 j' hj1 hj';rw[fU ey,if_pos rfl]at q;exact H.C.trans _ _ _ (H.ha _ (jr hx)) pa (H.hb y (Tu hy |> jr)) (sQ H.C H.ha H.sa ea x hx) q
  by_cases d5:l=1
  .rw [if_pos (by simp[d5])]
   subst d5;exact wpS_pure (.r _ _ _ (PZ H hf m5))
  rw[if_neg (by simpa using d5)]
  by_cases d6:l=0
  .rw [if_pos (by simp[d6])]
   exact wpS_pure (.r _ _ _ (H.h _ _ (m5.end H.sa H.sb (.inr d6))))
  rw[if_neg (by simpa using d6)]
  exact FE H ⟨m5,q.p,by dsimp only;lia,by dsimp only;lia⟩ hB
 .rw [if_neg cl];have:l=v:=by lia
  subst this;exact FE H ⟨m4,q.p,by dsimp only;lia,by dsimp only;lia⟩ hB
theorem EW(H:Lo prog w A s κ P lt a b st Q) (hf:Hf lt a b) (q:MG lt a b n x) :
  wpS (model prog w) A E s (Pq a b x.o x.i x.j x.m x.p x.q) (Lp H6 (fun x=>sg st x.g) (MG lt a b n) (MG lt a b n) Q) (sg st x.g):=by
 obtain⟨o,i,j,m,p,q',g⟩:=x;have la:i<=a.size:=q.m.la;have p1:0<i:=q.p;have p2:1<j:=q.q;have p3:i+j+n<=a.size+b.size:=q.r;obtain⟨v,rfl⟩:∃v,j=v+1:=⟨j-1,by lia⟩
 have lb:v<b.size:=q.m.lb;dsimp only [Pq,Vg];have eb:b[v]?=some b[v]:=Sh lb;have pb:=H.hb _ (Td lb);refine wpS_bind (mn (wpS_bind (bI eb (wpS_bind (hV H.C (base:=0) (n:=i) (by lia) (by lia) H.ha pb H.hk (qm H.C (by lia) H.ha pb (by rw[Vn];exact H.sa)) fun k k1 k2 k3=>?_)))))
 have hA:∀z,b[v]?=some z->∀y∈a.toList.take k,lt z y=false:=fun z hz y hy=>by
  obtain⟨j',hj',ey⟩:=nH hy;have q:=k2 j' hj';rw[fU ey,if_neg (by decide)]at q
  rw[eb]at hz;cases hz;simpa using q
 dsimp only
 by_cases ck:i-k>0
 .rw [if_pos ck];have m3:=q.m.moreA H.sa (k:=k) k1 fun x hx y hy=>by
   obtain⟨j',hj1,hj',ey⟩:=jw hy;have q:=k3 j' hj1 hj';rw[fU ey,if_neg (by decide)]at q
   have py:=H.ha y (Tu hy |> jr);exact H.C.trans _ _ _ (H.hb _ (jr hx)) pb py (sQ H.C H.hb H.sb eb x hx) (H.C.asym _ _ pb py (by simpa using q))
  by_cases d2:k=0
  .rw [if_pos (by simp[d2])]
   exact wpS_pure (.r _ _ _ (H.h _ m (m3.end H.sa H.sb (.inl d2))))
  rw[if_neg (by simpa using d2)]
  obtain⟨u,rfl⟩:∃u,k=u+1:=⟨k-1,by lia⟩
  exact G5 H hf (g:=m) ⟨m3,Nat.succ_pos _,p2,by dsimp only;lia⟩ hA
 .rw [if_neg ck];have:k=i:=by lia
  subst this;obtain⟨u,rfl⟩:∃u,k=u+1:=⟨k-1,by lia⟩
  exact G5 H hf (g:=m) ⟨q.m,p1,p2,p3⟩ hA
theorem Lw(H:Lo prog w A s κ P lt a b st Q) (hf:Hf lt a b) (q:MG lt a b (n+j) x) :
  wpS (model prog w) A E s (HP a b m x.o x.i x.j x.p x.q) (Lp H5 (fun x=>sg st x.g) (MG lt a b (n+(j+1))) (MG lt a b (n+1)) Q) (sg st x.g):=by
 obtain⟨o,i,k,m',p,q',g⟩:=x;have p1:0<i:=q.p;have p2:1<k:=q.q;have p3:i+k+(n+j)<=a.size+b.size:=q.r;obtain⟨u,rfl⟩:∃u,i=u+1:=⟨i-1,by lia⟩
 obtain⟨v,rfl⟩:∃v,k=v+1:=⟨k-1,by lia⟩
 have la:u<a.size:=q.m.la;have lb:v<b.size:=q.m.lb;dsimp only [HP,Vg];have ea:a[u]?=some a[u]:=Sh la;have eb:b[v]?=some b[v]:=Sh lb;have pa:=H.ha _ (Td la);have pb:=H.hb _ (Td lb);refine wpS_bind (bI eb (wpS_bind (bI ea (wpS_bind (H.C.cmp pb pa H.hk ?_)))));cases e:lt b[v] a[u] with
 |true =>
  dsimp only;rw[if_pos rfl];refine wpS_bind (bI ea ?_);have m2:=q.m.pushA H.sa ea fun y hy=>H.C.trans _ _ _ (H.hb _ (jr hy)) pb pa (sQ H.C H.hb H.sb eb y hy) (H.C.asym _ _ pb pa e)
  by_cases d1:u=0
  .rw [if_pos (by simp[d1])]
   exact wpS_pure (.r _ _ _ (H.h _ _ (m2.end H.sa H.sb (.inl d1))))
  rw[if_neg (by simpa using d1)]
  have R:∀n,u+(v+1)+n<=a.size+b.size->MG lt a b n ⟨_,_,_,0,p+1,0,g⟩:=fun n hn=>⟨m2,VR d1,p2,hn⟩
  split
  .exact wpS_pure (.d _ (R _ (by lia)))
  .exact wpS_pure (.y _ (R _ (by lia)))
 |false =>
  dsimp only;rw[if_neg (by decide)]
  refine wpS_bind (bI eb ?_);have m2:=q.m.pushB H.sb eb fun y hy=>H.C.trans _ _ _ (H.ha _ (jr hy)) pa pb (sQ H.C H.ha H.sa ea y hy) e
  by_cases d1:v=1
  .rw [if_pos (by simp[d1])]
   subst d1;exact wpS_pure (.r _ _ _ (PZ H hf m2))
  rw[if_neg (by simpa using d1)]
  have R:∀n,u+1+v+n<=a.size+b.size->MG lt a b n ⟨_,_,_,0,0,q'+1,g⟩:=fun n hn=>⟨m2,p1,by dsimp only;lia,hn⟩
  split
  .exact wpS_pure (.d _ (R _ (by lia)))
  .exact wpS_pure (.y _ (R _ (by lia)))
theorem LC(H:Lo prog w A s κ P lt a b st Q) (hf:Hf lt a b) (q:MG lt a b n x) :
  wpS (model prog w) A E s (PX a b x.o x.i x.j x.m) (Lp H4 (fun x=>sg st x.g) (MG lt a b (n+1)) (fun _=>False) Q) (sg st x.g):=by
 refine kF H5 (fun x=>sg st x.g) (fun j=>MG lt a b (n+j)) (MG lt a b (n+1)) Q ⟨x.o,x.i,x.j,0,0,0,x.g⟩ ⟨q.m,q.p,q.q,q.r⟩ (fun j x q=>Lw H hf q) (fun y h=>⟨h.m,h.p,h.q,by have:=h.r;have:=h.p;have:=h.q;lia⟩) (fun y q=>?_) fun r y st' hr=>wpS_pure (.r _ _ _ hr)
 refine wpS_bind (kR ?_);refine kF H6 (fun x=>sg st x.g) (fun _=>MG lt a b (n+1)) (MG lt a b (n+1)) Q ⟨y.o,y.i,y.j,x.m+1,y.p,y.q,y.g⟩ ⟨q.m,q.p,q.q,q.r⟩ (fun j z q=>?_) (fun _ h=>h) (fun z q=>?_) fun r y st' hr=>wpS_pure (.r _ _ _ hr)
 .dsimp only;split
  .exact EW H hf (x:=⟨_,_,_,z.m-1,_,_,z.g⟩) ⟨q.m,q.p,q.q,q.r⟩
  .exact EW H hf q
 .refine wpS_bind (mn (wpS_pure ?_));exact Lp.y (t:=H4) (v:=fun x=>sg st x.g) ⟨_,_,_,z.m+1,0,0,z.m+1⟩ ⟨q.m,q.p,q.q,q.r⟩
theorem zM(C:nL prog w A s κ P lt) (ha:∀x,x∈a->P x) (hb:∀x,x∈b->P x) (hk:kindOf st=κ) (sa:kZ lt a.toList) (sb:kZ lt b.toList)
  (na0:0<a.size) (nb0:0<b.size) (h0:∀x∈b.toList.take 1,∀y∈a.toList,lt y x=false) (hl:∀x,a[a.size-1]?=some x->∀y∈b.toList,lt x y=false)
  (h:∀r g,HU lt a b r->Q r (sg st g)):wpS (model prog w) A E s (sZ a b) Q st:=by
 have H:Lo prog w A s κ P lt a b st Q:=⟨C,ha,hb,hk,sa,sb,h⟩;rw[yo];refine wpS_bind (kR ?_);have ea0:a[a.size-1]?=some (a[a.size-1]'(by lia)):=Sh (by lia)
 refine wpS_bind (bI ea0 ?_);have m0:MH lt a b #[] (a.size-1+1) b.size:=⟨by lia,Sg _,by
  rw[show a.size-1+1=a.toList.length by simp;lia,Tg,←Sv,Tg];simp,by simp[kZ],by simp,by simp⟩
 have m1:MH lt a b #[a[a.size-1]'(by lia)] (a.size-1) b.size:=m0.pushA sa ea0 fun y hy=>hl _ ea0 y (Tq hy)
 by_cases c1:a.size-1=0
 .rw [if_pos (by simp[c1])]
  exact wpS_pure (h _ (gallopOf st) (m1.end sa sb (.inl c1)))
 rw[if_neg (by simpa using c1)]
 by_cases c2:b.size=1
 .rw [if_pos (by simp[c2])]
  have m1':=m1;rw[c2]at m1' ⊢;exact wpS_pure (PZ H h0 (g:=gallopOf st) m1')
 rw[if_neg (by simpa using c2)]
 refine wpS_bind (wpS_get ?_);exact kF H4 (fun x=>sg st x.g) (fun i=>MG lt a b (i+1)) (fun _=>False) Q ⟨_,a.size-1,b.size,_,0,0,gallopOf st⟩ ⟨m1,VR c1,show 1<b.size by lia,show a.size-1+b.size+1<=a.size+b.size by lia⟩ (fun i x q=>LC H h0 q) (fun x h=>by have:=h.p;have:=h.q;have:=h.r;lia) (fun x h=>h.elim) fun r y st' hr=>wpS_pure hr
end
def oE(lt:Keyed->Keyed->Bool) (xs:Array Keyed) (i j:Nat):Prop:=∀p q x y,i<=p->p<=q->q<j->xs[p]?=some x->xs[q]?=some y->lt y x=false
def HS(lt:Keyed->Keyed->Bool) (xs:Array Keyed) (i j:Nat):Prop:=∀p q x y,i<=p->p<=q->q<j->xs[p]?=some x->xs[q]?=some y->lt x y=false
def Ot(lt:Keyed->Keyed->Bool) (xs:Array Keyed) (i j:Nat):Prop:=∀p q x y,i<=p->p<j->i<=q->q<j->xs[p]?=some x->xs[q]?=some y->lt x y=false
section
variable {lt:Keyed->Keyed->Bool}{xs:Array Keyed}{i j lo n:Nat}
theorem AM(hj:j<=xs.size) (h:HS lt xs i j):oE lt (mirror xs i j ((j-i) / 2)) i j:=by
 intro p q x y h1 h2 h3 ex ey;rw[getElem?_mirror_all hj,if_pos ⟨h1,by lia⟩]at ex
 rw[getElem?_mirror_all hj,if_pos ⟨by lia,h3⟩]at ey
 exact h _ _ _ _ (by lia) (by lia) (by lia) ey ex
theorem oS(hj:j<=xs.size) (hi:lo<=i) (hn:j<=n) (e:Ot lt xs i j) (h:HS lt xs lo n):HS lt (mirror xs i j ((j-i) / 2)) lo n:=by
 intro p q x y h1 h2 h3 ex ey;rw[getElem?_mirror_all hj]at ex ey
 by_cases cp:i<=p/\p<j
 .rw [if_pos cp]at ex
  by_cases cq:i<=q/\q<j
  .rw [if_pos cq]at ey;exact e _ _ _ _ (by lia) (by lia) (by lia) (by lia) ex ey
  .rw [if_neg cq]at ey;exact h _ _ _ _ (by lia) (by lia) h3 ex ey
 .rw [if_neg cp]at ex
  by_cases cq:i<=q/\q<j
  .rw [if_pos cq]at ey;exact h _ _ _ _ h1 (by lia) (by lia) ex ey
  .rw [if_neg cq]at ey;exact h _ _ _ _ h1 h2 h3 ex ey
end
section
variable (lo:Nat)
noncomputable def Qs(n:Nat):StateT SortSt Sem (ForInStep (Option (Option Nat)×Nat)):=do
 match ←ltAt' (lo+n) (lo+n-1) with
 |some c=>if c then pure (.done (none,n)) else pure (.yield (none,n+1))
 |_=>pure (.done (some none,n))
noncomputable def Rj(n q:Nat):StateT SortSt Sem (ForInStep (Option (Option Nat)×Nat×Nat)):=do
 match ←ltAt' (lo+n) (lo+n-1) with
 |some c =>
  if c then
   if q>0 then do
    let _ ←reverseSlice' (lo+n-(q+1)) (lo+n)
    pure (.yield (none,n+1,0))
   else pure (.yield (none,n+1,0))
  else do
   match ←ltAt' (lo+n-1) (lo+n) with
   |some c=>if c then pure (.done (none,n,q)) else pure (.yield (none,n+1,q+1))
   |_=>pure (.done (some none,n,q))
 |_=>pure (.done (some none,n,q))
def QE(nrem n:Nat):StateT SortSt Sem (Option Nat):=do
 reverseSlice' lo (lo+n)
 let r ←forIn [n:nrem] (none,n) fun _ s=>Qs lo s.2
 Break.runK.match_1 (fun _=>StateT SortSt Sem (Option Nat)) r.1 (fun v=>pure v) fun _=>pure (some r.2)
def Q3(nrem n:Nat):StateT SortSt Sem (Option Nat):=do
 rule "list.sort.descending-run"
 let r ←forIn [n+1:nrem] (none,n+1,0) fun _ s=>Rj lo s.2.1 s.2.2
 Break.runK.match_1 (fun _=>StateT SortSt Sem (Option Nat)) r.1 (fun v=>pure v) fun _ =>
  if r.2.2>0 then do
   let _ ←reverseSlice' (lo+r.2.1-(r.2.2+1)) (lo+r.2.1)
   QE lo nrem r.2.1
  else QE lo nrem r.2.1
theorem NW(nrem:Nat):countRun' lo nrem=(do
 let r ←forIn [1:nrem] (none,1) fun _ s=>Qs lo s.2
 Break.runK.match_1 (fun _=>StateT SortSt Sem (Option Nat)) r.1 (fun v=>pure v) fun _ =>
  if r.2 == nrem then pure (some r.2)
  else if r.2>1 then do
   match ←ltAt' lo (lo+r.2-1) with
   |some c =>
    if c then pure (some r.2)
    else do
     let _ ←reverseSlice' lo (lo+r.2)
     Q3 lo nrem r.2
   |_=>pure none
  else Q3 lo nrem r.2):=countRun'_eq lo nrem
end
section
variable {prog:Program}{w:World}{A:Around}{E:Value->Shared->Prop}{s:Shared}{κ:SortKind}{P:Keyed->Prop}{lt:Keyed->Keyed->Bool}
theorem Ja(C:nL prog w A s κ P lt) {xs:Array Keyed}(hp:∀x,x∈xs->P x) (lo:Nat):oE lt xs lo (lo+1):=by
 intro p q x y h1 h2 h3 ex ey;have e:p=q:=by lia
 subst e;rw[ex]at ey;cases ey;exact C.refl (hp _ (aQq ex))
theorem Ga(C:nL prog w A s κ P lt) {xs:Array Keyed}(hp:∀x,x∈xs->P x) {lo n:Nat}(h:oE lt xs lo (lo+(n+1))) (hx:∀x y,xs[lo+(n+1)]?=some x->xs[lo+n]?=some y->lt x y=false) (hz:lo+(n+1)<xs.size):oE lt xs lo (lo+(n+2)):=by
 intro p q x y h1 h2 h3 ex ey
 by_cases c:q<lo+(n+1)
 .exact h p q x y h1 h2 c ex ey
 .have eq:q=lo+(n+1):=by lia
  subst eq
  by_cases c2:p=lo+(n+1)
  .subst c2;rw[ex]at ey;cases ey;exact C.refl (hp _ (aQq ex))
  .have em:xs[lo+n]?=some (xs[lo+n]'(by lia)):=Sh (by lia)
   exact C.trans _ _ _ (hp _ (aQq ex)) (hp _ (aQq em)) (hp _ (aQq ey)) (h p (lo+n) _ _ h1 (by lia) (by lia) ex em) (hx _ _ ey em)
theorem zC(C:nL prog w A s κ P lt) {xs:Array Keyed}(hp:∀x,x∈xs->P x) {lo n:Nat}(h:HS lt xs lo (lo+(n+1))) (hx:∀x y,xs[lo+(n+1)]?=some x->xs[lo+n]?=some y->lt y x=false) (hz:lo+(n+1)<xs.size):HS lt xs lo (lo+(n+2)):=by
 intro p q x y h1 h2 h3 ex ey
 by_cases c:q<lo+(n+1)
 .exact h p q x y h1 h2 c ex ey
 .have eq:q=lo+(n+1):=by lia
  subst eq
  by_cases c2:p=lo+(n+1)
  .subst c2;rw[ex]at ey;cases ey;exact C.refl (hp _ (aQq ex))
  .have em:xs[lo+n]?=some (xs[lo+n]'(by lia)):=Sh (by lia)
   exact C.trans _ _ _ (hp _ (aQq ey)) (hp _ (aQq em)) (hp _ (aQq ex)) (hx _ _ ey em) (h p (lo+n) _ _ h1 (by lia) (by lia) ex em)
theorem yS(C:nL prog w A s κ P lt) {lo nrem a:Nat}{st:SortSt}(hp:∀x,x∈arrOf st->P x) (hk:kindOf st=κ) (ha:1<=a) (han:a<=nrem) (hz:lo+nrem<=(arrOf st).size) (hs:oE lt (arrOf st) lo (lo+a)) :
  wpS (model prog w) A E s (forIn [a:nrem] ((none,a):Option (Option Nat)×Nat) fun _ s=>Qs lo s.2)
   (fun c st'=>∃n,c=(none,n)/\st'=st/\a<=n/\n<=nrem/\oE lt (arrOf st) lo (lo+n)/\(n=nrem∨∃x y,(arrOf st)[lo+n]?=some x/\(arrOf st)[lo+n-1]?=some y/\lt x y=true)) st:=by
 refine wpS_forRange (I:=fun i c st'=>c=(none,i)/\st'=st/\a<=i/\i<=nrem/\oE lt (arrOf st) lo (lo+i)) ?step ?fin ⟨rfl,rfl,Sg _,han,hs⟩
 case step =>
  rintro i c st' h1 h2 ⟨rfl,rfl,h3,h4,h5⟩;obtain⟨k,rfl⟩:∃k,i=k+1:=⟨i-1,by lia⟩
  have ex:(arrOf st')[lo+(k+1)]?=some ((arrOf st')[lo+(k+1)]'(by lia)):=Sh (by lia)
  have ey:(arrOf st')[lo+(k+1)-1]?=some ((arrOf st')[lo+k]'(by lia)):=Sh (by lia)
  refine wpS_bind (C.at ex ey (hp _ (aQq ex)) (hp _ (aQq ey)) hk ?_);cases e:lt ((arrOf st')[lo+(k+1)]'(by lia)) ((arrOf st')[lo+k]'(by lia)) with
  |true=>exact wpS_pure ⟨_,rfl,rfl,h3,h4,h5,.inr ⟨_,_,ex,ey,e⟩⟩
  |false =>
   refine wpS_pure ⟨rfl,rfl,by lia,h2,Ga C hp h5 (fun x y hx hy=>?_) (by lia)⟩
   have hy':(arrOf st')[lo+(k+1)-1]?=some y:=hy;rw[ex]at hx;rw[ey]at hy';cases hx;cases hy';exact e
 case fin =>
  rintro c st' ⟨rfl,rfl,h3,h4,h5⟩;have e:max a nrem=nrem:=WW han;rw[e]at h3 h4 h5 ⊢;exact⟨nrem,rfl,rfl,h3,Sg _,h5,.inl rfl⟩
theorem sJ{i j:Nat}{st:SortSt}{Q:Unit->SortSt->Prop}(h:Q () (setArr st (mirror (arrOf st) i j ((j-i) / 2)))):wpS (model prog w) A E s (reverseSlice' i j) Q st:=by
 rw[reverseSlice'_eq];exact wpS_modify h
structure mK (xs ys:Array Keyed) (lo hi:Nat):Prop where
 pm:ys.Perm xs
 out:∀k,(k<lo∨hi<=k)->ys[k]?=xs[k]?
theorem mK.refl(xs:Array Keyed) (lo hi:Nat):mK xs xs lo hi:=⟨W5.refl _,fun _ _=>rfl⟩
theorem mK.trans{xs ys zs:Array Keyed}{lo hi:Nat}(a:mK xs ys lo hi) (b:mK ys zs lo hi):mK xs zs lo hi:=⟨b.pm.trans a.pm,fun k h=>(b.out k h).trans (a.out k h)⟩
theorem mK.mono{xs ys:Array Keyed}{lo hi hi':Nat}(a:mK xs ys lo hi) (h:hi<=hi'):mK xs ys lo hi':=⟨a.pm,fun k q=>a.out k (by lia)⟩
theorem mK.size{xs ys:Array Keyed}{lo hi:Nat}(a:mK xs ys lo hi):ys.size=xs.size:=a.pm.size_eq
theorem mK.mem{xs ys:Array Keyed}{lo hi:Nat}(a:mK xs ys lo hi) {P:Keyed->Prop}(h:∀x,x∈xs->P x):∀x,x∈ys->P x:=fun x hx=>h x (a.pm.mem_iff.mp hx)
theorem lz{xs:Array Keyed}{lo hi i j:Nat}(hj:j<=xs.size) (h1:lo<=i) (h2:j<=hi):mK xs (mirror xs i j ((j-i) / 2)) lo hi :=
 ⟨mirror_perm _ _ _ _,fun k hk=>by rw[getElem?_mirror_all hj,if_neg (by lia)]⟩
structure CR (lt:Keyed->Keyed->Bool) (as:Array Keyed) (lo i q:Nat) (ys:Array Keyed):Prop where
 b:mK as ys lo (lo+i)
 d:HS lt ys lo (lo+i)
 e:Ot lt ys (lo+i-(q+1)) (lo+i)
 p:q+1<=i
theorem sv(C:nL prog w A s κ P lt) {ys:Array Keyed}(hp:∀x,x∈ys->P x) {i j:Nat}(h:j<=i+1):Ot lt ys i j:=by
 intro p q x y g1 g2 g3 g4 gx gy;have e:p=q:=by lia
 subst e;rw[gx]at gy;cases gy;exact C.refl (hp _ (aQq gx))
theorem LP(C:nL prog w A s κ P lt) {lo nrem k neq:Nat}{st:SortSt}{ys:Array Keyed}(hp:∀x,x∈arrOf st->P x) (hk:kindOf st=κ) (hz:lo+nrem<=(arrOf st).size) (hi:k+1<nrem) (g:CR lt (arrOf st) lo (k+1) neq ys) :
  wpS (model prog w) A E s (Rj lo (k+1) neq) (fun r st2=>∃m q zs,st2=setArr st zs/\m<=nrem/\CR lt (arrOf st) lo m q zs/\(r = .done (none,m,q)∨r = .yield (none,m,q)/\m=k+1+1)) (setArr st ys):=by
 have g1:=g.b;have g2:=g.d;have g3:=g.e;have g4:=g.p;have hpy:=g1.mem hp;have hsz:=g1.size;have ex:ys[lo+(k+1)]?=some (ys[lo+(k+1)]'(by lia)):=Sh (by lia)
 have ey:ys[lo+(k+1)-1]?=some (ys[lo+k]'(by lia)):=Sh (by lia)
 have px:=hpy _ (aQq ex);have py:=hpy _ (aQq ey);have des:lt (ys[lo+k]'(by lia)) (ys[lo+(k+1)]'(by lia))=false->HS lt ys lo (lo+(k+1+1)):=fun e=>zC C hpy g2 (fun x y hx hy=>by
  have hy':ys[lo+(k+1)-1]?=some y:=hy;rw[ex]at hx;rw[ey]at hy';cases hx;cases hy';exact e) (by lia)
 refine wpS_bind (C.at (st:=setArr st ys) ex ey px py hk ?_);cases e:lt (ys[lo+(k+1)]'(by lia)) (ys[lo+k]'(by lia)) with
 |true =>
  have g2':=des (C.asym _ _ px py e);dsimp only;rw[if_pos rfl]
  by_cases cn:neq>0
  .rw [if_pos cn];refine wpS_bind (sJ (wpS_pure ?_));have bt:mK (arrOf st) (mirror ys (lo+(k+1)-(neq+1)) (lo+(k+1)) ((lo+(k+1)-(lo+(k+1)-(neq+1))) / 2)) lo (lo+(k+1)):=g1.trans (lz (by lia) (by lia) (Sg _))
   exact⟨_,0,_,rfl,hi,⟨bt.mono (by lia),oS (by lia) (by lia) (by lia) g3 g2',sv C (bt.mem hp) (by lia),by lia⟩,.inr ⟨rfl,rfl⟩⟩
  .rw [if_neg cn];exact wpS_pure ⟨_,0,ys,rfl,hi,⟨g1.mono (by lia),g2',sv C hpy (by lia),by lia⟩,.inr ⟨rfl,rfl⟩⟩
 |false =>
  dsimp only;rw[if_neg (by decide)]
  refine wpS_bind (C.at (st:=setArr st ys) ey ex py px hk ?_);cases e':lt (ys[lo+k]'(by lia)) (ys[lo+(k+1)]'(by lia)) with
  |true=>exact wpS_pure ⟨_,neq,ys,rfl,T8 hi,g,.inl rfl⟩
  |false =>
   refine wpS_pure ⟨_,neq+1,ys,rfl,hi,⟨g1.mono (by lia),des e',?_,by lia⟩,.inr ⟨rfl,rfl⟩⟩
   intro p q x y h1 h2 h3 h4 gx gy;have qx:=hpy _ (aQq gx);have qy:=hpy _ (aQq gy)
   by_cases cp:p=lo+(k+1)
   .subst cp;rw[ex]at gx;cases gx
    by_cases cq:q=lo+(k+1)
    .subst cq;rw[ex]at gy;cases gy;exact C.refl px
    .exact C.trans _ _ _ qy py px (g3 (lo+(k+1)-1) q _ _ (by lia) (by lia) (by lia) (by lia) ey gy) e
   .by_cases cq:q=lo+(k+1)
    .subst cq;rw[ex]at gy;cases gy;exact C.trans _ _ _ px py qx e' (g3 p (lo+(k+1)-1) _ _ (by lia) (by lia) (by lia) (by lia) gx ey)
    .exact g3 p q x y (by lia) (by lia) (by lia) (by lia) gx gy
abbrev O5(lt:Keyed->Keyed->Bool) (st:SortSt) (lo nrem:Nat) (Q:Option Nat->SortSt->Prop):=∀n xs,1<=n->n<=nrem->mK (arrOf st) xs lo (lo+n)->oE lt xs lo (lo+n)->Q (some n) (setArr st xs)
theorem Fu(C:nL prog w A s κ P lt) {lo nrem m:Nat}{st:SortSt}{ys:Array Keyed}{Q:Option Nat->SortSt->Prop}(hp:∀x,x∈arrOf st->P x) (hk:kindOf st=κ) (hz:lo+nrem<=(arrOf st).size) (h:O5 lt st lo nrem Q)
  (h1:1<=m) (h2:m<=nrem) (b:mK (arrOf st) ys lo (lo+m)) (d:HS lt ys lo (lo+m)):wpS (model prog w) A E s (QE lo nrem m) Q (setArr st ys):=by
 refine wpS_bind (sJ ?_);have hsz:=b.size;have f1:=AM (by lia) d
 have f2:=b.trans (lz (i:=lo) (j:=lo+m) (by lia) (Sg _) (Sg _))
 refine wpS_bind (wpS_mono (yS (st:=setArr st _) C (f2.mem hp) hk h1 h2 (TV hz (VN f2.size.symm)) f1) ?_);rintro c st2 ⟨n',rfl,rfl,n1',n2',s1',_⟩;exact wpS_pure (h n' _ (by lia) n2' (f2.mono (by lia)) s1')
theorem Hg(C:nL prog w A s κ P lt) {lo nrem n:Nat}{st:SortSt}{xs:Array Keyed}{Q:Option Nat->SortSt->Prop}(hp:∀x,x∈arrOf st->P x) (hk:kindOf st=κ) (hz:lo+nrem<=(arrOf st).size) (h:O5 lt st lo nrem Q)
  (hn:n<nrem) (b:mK (arrOf st) xs lo (lo+n)) (d:HS lt xs lo (lo+(n+1))):wpS (model prog w) A E s (Q3 lo nrem n) Q (setArr st xs):=by
 refine wpS_bind (kR (wpS_bind (wpS_mono (wpS_forRange
  (I:=fun i c st2=>∃q ys,c=(none,i,q)/\st2=setArr st ys/\i<=nrem/\CR lt (arrOf st) lo i q ys)
  (Q:=fun c st2=>∃m q ys,c=(none,m,q)/\st2=setArr st ys/\m<=nrem/\CR lt (arrOf st) lo m q ys)
  ?_ ?_ ⟨0,xs,rfl,rfl,hn,b.mono (by lia),d,sv C (b.mem hp) (by lia),by lia⟩) ?_)))
 .rintro i c st2 _ hi ⟨q,ys,rfl,rfl,_,g⟩;obtain⟨k,rfl⟩:∃k,i=k+1:=⟨i-1,by have:=g.p;lia⟩
  refine wpS_mono (LP C hp hk hz hi g) fun r st2 hr=>?_
  obtain⟨m,q,zs,rfl,hm,g',rfl|⟨rfl,rfl⟩⟩:=hr
  .exact ⟨m,q,zs,rfl,rfl,hm,g'⟩
  .exact ⟨q,zs,rfl,rfl,hm,g'⟩
 .rintro c st2 ⟨q,ys,rfl,rfl,hm,g⟩;exact⟨_,q,ys,rfl,rfl,hm,g⟩
 .rintro c st2 ⟨m,q,ys,rfl,rfl,hm,g⟩;have hsz:=g.b.size;have gp:=g.p;dsimp only
  by_cases cn:q>0
  .rw [if_pos cn];exact wpS_bind (sJ (Fu (st:=st) (ys:=mirror ys (lo+m-(q+1)) (lo+m) ((lo+m-(lo+m-(q+1))) / 2)) C hp hk hz h (by lia) hm (g.b.trans (lz (by lia) (by lia) (Sg _))) (oS (by lia) (by lia) (Sg _) g.e g.d)))
  .rw [if_neg cn];exact Fu C hp hk hz h (by lia) hm g.b g.d
theorem xR(C:nL prog w A s κ P lt) {lo nrem:Nat}{st:SortSt}{Q:Option Nat->SortSt->Prop}(hp:∀x,x∈arrOf st->P x) (hk:kindOf st=κ) (h1:1<=nrem) (hz:lo+nrem<=(arrOf st).size)
  (h:∀n xs,1<=n->n<=nrem->mK (arrOf st) xs lo (lo+n)->oE lt xs lo (lo+n)->Q (some n) (setArr st xs)):wpS (model prog w) A E s (countRun' lo nrem) Q st:=by
 rw[NW];refine wpS_bind (wpS_mono (yS C hp hk (Sg 1) h1 hz (Ja C hp lo)) ?_);rintro c st' ⟨n,rfl,rfl,n1,n2,sg1,brk⟩;dsimp only;have triv:Q (some n) st':=h n (arrOf st') n1 n2 (mK.refl _ _ _) sg1
 by_cases c1:n=nrem
 .rw [if_pos (by simp[c1])]
  exact wpS_pure triv
 rw[if_neg (by simpa using c1)]
 obtain⟨xb,yb,exb,eyb,eb⟩:=brk.resolve_left c1;obtain⟨m,rfl⟩:∃m,n=m+1:=⟨n-1,by lia⟩
 have pxb:=hp _ (aQq exb);have pyb:=hp _ (aQq eyb);have go:Ot lt (arrOf st') lo (lo+(m+1))->HS lt (arrOf st') lo (lo+(m+1+1)):=fun e1 =>
  zC C hp (fun p q x y g1 g2 g3 ex ey=>e1 p q x y g1 (by lia) (by lia) g3 ex ey) (fun x y hx hy=>by
   have hy':(arrOf st')[lo+(m+1)-1]?=some y:=hy;rw[exb]at hx;rw[eyb]at hy';cases hx;cases hy';exact C.asym _ _ pxb pyb eb) (by lia)
 by_cases c2:m+1>1
 .rw [if_pos c2];have ex:(arrOf st')[lo]?=some ((arrOf st')[lo]'(by lia)):=Sh (by lia)
  have pex:=hp _ (aQq ex);refine wpS_bind (C.at ex eyb pex pyb hk ?_);cases e:lt ((arrOf st')[lo]'(by lia)) yb with
  |true=>exact wpS_pure triv
  |false =>
   dsimp only;rw[if_neg (by decide)]
   have eqv:Ot lt (arrOf st') lo (lo+(m+1)):=by
    intro p q x y g1 g2 g3 g4 gx gy;have px:=hp _ (aQq gx);have py:=hp _ (aQq gy);have q1:=sg1 q (lo+(m+1)-1) _ _ g3 (by lia) (by lia) gy eyb
    have q2:=sg1 lo p _ _ (Sg _) g1 g2 ex gx;exact C.trans _ _ _ py pex px (C.trans _ _ _ py pyb pex q1 e) q2
   exact wpS_bind (sJ (Hg C hp hk hz h (by lia) (lz (by lia) (Sg _) (Sg _)) (oS (by lia) (Sg _) (by lia) eqv (go eqv))))
 .rw [if_neg c2];exact Hg C hp hk hz h (by lia) (mK.refl _ _ _) (go (sv C hp (by lia)))
end
section
variable {prog:Program}{w:World}{A:Around}{E:Value->Shared->Prop}{s:Shared}{κ:SortKind}{P:Keyed->Prop}{lt:Keyed->Keyed->Bool}
theorem Kb(C:nL prog w A s κ P lt) {xs:Array Keyed}(hp:∀x,x∈xs->P x) {lo k l:Nat}(hz:lo+k<xs.size) (hl:l<=k) (hs:oE lt xs lo (lo+k)) {x:Keyed}(hx:xs[lo+k]?=some x)
  (h1:∀j y,j<l->xs[lo+j]?=some y->lt x y=false) (h2:∀j y,l<=j->j<k->xs[lo+j]?=some y->lt x y=true):oE lt (bubble xs (lo+k) (k-l)) lo (lo+(k+1)):=by
 have px:=hp _ (aQq hx);have g:∀p,(bubble xs (lo+k) (k-l))[p]?=if p=lo+l then some x else if lo+l<p/\p<=lo+k then xs[p-1]? else xs[p]?:=fun p=>by
  rw[getElem?_bubble hz (k-l) (by lia) p,show lo+k-(k-l)=lo+l by lia,hx]
 intro p q u v a1 a2 a3 eu ev;rw[g]at eu ev
 by_cases cp:p=lo+l
 .rw [if_pos cp]at eu;cases eu
  by_cases cq:q=lo+l
  .rw [if_pos cq]at ev;cases ev;exact C.refl px
  .rw [if_neg cq,if_pos ⟨by lia,by lia⟩]at ev
   have pv:=hp _ (aQq ev);exact C.asym _ _ px pv (h2 (q-1-lo) v (by lia) (by lia) (by rw[show lo+(q-1-lo)=q-1 by lia];exact ev))
 .rw [if_neg cp]at eu
  by_cases cp2:lo+l<p/\p<=lo+k
  .rw [if_pos cp2]at eu;rw[if_neg (by lia),if_pos ⟨by lia,by lia⟩]at ev
   exact hs (p-1) (q-1) _ _ (by lia) (by lia) (by lia) eu ev
  .rw [if_neg cp2]at eu
   by_cases cq:q=lo+l
   .rw [if_pos cq]at ev;cases ev;exact h1 (p-lo) u (by lia) (by rw[show lo+(p-lo)=p by lia];exact eu)
   .rw [if_neg cq]at ev
    by_cases cq2:lo+l<q/\q<=lo+k
    .rw [if_pos cq2]at ev;exact hs p (q-1) _ _ a1 (by lia) (by lia) eu ev
    .rw [if_neg cq2]at ev;exact hs p q _ _ a1 a2 (by lia) eu ev
theorem A9{xs:Array Keyed}{lo k l n:Nat}(hz:lo+k<xs.size) (hl:l<=k) (hn:k<n):mK xs (bubble xs (lo+k) (k-l)) lo (lo+n) :=
 ⟨bubble_perm _ _ _,fun p hp=>by rw[getElem?_bubble hz (k-l) (by lia) p,if_neg (by lia),if_neg (by lia)]⟩
theorem Fy{src dst:Nat}{st:SortSt}{Q:Unit->SortSt->Prop}(h:Q () (setArr st (bubble (arrOf st) src (src-dst)))):wpS (model prog w) A E s (moveDown' src dst) Q st:=by
 rw[moveDown'_eq];exact wpS_modify h
theorem AJ(C:nL prog w A s κ P lt) {lo n ok:Nat}{st:SortSt}{Q:Bool->SortSt->Prop}(hp:∀x,x∈arrOf st->P x) (hk:kindOf st=κ) (h1:1<=ok) (h2:ok<=n) (hz:lo+n<=(arrOf st).size) (hs:oE lt (arrOf st) lo (lo+ok))
  (h:∀xs,mK (arrOf st) xs lo (lo+n)->oE lt xs lo (lo+n)->Q true (setArr st xs)):wpS (model prog w) A E s (binarySort' lo n ok) Q st:=by
 rw[binarySort'_eq];dsimp only;rw[Nat.max_eq_left h1];refine wpS_bind (wpS_mono (wpS_forRange (I:=fun k c st'=>∃ys,c=(none,())/\st'=setArr st ys/\mK (arrOf st) ys lo (lo+n)/\oE lt ys lo (lo+k)/\k<=n)
  (Q:=fun c st'=>∃ys,c=(none,())/\st'=setArr st ys/\mK (arrOf st) ys lo (lo+n)/\oE lt ys lo (lo+n)) ?step ?fin ⟨arrOf st,rfl,rfl,mK.refl _ _ _,hs,h2⟩) ?post)
 case fin =>
  rintro c st' ⟨ys,rfl,rfl,b1,s1,q⟩;have e:max ok n=n:=by lia
  rw[e]at s1;exact⟨ys,rfl,rfl,b1,s1⟩
 case post =>
  rintro c st' ⟨ys,rfl,rfl,b1,s1⟩;exact wpS_pure (h ys b1 s1)
 case step =>
  rintro k c st' hk1 hk2 ⟨ys,rfl,rfl,b1,s1,q⟩;have hpy:=b1.mem hp;have hsz:=b1.size;have ex:ys[lo+k]?=some (ys[lo+k]'(by lia)):=Sh (by lia)
  have px:=hpy _ (aQq ex);refine wpS_bind (wpS_mono (wpS_forRange (I:=fun i c st'=>∃l r,c=(none,l,r)/\st'=setArr st ys/\l<=r/\r<=k/\(∀j y,j<l->ys[lo+j]?=some y->lt (ys[lo+k]'(by lia)) y=false)/\(∀j y,r<=j->j<k->ys[lo+j]?=some y->lt (ys[lo+k]'(by lia)) y=true)/\(r-l)+i<=k)
   (Q:=fun c st'=>∃l r,c=(none,l,r)/\st'=setArr st ys/\l=r/\r<=k/\(∀j y,j<l->ys[lo+j]?=some y->lt (ys[lo+k]'(by lia)) y=false)/\(∀j y,r<=j->j<k->ys[lo+j]?=some y->lt (ys[lo+k]'(by lia)) y=true))
   ?step1 ?fin1 ⟨0,k,rfl,rfl,Tf _,Sg _,fun j y hj=>absurd hj (Uc _),fun j y g1 g2=>absurd g2 (by lia),by lia⟩) ?post1)
  case fin1 =>
   rintro c st' ⟨l,r,rfl,rfl,a1,a2,a3,a4,a5⟩;exact⟨l,r,rfl,rfl,by lia,a2,a3,a4⟩
  case step1 =>
   rintro i c st' _ hi ⟨l,r,rfl,rfl,a1,a2,a3,a4,a5⟩;dsimp only
   by_cases c1:l ≥ r
   .rw [if_pos c1];exact wpS_pure ⟨l,r,rfl,rfl,by lia,a2,a3,a4⟩
   rw[if_neg c1];have em:ys[lo+(l+r) / 2]?=some (ys[lo+(l+r) / 2]'(by lia)):=Sh (by lia)
   have pm:=hpy _ (aQq em);refine wpS_bind (C.at (st:=setArr st ys) ex em px pm hk ?_);cases e:lt (ys[lo+k]'(by lia)) (ys[lo+(l+r) / 2]'(by lia)) with
   |true =>
    dsimp only;rw[if_pos rfl];refine wpS_pure ⟨l,_,rfl,rfl,by lia,by lia,a3,fun j y g1 g2 ey=>?_,by lia⟩
    have py:=hpy _ (aQq ey);cases e':lt (ys[lo+k]'(by lia)) y with
    |true=>rfl
    |false =>
     have q1:=s1 (lo+(l+r) / 2) (lo+j) _ _ (by lia) (by lia) (by lia) em ey
     have q2:=C.trans _ _ _ pm py px q1 e';rw[e]at q2;cases q2
   |false =>
    dsimp only;rw[if_neg (by decide)]
    refine wpS_pure ⟨_,r,rfl,rfl,by lia,a2,fun j y g1 ey=>?_,a4,by lia⟩
    have py:=hpy _ (aQq ey);exact C.trans _ _ _ py pm px (s1 (lo+j) (lo+(l+r) / 2) _ _ (by lia) (by lia) (by lia) ey em) e
  case post1 =>
   rintro c st' ⟨l,r,rfl,rfl,rfl,a2,a3,a4⟩;dsimp only;refine wpS_bind (Fy (wpS_pure ?_));have e:lo+k-(lo+l)=k-l:=by lia
   show ∃ys',_/\setArr st (bubble ys (lo+k) (lo+k-(lo+l)))=setArr st ys'/\_;rw[e];exact⟨_,rfl,rfl,b1.trans (A9 (by lia) a2 hk2),Kb C hpy (by lia) a2 s1 ex a3 a4,hk2⟩
end
def eU(lt:Keyed->Keyed->Bool) (xs:Array Keyed):Nat->List (Nat×Nat×Nat)->Nat->Prop
 |s,[],e=>s=e
 |s,p::r,e=>p.1=s/\0<p.2.1/\oE lt xs s (s+p.2.1)/\eU lt xs (s+p.2.1) r e
theorem gg{lt:Keyed->Keyed->Bool}{xs:Array Keyed}:∀{q r:List (Nat×Nat×Nat)}{s e:Nat},eU lt xs s (q++r) e↔∃m,eU lt xs s q m/\eU lt xs m r e
 | [],r,s,e=>by
  constructor
  .intro h;exact⟨s,rfl,h⟩
  .rintro ⟨m,rfl,h⟩;exact h
 |p::q,r,s,e=>by
  constructor
  .rintro ⟨h1,h2,h3,h4⟩;obtain⟨m,a,b⟩:=gg.mp h4;exact⟨m,⟨h1,h2,h3,a⟩,b⟩
  .rintro ⟨m,⟨h1,h2,h3,a⟩,b⟩;exact⟨h1,h2,h3,gg.mpr ⟨m,a,b⟩⟩
theorem nK{lt:Keyed->Keyed->Bool}{xs:Array Keyed}:∀{q:List (Nat×Nat×Nat)}{s e:Nat},eU lt xs s q e->s+q.length<=e
 | [],s,e,h=>by have:s=e:=h;simp[this]
 |p::q,s,e,⟨_,h2,_,h4⟩=>by
  have:=nK h4;rw[lCq];lia
theorem jY{lt:Keyed->Keyed->Bool}{xs ys:Array Keyed}:∀{q:List (Nat×Nat×Nat)}{s e:Nat},(∀k,s<=k->k<e->ys[k]?=xs[k]?)->eU lt xs s q e->eU lt ys s q e
 | [],s,e,_,h=>h
 |p::q,s,e,g,⟨h1,h2,h3,h4⟩=>by
  have l:=nK h4;refine⟨h1,h2,fun a b x y a1 a2 a3 ex ey=>h3 a b x y a1 a2 a3 ?_ ?_,jY (fun k k1 k2=>g k (by lia) k2) h4⟩
  .rw [←g a a1 (by lia)];exact ex
  .rw [←g b (by lia) (by lia)];exact ey
theorem qi{lt:Keyed->Keyed->Bool}{xs:Array Keyed}:∀{q q':List (Nat×Nat×Nat)}{s e:Nat},q'.map (fun p=>(p.1,p.2.1))=q.map (fun p=>(p.1,p.2.1))->eU lt xs s q e->eU lt xs s q' e
 | [],q',s,e,g,h=>by
  have:q'=[]:=by simpa using g
  subst this;exact h
 |p::q,[],s,e,g,h=>by simp at g
 |p::q,p'::q',s,e,g,⟨h1,h2,h3,h4⟩=>by
  simp only[Sq,WQ.injEq,Prod.mk.injEq]at g;obtain⟨⟨g1,g2⟩,g3⟩:=g;rw[←g2]at h2 h3 h4;exact⟨g1.trans h1,h2,h3,qi g3 h4⟩
theorem vP(o:Nat):∀(M:List Keyed) (n:Nat) (xs:Array Keyed),o+n+M.length<=xs.size ->
  ((M.zipIdx n).foldl (fun a x=>a.setIfInBounds (o+x.2) x.1) xs).toList=xs.toList.take (o+n)++M++xs.toList.drop (o+n+M.length)
 | [],n,xs,h=>by simp
 |y::r,n,xs,h=>by
  rw[List.zipIdx_cons,Ug];rw[lCq]at h;rw[vP o r (n+1) _ (by rw[Array.size_setIfInBounds];lia),VU]
  have hl:o+n<xs.toList.length:=by rw[Sv];lia
  have e1:(xs.toList.set (o+n) y).take (o+(n+1))=xs.toList.take (o+n)++[y]:=by
   rw[←Vz,UJ,S6 hl,List.take_set_of_le (Sg _)];rfl
  have e2:(xs.toList.set (o+n) y).drop (o+(n+1)+r.length)=xs.toList.drop (o+n+(r.length+1)):=by
   rw[List.drop_set_of_lt (by lia)]
   congr 1;lia
  rw[e1,e2,lCq,Sk,Sk,Sk];rfl
section
variable {prog:Program}{w:World}{A:Around}{E:Value->Shared->Prop}{s:Shared}{κ:SortKind}{P:Keyed->Prop}{lt:Keyed->Keyed->Bool}
theorem CK(C:nL prog w A s κ P lt) {left:Bool}{key:Keyed}{arr:Array Keyed}{base n:Nat}(hb:base+n<=arr.size) (ha:∀x,x∈arr->P x) (hkey:P key) (so:oE lt arr base (base+n)) :
  ∀i j,i<=j->j<n->mj lt left key arr base j=true->mj lt left key arr base i=true:=by
 intro i j hij hj h;have ei:arr[base+i]?=some (arr[base+i]'(by lia)):=Sh (by lia)
 have ej:arr[base+j]?=some (arr[base+j]'(by lia)):=Sh (by lia)
 have pi:=ha _ (aQq ei);have pj:=ha _ (aQq ej);have le:=so (base+i) (base+j) _ _ (by lia) (by lia) (by lia) ei ej
 rw[fU ej]at h;rw[fU ei];cases left with
 |true =>
  rw[if_pos rfl]at h ⊢;cases q:lt (arr[base+i]'(by lia)) key with
  |true=>rfl
  |false =>
   have:=C.trans _ _ _ hkey pi pj q le;rw[h]at this;cases this
 |false =>
  rw[if_neg (by decide)]at h ⊢
  have h':lt key (arr[base+j]'(by lia))=false:=by simpa using h
  have:=C.trans _ _ _ pi pj hkey le h';simp[this]
theorem fP{a:Array Keyed}{i j:Nat}{x:Keyed}(h:x∈(a.extract i j).toList):∃k,i<=k/\k<j/\a[k]?=some x:=by
 rw[dw]at h;obtain⟨k,k1,k2,e⟩:=jw h;rw[T1]at e;exact⟨k,k1,k2,e⟩
theorem rH{a:Array Keyed}{i j:Nat}(h:oE lt a i j):kZ lt (a.extract i j).toList:=by
 rw[dw];refine Ul.mpr fun p q hp hq hpq=>?_
 rw[SE,lTq,Sv]at hp hq;have e:∀k (hk:k<((a.toList.take j).drop i).length),a[i+k]?=some ((a.toList.take j).drop i)[k]:=fun k hk=>by
  rw[SE,lTq,Sv]at hk;rw[Vq,VX,Tr];exact⟨by lia,by simp⟩
 exact h (i+p) (i+q) _ _ (by lia) (by lia) (by lia) (e p _) (e q _)
theorem zB(i:Nat):mergeAt' i=(do
 let s ←get
 let (some (sa,na,power),some (sb,nb,_)):=((pendingOf s)[i]?,(pendingOf s)[i+1]?)|unsupported "internal:list.sort.pending"
 set (setPending s (((pendingOf s).setIfInBounds i (sa,na+nb,power)).eraseIdxIfInBounds (i+1)))
 let some k ←jJ false (←elem' (arrOf s) sb) (arrOf s) sa na 0|return false
 let (sa,na):=(sa+k,na-k)
 if na == 0 then return true
 let some nb ←jJ true (←elem' (arrOf s) (sa+na-1)) (arrOf s) sb nb (nb-1)|return false
 if nb == 0 then return true
 let x:=(arrOf s).extract sa sb
 let y:=(arrOf s).extract sb (sb+nb)
 let merged ←if na<=nb then uD x y else sZ x y
 modify fun s=>setArr s (merged.toList.zipIdx.foldl (fun a (p,j)=>a.setIfInBounds (sa+j) p) (arrOf s))
 return (failedOf (←get)).isNone):=rfl
theorem Dl{st st':SortSt}{Q:PUnit->SortSt->Prop}(h:Q ⟨⟩ st'):wpS (model prog w) A E s (set st':StateT SortSt Sem PUnit) Q st:=by
 unfold wpS;rw[StateT.run_set];exact wpAny_pure ⟨rfl,h⟩
theorem Gn(C:nL prog w A s κ P lt) {xs zs M:Array Keyed}{sa na nb k l:Nat}(hp:∀x,x∈xs->P x) (hz:sa+na+nb<=xs.size) (hk:k<=na) (hl:l<=nb) (h1:oE lt xs sa (sa+na)) (h2:oE lt xs (sa+na) (sa+na+nb)) {key last:Keyed}
  (ek:xs[sa+na]?=some key) (el:xs[sa+na-1]?=some last)
  (k2:∀j y,j<k->xs[sa+j]?=some y->lt key y=false) (l3:∀j y,l<=j->j<nb->xs[sa+na+j]?=some y->lt y last=false) (hna:0<na) (hnb:0<nb)
  (m:HU lt (xs.extract (sa+k) (sa+na)) (xs.extract (sa+na) (sa+na+l)) M)
  (hzs:zs.toList=xs.toList.take (sa+k)++M.toList++xs.toList.drop (sa+k+M.toList.length)):mK xs zs sa (sa+na+nb)/\oE lt zs sa (sa+na+nb):=by
 have lM:M.toList.length=(na-k)+l:=by
  have:=m.pm.length_eq;simp only[lAq,Sv,Vj]at this ⊢;lia
 have hlx:xs.toList.length=xs.size:=Sv;have gz:∀p,zs[p]?=if p<sa+k then xs[p]? else if p<sa+na+l then M[p-(sa+k)]? else xs[p]?:=fun p=>by
  rw[←SJ,hzs]
  by_cases c1:p<sa+k
  .rw [if_pos c1,Sk,gZq (by rw[lTq];lia),UO c1,SJ]
  .rw [if_neg c1,Sk,gYq (by rw[lTq];lia),lTq,show min (sa+k) xs.toList.length=sa+k by lia]
   by_cases c2:p<sa+na+l
   .rw [if_pos c2,gZq (by lia),SJ]
   .rw [if_neg c2,gYq (by lia),U2,SJ]
    congr 1;lia
 have pk:=hp _ (aQq ek);have pl:=hp _ (aQq el);have from_:∀q v,M[q]?=some v->(∃j,k<=j/\j<na/\xs[sa+j]?=some v)∨∃j,j<l/\xs[sa+na+j]?=some v:=fun q v e=>by
  have hv:v∈M.toList:=by simpa using aQq e
  rcases mAq.mp (m.pm.mem_iff.mp hv) with hv|hv
  .obtain ⟨j,j1,j2,ej⟩:=fP hv;exact .inl ⟨j-sa,by lia,by lia,by rw[show sa+(j-sa)=j by lia];exact ej⟩
  .obtain ⟨j,j1,j2,ej⟩:=fP hv;exact .inr ⟨j-(sa+na),by lia,by rw[show sa+na+(j-(sa+na))=j by lia];exact ej⟩
 refine⟨⟨?_,fun p hp'=>?_⟩,?_⟩
 .rw [Array.perm_iff_toList_perm,hzs];have c:xs.toList=xs.toList.take (sa+k)++((xs.extract (sa+k) (sa+na)).toList++(xs.extract (sa+na) (sa+na+l)).toList)++xs.toList.drop (sa+k+M.toList.length):=by
   rw[dw,dw,lM];have a1:=pZ xs.toList (sa+k) (sa+na) (by lia)
   have a2:=pZ xs.toList (sa+na) (sa+na+l) (by lia)
   have a3:sa+k+(na-k+l)=sa+na+l:=by lia
   rw[a3,←Sk,←a1,←a2,Ta]
  conv=>rhs;rw[c]
  exact TN.append_right _ (TN.append_left _ m.pm)
 .rw [gz]
  by_cases c1:p<sa+k
  .rw [if_pos c1]
  .rw [if_neg c1,if_neg (by lia)]
 .intro p q x y a1 a2 a3 ex ey;rw[gz]at ex ey
  by_cases p1:p<sa+k
  .rw [if_pos p1]at ex;have px:=hp _ (aQq ex);have lx:lt key x=false:=k2 (p-sa) x (by lia) (by rw[show sa+(p-sa)=p by lia];exact ex)
   by_cases q1:q<sa+k
   .rw [if_pos q1]at ey;exact h1 p q _ _ a1 a2 (by lia) ex ey
   .rw [if_neg q1]at ey
    by_cases q2:q<sa+na+l
    .rw [if_pos q2]at ey;rcases from_ _ _ ey with ⟨j,j1,j2,ej⟩|⟨j,j1,ej⟩
     .exact h1 p (sa+j) _ _ a1 (by lia) (by lia) ex ej
     .exact C.trans _ _ _ px pk (hp _ (aQq ej)) lx (h2 (sa+na) (sa+na+j) _ _ (Sg _) (by lia) (by lia) ek ej)
    .rw [if_neg q2]at ey;exact C.trans _ _ _ px pk (hp _ (aQq ey)) lx (h2 (sa+na) q _ _ (Sg _) (by lia) (by lia) ek ey)
  .rw [if_neg p1]at ex;rw[if_neg (by lia)]at ey
   by_cases p2:p<sa+na+l
   .rw [if_pos p2]at ex
    by_cases q2:q<sa+na+l
    .rw [if_pos q2]at ey;rcases Vh a2 with c|c
     .have ex':M.toList[p-(sa+k)]?=some x:=by rw[SJ];exact ex
      have ey':M.toList[q-(sa+k)]?=some y:=by rw[SJ];exact ey
      obtain⟨hx,e1⟩:=gSq.mp ex';obtain⟨hy,e2⟩:=gSq.mp ey';have:=Ul.mp m.so (p-(sa+k)) (q-(sa+k)) hx hy (by lia)
      rw[e1,e2]at this;exact this
     .subst c;rw[ex]at ey;cases ey;rcases from_ _ _ ex with ⟨j,j1,j2,ej⟩|⟨j,j1,ej⟩
      .exact C.refl (hp _ (aQq ej))
      .exact C.refl (hp _ (aQq ej))
    .rw [if_neg q2]at ey;have py:=hp _ (aQq ey);rcases from_ _ _ ex with ⟨j,j1,j2,ej⟩|⟨j,j1,ej⟩
     .exact C.trans _ _ _ (hp _ (aQq ej)) pl py (h1 (sa+j) (sa+na-1) _ _ (by lia) (by lia) (by lia) ej el) (l3 (q-(sa+na)) y (by lia) (by lia) (by rw[show sa+na+(q-(sa+na))=q by lia];exact ey))
     .exact h2 (sa+na+j) q _ _ (by lia) (by lia) (by lia) ej ey
   .rw [if_neg p2]at ex;rw[if_neg (by lia)]at ey
    exact h2 p q _ _ (by lia) a2 (by lia) ex ey
end
section
variable {prog:Program}{w:World}{A:Around}{E:Value->Shared->Prop}{s:Shared}{κ:SortKind}{P:Keyed->Prop}{lt:Keyed->Keyed->Bool}
theorem ES{α:Type}{l:List α}{i:Nat}{a b:α}(h1:l[i]?=some a) (h2:l[i+1]?=some b):l=l.take i++a::b::l.drop (i+2):=by
 obtain⟨h3,e3⟩:=gSq.mp h1;obtain⟨h4,e4⟩:=gSq.mp h2
 conv=>lhs;rw[←Ta i l]
 rw[SW h3,SW h4,e3,e4]
theorem Ej{α:Type}{q r:List α}{a b c:α}:((q++a::b::r).set q.length c).eraseIdx (q.length+1)=q++c::r:=by
 rw[Wl _ _ (Sg _),T2,U3,List.eraseIdx_append_of_length_le (by lia),V9]
 rfl
theorem rG(C:nL prog w A s κ P lt) {i lo:Nat}{st:SortSt}{Q:Bool->SortSt->Prop}(hp:∀x,x∈arrOf st->P x) (hk:kindOf st=κ) (hf:failedOf st=none) (hlo:lo<=(arrOf st).size) (hch:eU lt (arrOf st) 0 (pendingOf st).toList lo)
  (hi:i+1<(pendingOf st).size) (h:∀xs p g,mK (arrOf st) xs 0 lo->p.size+1=(pendingOf st).size->eU lt xs 0 p.toList lo->Q true (SortSt.mk' κ xs p g none)):wpS (model prog w) A E s (mergeAt' i) Q st:=by
 obtain⟨κ',arr,pend,g0,fl⟩:=st;have hk:κ'=κ:=hk;have hf:fl=none:=hf;subst hk hf;have hp:∀x,x∈arr->P x:=hp;have hlo:lo<=arr.size:=hlo;have hch:eU lt arr 0 pend.toList lo:=hch;have hi:i+1<pend.size:=hi;have e1:pend[i]?=some (pend[i]'(by lia)):=Sh (by lia)
 have e2:pend[i+1]?=some (pend[i+1]'(by lia)):=Sh (by lia)
 generalize pend[i]'(by lia)=a at e1
 generalize pend[i+1]'(by lia)=b at e2
 obtain⟨sa,na,pa⟩:=a;obtain⟨sb,nb,pb⟩:=b;have e1':pend.toList[i]?=some (sa,na,pa):=by rw[SJ];exact e1
 have e2':pend.toList[i+1]?=some (sb,nb,pb):=by rw[SJ];exact e2
 have ep:=ES e1' e2';have lq:(pend.toList.take i).length=i:=by rw[lTq,Sv];lia
 generalize pend.toList.take i=q at ep lq;generalize pend.toList.drop (i+2)=r at ep;rw[ep]at hch;obtain⟨m0,c1,c2⟩:=gg.mp hch;obtain⟨x1,x2,x3,x4,x5,x6,x7⟩:=c2;have d1:sa=m0:=x1;have d2:0<na:=x2;have d3:oE lt arr m0 (m0+na):=x3;have f1:sb=m0+na:=x4;have f2:0<nb:=x5;have f3:oE lt arr (m0+na) (m0+na+nb):=x6;have f4:eU lt arr (m0+na+nb) r lo:=x7
 clear x1 x2 x3 x4 x5 x6 x7
 subst d1 f1;have hrl:sa+na+nb+r.length<=lo:=nK f4;have hql:0+q.length<=sa:=nK c1;have hz:sa+na+nb<=arr.size:=by lia
 have np:((pend.setIfInBounds i (sa,na+nb,pa)).eraseIdxIfInBounds (i+1)).toList=q++(sa,na+nb,pa)::r:=by
  rw[Array.toList_eraseIdxIfInBounds,VU,ep,←lq];exact Ej
 have ns:((pend.setIfInBounds i (sa,na+nb,pa)).eraseIdxIfInBounds (i+1)).size+1=pend.size:=by
  rw[←Sv,np,←Sv,ep];simp only[lAq,lCq];lia
 have fin:∀zs g,mK arr zs sa (sa+na+nb)->oE lt zs sa (sa+na+nb)->Q true (SortSt.mk' κ' zs ((pend.setIfInBounds i (sa,na+nb,pa)).eraseIdxIfInBounds (i+1)) g none):=fun zs g b1 s1=>by
  refine h zs _ g ⟨b1.pm,fun k hk=>b1.out k (by lia)⟩ ns ?_
  rw[np];refine gg.mpr ⟨sa,jY (fun k _ k2=>b1.out k (.inl k2)) c1,rfl,by show 0<na+nb;lia,?_,?_⟩
  .show oE lt zs sa (sa+(na+nb));rw[←Vz];exact s1
  .show eU lt zs (sa+(na+nb)) r lo;rw[←Vz];exact jY (fun k k1 _=>b1.out k (.inr k1)) f4
 rw[zB];refine wpS_bind (wpS_get ?_);dsimp only;rw[e1,e2];dsimp only;refine wpS_bind (Dl ?_);have ek:arr[sa+na]?=some (arr[sa+na]'(by lia)):=Sh (by lia)
 have el:arr[sa+na-1]?=some (arr[sa+na-1]'(by lia)):=Sh (by lia)
 have pk:=hp _ (aQq ek);have pl:=hp _ (aQq el);refine wpS_bind (bI ek ?_);refine wpS_bind (hV C d2 (by lia) hp pk rfl (CK C (by lia) hp pk d3) fun k k1 k2 k3=>?_)
 dsimp only;have kl:∀j y,j<k->arr[sa+j]?=some y->lt (arr[sa+na]'(by lia)) y=false:=fun j y hj ey=>by
  have:=k2 j hj;rw[fU ey,if_neg (by decide)]at this
  simpa using this
 have kh:∀j y,k<=j->j<na->arr[sa+j]?=some y->lt (arr[sa+na]'(by lia)) y=true:=fun j y h1 h2 ey=>by
  have:=k3 j h1 h2;rw[fU ey,if_neg (by decide)]at this
  simpa using this
 by_cases c1':na-k=0
 .rw [if_pos (by simp[c1'])]
  refine wpS_pure (fin arr g0 (mK.refl _ _ _) fun p q x y a1 a2 a3 ex ey=>?_)
  have px:=hp _ (aQq ex);have py:=hp _ (aQq ey)
  by_cases q1:q<sa+na
  .exact d3 p q _ _ a1 a2 q1 ex ey
  .by_cases p1:p<sa+na
   .exact C.trans _ _ _ px pk py (kl (p-sa) x (by lia) (by rw[show sa+(p-sa)=p by lia];exact ex)) (f3 (sa+na) q _ _ (Sg _) (by lia) a3 ek ey)
   .exact f3 p q _ _ (by lia) a2 a3 ex ey
 rw[if_neg (by simpa using c1')]
 have ea:sa+k+(na-k)-1=sa+na-1:=by lia
 rw[ea];refine wpS_bind (bI el ?_);refine wpS_bind (hV C (by lia) (by lia) hp pl rfl (CK C (by lia) hp pl f3) fun l l1 l2 l3=>?_)
 dsimp only;have ll:∀j y,j<l->arr[sa+na+j]?=some y->lt y (arr[sa+na-1]'(by lia))=true:=fun j y hj ey=>by
  have:=l2 j hj;rw[fU ey,if_pos rfl]at this;exact this
 have lh:∀j y,l<=j->j<nb->arr[sa+na+j]?=some y->lt y (arr[sa+na-1]'(by lia))=false:=fun j y h1 h2 ey=>by
  have:=l3 j h1 h2;rw[fU ey,if_pos rfl]at this;exact this
 by_cases c2':l=0
 .rw [if_pos (by simp[c2'])]
  refine wpS_pure (fin arr g0 (mK.refl _ _ _) fun p q x y a1 a2 a3 ex ey=>?_)
  have px:=hp _ (aQq ex);have py:=hp _ (aQq ey)
  by_cases q1:q<sa+na
  .exact d3 p q _ _ a1 a2 q1 ex ey
  .by_cases p1:p<sa+na
   .exact C.trans _ _ _ px pl py (d3 p (sa+na-1) _ _ a1 (by lia) (by lia) ex el) (lh (q-(sa+na)) y (by lia) (by lia) (by rw[show sa+na+(q-(sa+na))=q by lia];exact ey))
   .exact f3 p q _ _ (by lia) a2 a3 ex ey
 rw[if_neg (by simpa using c2')]
 have sx:kZ lt (arr.extract (sa+k) (sa+na)).toList:=rH fun p q x y a1 a2 a3 ex ey=>d3 p q x y (by lia) a2 a3 ex ey
 have sy:kZ lt (arr.extract (sa+na) (sa+na+l)).toList:=rH fun p q x y a1 a2 a3 ex ey=>f3 p q x y a1 a2 (by lia) ex ey
 have hx:∀x,x∈arr.extract (sa+k) (sa+na)->P x:=fun x hx=>by
  obtain⟨j,_,_,e⟩:=fP (Wu.mpr hx);exact hp _ (aQq e)
 have hy:∀x,x∈arr.extract (sa+na) (sa+na+l)->P x:=fun x hx=>by
  obtain⟨j,_,_,e⟩:=fP (Wu.mpr hx);exact hp _ (aQq e)
 have zx:(arr.extract (sa+k) (sa+na)).size=na-k:=by rw[Vj];lia
 have zy:(arr.extract (sa+na) (sa+na+l)).size=l:=by rw[Vj];lia
 have g0':(arr.extract (sa+na) (sa+na+l))[0]?=some (arr[sa+na]'(by lia)):=by
  rw[Wi,if_pos (by lia),WK]
  exact ek
 have gl':(arr.extract (sa+k) (sa+na))[na-k-1]?=some (arr[sa+na-1]'(by lia)):=by
  rw[Wi,if_pos (by lia),show sa+k+(na-k-1)=sa+na-1 by lia]
  exact el
 have low:∀y∈(arr.extract (sa+k) (sa+na)).toList,lt y (arr[sa+na]'(by lia))=false:=fun y hy=>by
  obtain⟨j,j1,j2,ej⟩:=fP hy;exact C.asym _ _ pk (hp _ (aQq ej)) (kh (j-sa) y (by lia) (by lia) (by rw[show sa+(j-sa)=j by lia];exact ej))
 have high:∀x∈(arr.extract (sa+na) (sa+na+l)).toList,lt (arr[sa+na-1]'(by lia)) x=false:=fun x hx=>by
  obtain⟨j,j1,j2,ej⟩:=fP hx;exact C.asym _ _ (hp _ (aQq ej)) pl (ll (j-(sa+na)) x (by lia) (by rw[show sa+na+(j-(sa+na))=j by lia];exact ej))
 have done:∀M g,HU lt (arr.extract (sa+k) (sa+na)) (arr.extract (sa+na) (sa+na+l)) M ->
   Q true (SortSt.mk' κ' (M.toList.zipIdx.foldl (fun a x=>a.setIfInBounds (sa+k+x.snd) x.fst) arr) ((pend.setIfInBounds i (sa,na+nb,pa)).eraseIdxIfInBounds (i+1)) g none):=fun M g mg=>by
  have lM:M.toList.length=(na-k)+l:=by
   have:=mg.pm.length_eq;simp only[lAq,Sv,Vj]at this ⊢;lia
  have wb:=vP (sa+k) M.toList 0 arr (by lia)
  obtain⟨b1,s1⟩:=Gn C hp hz k1 l1 d3 f3 ek el kl lh d2 f2 mg wb;exact fin _ g b1 s1
 by_cases c3:na-k<=l
 .rw [if_pos c3];refine wpS_bind (yV (κ:=κ') (a:=arr.extract (sa+k) (sa+na)) (b:=arr.extract (sa+na) (sa+na+l)) C hx hy rfl sx sy (by rw[zx];lia) (by rw[zy];lia) (fun x ex y hy=>?_) (fun j hj x hx y hy=>?_) fun M g mg=>?_)
  .rw [g0']at ex;cases ex;exact low y hy
  .have hj':j=na-k-1:=by lia
   subst hj';have:y=arr[sa+na-1]'(by lia):=by
    obtain⟨t,t1,t2⟩:=mW hy;rw[zx]at t1;have t0:t=0:=by lia
    subst t0;rw[WK,gl']at t2;exact(Sz.inj t2).symm
   rw[this];exact high x hx
  .refine wpS_bind (wpS_modify ?_);refine wpS_bind (wpS_get ?_);exact wpS_pure (done M g mg)
 .rw [if_neg c3];refine wpS_bind (zM (κ:=κ') (a:=arr.extract (sa+k) (sa+na)) (b:=arr.extract (sa+na) (sa+na+l)) C hx hy rfl sx sy (by rw[zx];lia) (by rw[zy];lia) (fun x hx y hy=>?_) (fun x ex y hy=>?_) fun M g mg=>?_)
  .have:x=arr[sa+na]'(by lia):=by
    obtain⟨t,t1,t2⟩:=nH hx;have t0:t=0:=by lia
    subst t0;rw[T1,g0']at t2;exact(Sz.inj t2).symm
   rw[this];exact low y hy
  .rw [zx,gl']at ex;cases ex;exact high y hy
  .refine wpS_bind (wpS_modify ?_);refine wpS_bind (wpS_get ?_);exact wpS_pure (done M g mg)
end
section
variable {prog:Program}{w:World}{A:Around}{E:Value->Shared->Prop}{s:Shared}{κ:SortKind}{P:Keyed->Prop}{lt:Keyed->Keyed->Bool}
noncomputable abbrev mB(κ:SortKind) (xs:Array Keyed) (p:Array (Nat×Nat×Nat)) (g:Nat):SortSt:=SortSt.mk' κ xs p g none
theorem vb{xs:Array Keyed}{p:Array (Nat×Nat×Nat)}{lo n:Nat}(h:eU lt xs 0 p.toList lo) (hn:0<n) (hs:oE lt xs lo (lo+n)):eU lt xs 0 (p.push (lo,n,0)).toList (lo+n):=by
 rw[Va];exact gg.mpr ⟨lo,h,rfl,hn,hs,rfl⟩
theorem vn(p:Array (Nat×Nat×Nat)) (i pw:Nat):(p.modify i fun x=>(x.fst,x.2.fst,pw)).toList.map (fun p=>(p.1,p.2.1))=p.toList.map (fun p=>(p.1,p.2.1)):=by
 apply Uw;intro k;rw[gMq,gMq,SJ,SJ,Array.getElem?_modify];split
 .cases p[k]? <;> rfl
 .rfl
theorem wW(C:nL prog w A s κ P lt) {arr:Array Keyed}{g:Nat}{Q:Unit->SortSt->Prop}(hp:∀x,x∈arr->P x) (h2:2<=arr.size)
    (h:∀xs p g',xs.Perm arr->oE lt xs 0 arr.size->Q () (mB κ xs p g')):wpS (model prog w) A E s sortRuns' Q (mB κ arr #[] g):=by
  rw[sortRuns'_eq];refine wpS_bind (wpS_get ?_);dsimp only;have e0:arrOf (mB κ arr #[] g)=arr:=rfl;rw[e0];generalize minRun' arr.size arr.size 0=mr;refine wpS_bind (wpS_mono (wpS_forRange
    (I:=fun i c st'=>∃lo xs p g',c=(none,lo)/\st'=mB κ xs p g'/\xs.Perm arr/\lo<=arr.size/\eU lt xs 0 p.toList lo/\i<=lo)
    (Q:=fun c st'=>∃xs p g',c=(none,arr.size)/\st'=mB κ xs p g'/\xs.Perm arr/\eU lt xs 0 p.toList arr.size)
    ?step ?fin ⟨0,arr,#[],g,rfl,rfl,W5.refl _,Tf _,rfl,Sg _⟩) ?post)
  case fin =>
    rintro c st' ⟨lo,xs,p,g',rfl,rfl,q1,q2,q3,q4⟩;have e:lo=arr.size:=by lia
    subst e;exact⟨xs,p,g',rfl,rfl,q1,q3⟩
  case step =>
    rintro i c st' _ hi ⟨lo,xs,p,g',rfl,rfl,q1,q2,q3,q4⟩;dsimp only;have hpx:∀x,x∈xs->P x:=fun x hx=>hp x (q1.mem_iff.mp hx)
    have hzx:xs.size=arr.size:=q1.size_eq
    by_cases c1:lo ≥ arr.size
    . rw[if_pos c1]
      have e:lo=arr.size:=by lia
      subst e;exact wpS_pure ⟨xs,p,g',rfl,rfl,q1,q3⟩
    rw[if_neg c1];refine wpS_bind (xR (st:=mB κ xs p g') C hpx rfl (by lia) (by show lo+(arr.size-lo)<=xs.size;lia) fun n ys n1 n2 b1 s1=>?_)
    dsimp only;have hb:mK xs ys lo (lo+n):=b1;show wpS _ _ _ _ _ _ (mB κ ys p g')
    by_cases c2:n<mr
    all_goals
      first
        | (rw[if_pos c2]
           refine wpS_bind (kR ?_);refine wpS_bind (AJ (st:=mB κ ys p g') (n:=min (arr.size-lo) mr) C (hb.mem hpx) rfl n1 (by lia) (by show lo+min (arr.size-lo) mr<=ys.size;have:=hb.size;lia) s1 fun zs b2 s2=>?_)
           rw[if_neg (by decide)]
           have hb2:mK xs zs lo (lo+min (arr.size-lo) mr):=(hb.mono (by lia)).trans b2
           have nn:1<=min (arr.size-lo) mr:=by lia
           have nl:lo+min (arr.size-lo) mr<=arr.size:=by lia
           show wpS _ _ _ _ _ _ (mB κ zs p g')
           clear b1 s1 hb b2
           generalize min (arr.size-lo) mr=nN at hb2 nn nl s2 ⊢)
        | (rw[if_neg c2]
           have hb2:=hb;have s2:=s1;have nn:=n1;have nl:lo+n<=arr.size:=by lia
           clear b1 s1 hb
           generalize hnN:n=nN at hb2 nn nl s2 ⊢;generalize hzs:ys=zs at hb2 s2 ⊢)
      have hpz:=hb2.mem hpx;have hzz:=hb2.size;have hcz:eU lt zs 0 p.toList lo:=jY (fun k _ k2=>hb2.out k (.inl k2)) q3
      have pz:zs.Perm arr:=hb2.pm.trans q1;refine wpS_bind (wpS_get ?_);have ep:pendingOf (mB κ zs p g')=p:=rfl;rw[ep];cases eb:p.back? with
      |none =>
        dsimp only;refine wpS_bind (wpS_modify (wpS_pure ?_));exact⟨lo+nN,zs,p.push (lo,nN,0),g',rfl,rfl,pz,nl,vb hcz nn s2,by lia⟩
      |some t =>
        obtain⟨s1',n1',pw0⟩:=t;dsimp only;refine wpS_bind (wpS_mono (wpS_forRange
          (I:=fun i c st'=>∃ys q g2,c=(none,())/\st'=mB κ ys q g2/\mK zs ys 0 lo/\eU lt ys 0 q.toList lo)
          (Q:=fun c st'=>∃ys q g2,c=(none,())/\st'=mB κ ys q g2/\mK zs ys 0 lo/\eU lt ys 0 q.toList lo)
          ?step1 (fun c st' hh=>hh) ⟨zs,p,g',rfl,rfl,mK.refl _ _ _,hcz⟩) ?post1)
        case step1 =>
          rintro j c st' _ hj ⟨ys2,q,g2,rfl,rfl,b3,ch3⟩;refine wpS_bind (wpS_get ?_);have eq:pendingOf (mB κ ys2 q g2)=q:=rfl;rw[eq]
          by_cases d1:q.size>1
          . rw[if_pos d1]
            have eo:q[q.size-2]?=some (q[q.size-2]'(by lia)):=Sh (by lia)
            rw[eo];generalize q[q.size-2]'(by lia)=o
            obtain⟨o1,o2,older⟩:=o;dsimp only;split
            . exact wpS_pure ⟨ys2,q,g2,rfl,rfl,b3,ch3⟩
            . refine wpS_bind (rG (st:=mB κ ys2 q g2) C (b3.mem hpz) rfl rfl (by show lo<=ys2.size;have:=b3.size;lia) ch3 (by show q.size-2+1<q.size;lia) fun xs3 p3 g3 b4 _ ch4=>?_)
              rw[if_neg (by decide)]
              exact wpS_pure ⟨xs3,p3,g3,rfl,rfl,b3.trans b4,ch4⟩
          . rw[if_neg d1]
            exact wpS_pure ⟨ys2,q,g2,rfl,rfl,b3,ch3⟩
        case post1 =>
          rintro c st' ⟨ys2,q,g2,rfl,rfl,b3,ch3⟩;dsimp only;refine wpS_bind (wpS_modify (wpS_bind (wpS_modify (wpS_pure ?_))));have s3:oE lt ys2 lo (lo+nN):=fun a b x y a1 a2 a3 ex ey=>s2 a b x y a1 a2 a3 (by rw[←b3.out a (.inr a1)];exact ex) (by rw[←b3.out b (.inr (by lia))];exact ey)
          exact⟨lo+nN,ys2,_,g2,rfl,rfl,b3.pm.trans pz,nl,vb (qi (vn q _ _) ch3) nn s3,by lia⟩
  case post =>
    rintro c st' ⟨xs,p,g',rfl,rfl,q1,q3⟩;dsimp only;refine wpS_bind (wpS_mono (wpS_forRange
      (I:=fun i c st'=>∃ys q g2,c=(none,())/\st'=mB κ ys q g2/\ys.Perm arr/\eU lt ys 0 q.toList arr.size/\q.size+i<=arr.size)
      (Q:=fun c st'=>∃ys q g2,c=(none,())/\st'=mB κ ys q g2/\ys.Perm arr/\eU lt ys 0 q.toList arr.size/\q.size<=1)
      ?step2 ?fin2 ⟨xs,p,g',rfl,rfl,q1,q3,by have:=nK q3;rw[Sv]at this;lia⟩) ?post2)
    case fin2 =>
      rintro c st' ⟨ys,q,g2,rfl,rfl,r1,r2,r3⟩;exact⟨ys,q,g2,rfl,rfl,r1,r2,by lia⟩
    case step2 =>
      rintro j c st' _ hj ⟨ys,q,g2,rfl,rfl,r1,r2,r3⟩;refine wpS_bind (wpS_get ?_);have eq:pendingOf (mB κ ys q g2)=q:=rfl;rw[eq]
      by_cases d1:q.size<=1
      . rw[if_pos d1]
        exact wpS_pure ⟨ys,q,g2,rfl,rfl,r1,r2,d1⟩
      rw[if_neg d1];have hi':∀(b:Prop) [Decidable b],(if b then q.size-2-1 else q.size-2)+1<q.size:=fun b _=>by split <;> lia
      refine wpS_bind (rG (st:=mB κ ys q g2) C (fun x hx=>hp x (r1.mem_iff.mp hx)) rfl rfl (by show arr.size<=ys.size;have:=r1.size_eq;lia) r2 (hi' _) fun xs3 p3 g3 b4 ns ch4=>?_)
      rw[if_neg (by decide)]
      have ns':p3.size+1=q.size:=ns;exact wpS_pure ⟨xs3,p3,g3,rfl,rfl,b4.pm.trans r1,ch4,by lia⟩
    case post2 =>
      rintro c st' ⟨ys,q,g2,rfl,rfl,r1,r2,r3⟩;refine wpS_pure (h ys q g2 r1 ?_);rw[←Sv]at r3;cases eq:q.toList with
      |nil =>
        rw[eq]at r2;have r2':0=arr.size:=r2;lia
      |cons a r =>
        rw[eq]at r2 r3;have er:r=[]:=by
          rw[lCq]at r3;exact TQ.mp (by lia)
        subst er;obtain⟨_,_,s3,e3⟩:=r2;have e3':0+a.2.1=arr.size:=e3;rw[e3']at s3;exact s3
end
end MrS
namespace Xe
open PySem
noncomputable abbrev PD:List Value:=[.type "ValueError", .type "Exception", .type "BaseException", .type "object"]
end Xe
namespace Xe
open PySem
open Builtin Builtin.ObjectAttr
end Xe
namespace Mr
abbrev St:=L2.St
open PySem PySem.Spec PyProof.Rows L2
section
variable {X:Cx}{ab:List (Addr×Obj)}{σ:List (Option V)}{H H':Hp}{s:Shared}{h':Heap}
theorem yd{t':Nat}{fp:List Addr}{T:Addr}{o:HO}(I:Inv X ab σ H s) (k:∀b u,b∉fp->s.heap.get? b=some u->h'.get? b=some u)
  (hf:∀b∈fp,rP X ab H b) (hT:s.heap.objs.size<=T) (new:dA X.prog X.w (cW H T o) h' T o):Inv X ab σ (cW H T o) { s with heap:=h',toks:=t' }:=by
 have hn:H T=none:=I.hok.fresh hT;have nf:∀b u,H b=some u->b∉fp:=fun b u e z=>by rw[(hf b z).1]at e;cases e
 refine I.step (g':=s.gens) (d':=s.drawn) (ch:=fp) (fun b hb=>?_) (fun b u _ _ hc e _=>k b u hc e) (fun b u _ _ hc e _=>⟨u.slots,k b u hc e⟩)
  (fun b u _ e n=>by rw[aL (SU (S7 (Sl e) hT))];exact n) (fun b u hc e=>⟨u,k b u hc e⟩)
  (fun b xs e=>by rw[aL (df e hn)];exact e) (fun b u xs e=>by rw[aL (df e hn)];exact e) (fun b ps e=>⟨#[],by rw[aL (df e hn),e];simp⟩) (fun m hm=>?_) (fun b u e=>?_) I.bare
 .obtain ⟨_,f1,_,f3,f4,f5⟩:=hf b hb;exact⟨f3,f1,f4,f5⟩
 .obtain ⟨u,es,ep,ho,r⟩:=hm;exact⟨u,es,ep,k _ u (fun z=>(hf _ z).2.1 rfl) ho,r⟩
 .by_cases hb:b=T
  .subst hb;rw[aR]at e;cases e;exact new
  .rw [aL hb]at e;refine(I.hok b u e).stay (fun c v hc q=>k c v ?_ q) (fun c q=>by rw[aL (df q hn)];exact q) fun c xs q=>by rw[aL (df q hn)];exact q
   rcases hc with rfl|hc
   .exact nf _ u e
   .exact nf c _ hc
theorem BQ{t':Nat}{fp:List Addr}(I:Inv X ab σ H s) (k:∀b u,b∉fp->s.heap.get? b=some u->h'.get? b=some u)
  (hf:∀b∈fp,rP X ab H b):Inv X ab σ H { s with heap:=h',toks:=t' }:=by
 have nf:∀b u,H b=some u->b∉fp:=fun b u e z=>by rw[(hf b z).1]at e;cases e
 refine I.step (g':=s.gens) (d':=s.drawn) (ch:=fp) (fun b hb=>?_) (fun b u _ _ hc e _=>k b u hc e) (fun b u _ _ hc e _=>⟨u.slots,k b u hc e⟩)
  (fun _ _ _ _ n=>n) (fun b u hc e=>⟨u,k b u hc e⟩) (fun _ _ e=>e) (fun _ _ _ e=>e) (fun b ps e=>⟨#[],by rw[e];simp⟩) (fun m hm=>?_) (fun b u e=>?_) I.bare
 .obtain ⟨_,f1,_,f3,f4,f5⟩:=hf b hb;exact⟨f3,f1,f4,f5⟩
 .obtain ⟨u,es,ep,ho,r⟩:=hm;exact⟨u,es,ep,k _ u (fun z=>(hf _ z).2.1 rfl) ho,r⟩
 .refine (I.hok b u e).stay (fun c v hc q=>k c v ?_ q) (fun _ q=>q) fun _ _ q=>q
  rcases hc with rfl|hc
  .exact nf _ u e
  .exact nf c _ hc
theorem wH{a b:Addr}{xs:List V}(I:Inv X ab σ H s) (h:dP X.K H a xs) (f:rP X ab H b):a≠b:=by
 intro e;subst e;obtain⟨f0,_,_,f3,_⟩:=f;rcases h with (h|⟨o,h⟩)|⟨o,its,n,hk,_⟩
 .rw [f0]at h;cases h
 .rw [f0]at h;cases h
 .have hb:=I.mod.kin a o hk;rcases f3 with z|z
  .exact I.ok.noex a o hb z
  .exact absurd (S7 (Sl (I.ok.bs a o hb).1) z) (UG _)
end
def Oy(K:W.Frag) (a:Addr):It :=
  ⟨fun i H=>∃xs x,dP K H a xs/\xs[i]?=some x,
   fun i H v H'=>∃T x,H T=none/\v = .ref T/\H'=cW H T (.tup [.int i,x])/\∀xs,dP K H a xs->xs[i]?=some x,
   fun i H=>∃xs,dP K H a xs/\xs.length<=i⟩
theorem DB{P:Program}{w:World}{K:W.Frag}{elts:List Expr}{k:Nat}{pos:Pos}(a e it:Addr) (hne:e≠it) :
  Ag P w K (.Tuple elts k pos) (Oy K a) [e,it] e (fun i h=>(∃old,IsEnum h e it i old)/\h.IsListIter it a i) where
 mem:=by simp
 obj:=fun i h st b hb=>by
  obtain⟨⟨old,he⟩,o,ho,_,d⟩:=st;rcases Si.mp hb with rfl|hb
  .exact ⟨_,he,fun v z=>by
    have z':Data.fields _=Data.cell v:=z;cases z'⟩
  .have e:b=it:=by simpa using hb
   subst e;exact⟨o,ho,fun v z=>by rw[d]at z;cases z⟩
 keep:=fun i h h' st kp=>by
  obtain⟨⟨old,he⟩,hit⟩:=st;exact⟨⟨old,kp e (by simp) _ he⟩,hit.at fun o q=>kp it (by simp) o q⟩
 item:=by
  intro X hP hw hK hc i ab s σ H E I hf st hg;subst hP hw hK;obtain⟨xs,x,hq,hx⟩:=hg;obtain⟨its,rv,p,hz⟩:=I.list hq;obtain⟨u,hu,ru⟩:=rv.get hx;obtain⟨⟨old,he⟩,hit⟩:=st;have hil:it<s.heap.objs.size:=by obtain⟨_,q,_⟩:=hit;exact Sl q
  have hel:e<s.heap.objs.size:=Sl he;refine wpAny_pyNext_enum_item he hit p.isList (x:=u) (by simpa using hu) hne fun h1 he1 hit1 ht1 hz1 hk1=>⟨_,rfl,?_⟩
  refine wpAny_letOwnedTupleGo_enum he1 fun h2 he2 hs2=>?_
  replace hs2:VM e h1 h2:=hs2;have hn:H s.heap.objs.size=none:=I.hok.fresh (Sg _);refine⟨.ref s.heap.objs.size,cW H s.heap.objs.size (.tup [.int i,x]),?_,rfl,⟨_,x,hn,rfl,rfl,fun ys hy=>by rw[I.list_inj hy hq];exact hx⟩,⟨⟨_,by simpa using he2⟩,hit1.extBut hs2.extBut (Ne.symm hne)⟩,fun b hb=>?_⟩
  .show L2.Inv X ab σ _ { s with heap:=h2,toks:=s.toks+1 }
   refine yd (s:=s) (fp:=[e,it]) I (fun b o hb q=>?_) hf (Sg _) ⟨by simp only[lCq,T4];rw[sizeLine_eq];decide,[.int i s.toks,u],.cons ⟨_,rfl⟩ (.cons ru .nil),_,hs2.extBut _ _ (UY hel) ht1,rfl,_,rfl⟩
   have b1:b≠e:=fun z=>hb (by simp[z])
   exact hs2.extBut b o b1 (hk1 b o b1 (fun z=>hb (by simp[z])) q)
  .have hb2:b<s.heap.objs.size:=by
    rcases Si.mp hb with rfl|hb
    .exact hel
    .have e:b=it:=by simpa using hb
     subst e;exact hil
   rw[aL (SU hb2)];exact(hf b hb).1
 done:=by
  intro X hP hw hK hc i ab s σ H E I hf st hg;subst hP hw hK;obtain⟨xs,hq,hx⟩:=hg;obtain⟨its,rv,p,hz⟩:=I.list hq;obtain⟨⟨old,he⟩,hit⟩:=st;have hl:=rv.length;exact wpAny_pyNext_enum_end (I.ok.hd hc) he hit p.isList (by simp;lia) fun h1 eb=>⟨rfl,BQ (t':=s.toks) (fp:=[e,it]) I (fun b o hb q=>eb b o (fun z=>hb (by simp[z])) q) hf⟩
 self:=fun _ _ _ _ _ st h=>by
  obtain⟨⟨old,he⟩,_⟩:=st;exact wpAny_pyIter_enum he h
def O1(K:W.Frag) (a b:Addr):It :=
  ⟨fun i H=>∃xs ys x y,dP K H a xs/\dP K H b ys/\xs[i]?=some x/\ys[i]?=some y,
   fun i H v H'=>∃T x y,H T=none/\v = .ref T/\H'=cW H T (.tup [x,y])/\(∀xs,dP K H a xs->xs[i]?=some x)/\∀ys,dP K H b ys->ys[i]?=some y,
   fun i H=>∃xs ys,dP K H a xs/\dP K H b ys/\(xs.length<=i∨ys.length<=i)⟩
structure Z5 (z TI TO i1 i2:Addr):Prop where
 a:TI≠z
 b:TO≠z
 c:i1≠z
 d:i2≠z
 e:TI≠TO
 f:TI≠i1
 g:TI≠i2
 h:TO≠i1
 i:TO≠i2
 j:i1≠i2
theorem NK(n:Nat):Z5 (n+4) (n+2) (n+3) n (n+1) where
 a:=fun(q:n+2=n+4)=>by lia
 b:=fun(q:n+3=n+4)=>by lia
 c:=fun(q:n=n+4)=>by lia
 d:=fun(q:n+1=n+4)=>by lia
 e:=fun(q:n+2=n+3)=>by lia
 f:=fun(q:n+2=n)=>by lia
 g:=fun(q:n+2=n+1)=>by lia
 h:=fun(q:n+3=n)=>by lia
 i:=fun(q:n+3=n+1)=>by lia
 j:=fun(q:n=n+1)=>by lia
theorem EN{P:Program}{w:World}{K:W.Frag}{elts:List Expr}{k:Nat}{pos:Pos}(l1 l2 z TI TO i1 i2:Addr) (d:Z5 z TI TO i1 i2) :
  Ag P w K (.Tuple elts k pos) (O1 K l1 l2) [z,TI,TO,i1,i2] z
   (fun i h=>IsZip h z TI TO .none/\IsPair h TI (.ref i1) (.ref i2)/\(∃a b,IsPair h TO a b)/\h.IsListIter i1 l1 i/\h.IsListIter i2 l2 i) where
 mem:=by simp
 obj:=fun i h st b hb=>by
  obtain⟨hz,hTI,⟨a,c,hTO⟩,⟨o1,q1,_,d1⟩,⟨o2,q2,_,d2⟩⟩:=st;simp only[Si,UV,or_false]at hb;rcases hb with rfl|rfl|rfl|rfl|rfl
  .exact ⟨_,hz,fun v x=>by
    have x':Data.fields _=Data.cell v:=x;cases x'⟩
  .exact ⟨_,hTI,fun v x=>by
    have x':Data.seq _ _=Data.cell v:=x;cases x'⟩
  .exact ⟨_,hTO,fun v x=>by
    have x':Data.seq _ _=Data.cell v:=x;cases x'⟩
  .exact ⟨o1,q1,fun v x=>by rw[d1]at x;cases x⟩
  .exact ⟨o2,q2,fun v x=>by rw[d2]at x;cases x⟩
 keep:=fun i h h' st kp=>by
  obtain⟨hz,hTI,⟨a,c,hTO⟩,h1,h2⟩:=st;exact⟨kp z (by simp) _ hz,kp TI (by simp) _ hTI,⟨a,c,kp TO (by simp) _ hTO⟩,h1.at fun o q=>kp i1 (by simp) o q,h2.at fun o q=>kp i2 (by simp) o q⟩
 item:=by
  intro X hP hw hK hc i ab s σ H E I hf st hg;subst hP hw hK;obtain⟨xs,ys,x,y,hq1,hq2,hx,hy⟩:=hg;obtain⟨its1,rv1,p1,_⟩:=I.list hq1;obtain⟨its2,rv2,p2,_⟩:=I.list hq2;obtain⟨u1,hu1,ru1⟩:=rv1.get hx;obtain⟨u2,hu2,ru2⟩:=rv2.get hy;obtain⟨hz,hTI,⟨a,c,hTO⟩,h1,h2⟩:=st;have n1:∀b∈[z,TI,TO,i1,i2],l1≠b:=fun b hb=>wH I hq1 (hf b hb)
  have n2:∀b∈[z,TI,TO,i1,i2],l2≠b:=fun b hb=>wH I hq2 (hf b hb)
  have D:ZipApart z TI TO i1 i2 l1 l2:=⟨d.a,d.b,d.c,d.d,d.e,d.f,d.g,d.h,d.i,d.j,n1 z (by simp),n1 TO (by simp),n1 i1 (by simp),n1 i2 (by simp),n2 z (by simp),n2 TO (by simp),n2 i1 (by simp),n2 i2 (by simp)⟩
  have hzl:z<s.heap.objs.size:=Sl hz;refine wpAny_pyNext_zip_item D hz hTI hTO h1 h2 p1.isList p2.isList (x:=u1) (y:=u2) (by simpa using hu1) (by simpa using hu2) fun g1 hz1 hTO1 g11 g12 hT1 hsz1 hk1=>⟨_,rfl,?_⟩
  refine wpAny_letOwnedTupleGo_zip hz1 fun g2 hz2 hs2=>?_
  replace hs2:VM z g1 g2:=hs2;have hn:H s.heap.objs.size=none:=I.hok.fresh (Sg _);refine⟨.ref s.heap.objs.size,cW H s.heap.objs.size (.tup [x,y]),?_,rfl,⟨_,x,y,hn,rfl,rfl,fun ws hw=>by rw[I.list_inj hw hq1];exact hx,fun ws hw=>by rw[I.list_inj hw hq2];exact hy⟩,
   ⟨hz2,hs2.extBut _ _ d.a (hk1 _ _ d.a d.e d.f d.g hTI),⟨_,_,hs2.extBut _ _ d.b hTO1⟩,g11.extBut hs2.extBut d.c,g12.extBut hs2.extBut d.d⟩,fun b hb=>?_⟩
  .show L2.Inv X ab σ _ { s with heap:=g2,toks:=s.toks }
   refine yd (s:=s) (fp:=[z,TI,TO,i1,i2]) I (fun b o hb q=>?_) hf (Sg _) ⟨by simp only[lCq,T4];rw[sizeLine_eq];decide,[u1,u2],.cons ru1 (.cons ru2 .nil),_,hs2.extBut _ _ (UY hzl) hT1,rfl,_,rfl⟩
   have b1:b≠z:=fun e=>hb (by simp[e])
   exact hs2.extBut b o b1 (hk1 b o b1 (fun e=>hb (by simp[e])) (fun e=>hb (by simp[e])) (fun e=>hb (by simp[e])) q)
  .have hb2:b<s.heap.objs.size:=by
    have hb':=hb;simp only[Si,UV,or_false]at hb';rcases hb' with rfl|rfl|rfl|rfl|rfl
    .exact hzl
    .exact Sl hTI
    .exact Sl hTO
    .obtain ⟨_,q,_⟩:=h1;exact Sl q
    .obtain ⟨_,q,_⟩:=h2;exact Sl q
   rw[aL (SU hb2)];exact(hf b hb).1
 done:=by
  intro X hP hw hK hc i ab s σ H E I hf st hg;subst hP hw hK;obtain⟨xs,ys,hq1,hq2,hx⟩:=hg;obtain⟨its1,rv1,p1,_⟩:=I.list hq1;obtain⟨its2,rv2,p2,_⟩:=I.list hq2;obtain⟨hz,hTI,⟨a,c,hTO⟩,h1,h2⟩:=st;have n1:∀b∈[z,TI,TO,i1,i2],l1≠b:=fun b hb=>wH I hq1 (hf b hb)
  have n2:∀b∈[z,TI,TO,i1,i2],l2≠b:=fun b hb=>wH I hq2 (hf b hb)
  have D:ZipApart z TI TO i1 i2 l1 l2:=⟨d.a,d.b,d.c,d.d,d.e,d.f,d.g,d.h,d.i,d.j,n1 z (by simp),n1 TO (by simp),n1 i1 (by simp),n1 i2 (by simp),n2 z (by simp),n2 TO (by simp),n2 i1 (by simp),n2 i2 (by simp)⟩
  have e1:=rv1.length;have e2:=rv2.length;refine wpAny_pyNext_zip_end (I.ok.hd hc) D hz hTI hTO h1 h2 p1.isList p2.isList ?_ fun g1 eb=>⟨rfl,BQ (t':=s.toks) (fp:=[z,TI,TO,i1,i2]) I (fun b o hb q=>eb b o (fun e=>hb (by simp[e])) (fun e=>hb (by simp[e])) (fun e=>hb (by simp[e])) (fun e=>hb (by simp[e])) q) hf⟩
  rcases hx with hx|hx
  .exact .inl (by simp;lia)
  .exact .inr (by simp;lia)
 self:=fun _ _ _ _ _ st h=>wpAny_pyIter_zip st.1 h
section
variable {X:Cx}{elts:List Expr}{kk:Nat}{tpos:Pos}
def Kp(K:W.Frag) (ta:TA):TI:=fun σ H R=>ta σ H fun vs H1=>∃a,vs=[.ref a]/\(∃xs,dP K H1 a xs)/\R (Oy K a) H1
theorem Jf{e:Expr}{ta:TA}{p pos:Pos}(hg:Gl X "enumerate") (hm:X.mg "enumerate" = none) (ha:PA X [e] ta) (hs:starEach [e] X.env=[(false,eval e X.env)]:=by rfl) :
  PI X (.Tuple elts kk tpos) (.Call (.Name "enumerate" p) [e] [] pos) (Kp X.K ta):=by
 intro ab s σ H R I h;refine Call_ (mY I hg hm boot_enumerate (TU (eE (ha pos ab s σ H _ I h) fun us s1 ⟨vs,H1,I1,r1,q1⟩=>?_) hs rfl))
 obtain⟨a,e1,⟨xs,hq⟩,q⟩:=q1;subst e1;obtain⟨u,rfl,ru⟩:=oe r1;cases ru;obtain⟨its,rv,p1,hz⟩:=I1.list hq;refine call_enumerate_list p1.isList fun g he hit hsz hk=>wpAny_pyIter_enum he ?_
 refine⟨s1.heap.objs.size+1,[s1.heap.objs.size+1,s1.heap.objs.size],_,_,H1,rfl,I1.kept (t':=s1.toks) hk,DB a _ _ (Nat.succ_ne_self _),⟨⟨_,he⟩,hit⟩,fun b hb=>?_,q⟩
 have hb2:s1.heap.objs.size<=b:=by
  simp only[Si,UV,or_false]at hb;rcases hb with rfl|rfl
  .exact Ua _
  .exact Sg _
 exact I1.fpOk hb2 (I1.hok.fresh hb2)
def NL(K:W.Frag) (ta:TA):TI:=fun σ H R=>ta σ H fun vs H1=>∃a b,vs=[.ref a,.ref b]/\(∃xs,dP K H1 a xs)/\(∃ys,dP K H1 b ys)/\R (O1 K a b) H1
theorem Mx{e f:Expr}{ta:TA}{p pos:Pos}(hg:Gl X "zip") (hm:X.mg "zip" = none) (ha:PA X [e,f] ta) (hs:starEach [e,f] X.env=[(false,eval e X.env),(false,eval f X.env)]:=by rfl) (hs2:starEach [f] X.env=[(false,eval f X.env)]:=by rfl) :
  PI X (.Tuple elts kk tpos) (.Call (.Name "zip" p) [e,f] [] pos) (NL X.K ta):=by
 intro ab s σ H R I h;refine Call_ (mY I hg hm boot_zip (TU (eE (ha pos ab s σ H _ I h) fun us s1 ⟨vs,H1,I1,r1,q1⟩=>?_) (by rw[hs,hs2]) (by rw[hs2];rfl)))
 obtain⟨a,b,e1,⟨xs,hq1⟩,⟨ys,hq2⟩,q⟩:=q1;subst e1;obtain⟨u,v,rfl,ru,rv⟩:=EO r1;cases ru;cases rv;obtain⟨its1,_,p1,_⟩:=I1.list hq1;obtain⟨its2,_,p2,_⟩:=I1.list hq2;refine call_zip_2 p1.isList p2.isList fun g hz hTI hTO h1 h2 hsz hk=>wpAny_pyIter_zip hz ?_
 refine⟨s1.heap.objs.size+4,[s1.heap.objs.size+4,s1.heap.objs.size+2,s1.heap.objs.size+3,s1.heap.objs.size,s1.heap.objs.size+1],_,_,H1,rfl,I1.kept (t':=s1.toks) hk,
  EN a b _ _ _ _ _ (NK s1.heap.objs.size),⟨hz,hTI,⟨_,_,hTO⟩,h1,h2⟩,fun c hc=>?_,q⟩
 have hb2:s1.heap.objs.size<=c:=by
  simp only[Si,UV,or_false]at hc;rcases hc with rfl|rfl|rfl|rfl|rfl
  .exact VA _ _
  .exact VA _ _
  .exact VA _ _
  .exact Sg _
  .exact VA _ _
 exact I1.fpOk hb2 (I1.hok.fresh hb2)
end
theorem Hs{K:W.Frag}{a:Addr}{xs:List V}{i1 i2:Nat}{tb:TS}{D:nY}{σ:St}{H:Hp}(Pv:Nat->St->Hp->Prop) (h0:Pv 0 σ H) (hl:∀i σ H,i<=xs.length->Pv i σ H->dP K H a xs)
  (hs:∀i x σ H T,xs[i]?=some x->Pv i σ H->H T=none->tb { D with nx:=Pv (i+1),ct:=Pv (i+1),bk:=D.nx } ((σ.set i1 (some (.int i))).set i2 (some x)) (cW H T (.tup [.int i,x]))) (hd:∀σ H,Pv xs.length σ H->D.nx σ H) :
  ∃W:Nat->Nat->St->Hp->Prop,(∃m,W 0 m σ H)/\∀i m σ H,W i m σ H ->
   ((Oy K a).stop i H/\D.nx σ H)∨((Oy K a).go i H/\∃N:St->Hp->Prop,(∀σ' H',N σ' H'->∃m',m'<m/\W (i+1) m' σ' H')/\∀x H',(Oy K a).yld i H x H'->C8 K 2 (nB (eD i1) (nB (eD i2) Ds)) x σ H' fun σ2 H2=>tb { D with nx:=N,ct:=N,bk:=D.nx } σ2 H2):=by
 refine⟨fun i m σ H=>m=xs.length-i/\i<=xs.length/\Pv i σ H,⟨xs.length,by simp,Tf _,h0⟩,?_⟩
 rintro i m σ H ⟨rfl,hi,p⟩;have q:=hl i σ H hi p
 by_cases hlt:i<xs.length
 .refine .inr ⟨⟨xs,xs[i],q,by simp[hlt]⟩,Pv (i+1),fun σ' H' p'=>⟨xs.length-(i+1),by lia,rfl,hlt,p'⟩,fun v H' y=>?_⟩
  obtain⟨T,x,hT,rfl,rfl,hx⟩:=y;exact⟨T,_,rfl,rF.of aR,rfl,_,_,rfl,_,_,rfl,rfl,hs i x σ H T (hx xs q) p hT⟩
 .have e:i=xs.length:=by lia
  subst e;exact .inl ⟨⟨xs,q,Sg _⟩,hd σ H p⟩
theorem JK{K:W.Frag}{a b:Addr}{xs ys:List V}{i1 i2:Nat}{tb:TS}{D:nY}{σ:St}{H:Hp}(Pv:Nat->St->Hp->Prop) (h0:Pv 0 σ H) (hlen:xs.length=ys.length)
  (hl:∀i σ H,i<=xs.length->Pv i σ H->dP K H a xs/\dP K H b ys)
  (hs:∀i x y σ H T,xs[i]?=some x->ys[i]?=some y->Pv i σ H->H T=none->tb { D with nx:=Pv (i+1),ct:=Pv (i+1),bk:=D.nx } ((σ.set i1 (some x)).set i2 (some y)) (cW H T (.tup [x,y]))) (hd:∀σ H,Pv xs.length σ H->D.nx σ H) :
  ∃W:Nat->Nat->St->Hp->Prop,(∃m,W 0 m σ H)/\∀i m σ H,W i m σ H ->
   ((O1 K a b).stop i H/\D.nx σ H)∨((O1 K a b).go i H/\∃N:St->Hp->Prop,(∀σ' H',N σ' H'->∃m',m'<m/\W (i+1) m' σ' H')/\∀x H',(O1 K a b).yld i H x H'->C8 K 2 (nB (eD i1) (nB (eD i2) Ds)) x σ H' fun σ2 H2=>tb { D with nx:=N,ct:=N,bk:=D.nx } σ2 H2):=by
 refine⟨fun i m σ H=>m=xs.length-i/\i<=xs.length/\Pv i σ H,⟨xs.length,by simp,Tf _,h0⟩,?_⟩
 rintro i m σ H ⟨rfl,hi,p⟩;obtain⟨q1,q2⟩:=hl i σ H hi p
 by_cases hlt:i<xs.length
 .refine .inr ⟨⟨xs,ys,xs[i],ys[i],q1,q2,by simp[hlt],by simp[hlen ▸ hlt]⟩,Pv (i+1),fun σ' H' p'=>⟨xs.length-(i+1),by lia,rfl,hlt,p'⟩,fun v H' y=>?_⟩
  obtain⟨T,x,y,hT,rfl,rfl,hx,hy⟩:=y;exact⟨T,_,rfl,rF.of aR,rfl,_,_,rfl,_,_,rfl,rfl,hs i x y σ H T (hx xs q1) (hy ys q2) p hT⟩
 .have e:i=xs.length:=by lia
  subst e;exact .inl ⟨⟨xs,ys,q1,q2,.inl (Sg _)⟩,hd σ H p⟩
section
variable {X:Cx}
theorem qe{ab:List (Addr×Obj)}{σ:St}{H:Hp}{s:Shared}{a:Addr}{ns:List Int}(I:Inv X ab σ H s) (h:dP X.K H a (ns.map V.int)) :
  ∃vs:List Value,s.heap.IsList a vs.toArray/\IntsAre vs ns/\ns.length<=sizeLine:=by
 obtain⟨its,r,p,z⟩:=I.list h;rw[lMq]at z;exact⟨its,p.isList,oO r,z⟩
theorem vE(hc:X.calm=true):eC X (.builtin "min") (fun xs H Q=>∃(a:Addr) (ns:List Int),xs=[.ref a]/\dP X.K H a (ns.map V.int)/\0<ns.length/\∀M,M∈ns->(∀x,x∈ns->M<=x)->Q (.int M) H):=by
 intro ab s σ H xs us Q I r h;obtain⟨a,ns,rfl,hS,hne,q⟩:=h;obtain⟨u,rfl,ru⟩:=oe r;cases ru;obtain⟨vs,hl,hi,_⟩:=qe I hS;obtain⟨xs,e⟩:=hi.allInts.items;have hns:ns=xs.toList.map (·.1):=by
  rw[←hi.numsOf,←nums_intItems,←e]
 have hsz:0<xs.size:=by
  have h3:=hne;rw[hns,lMq,Sv]at h3;exact h3
 rw[e]at hl;refine min_intList (I.ok.hd hc) hl hsz fun v h' tk hv hk=>?_
 obtain⟨t,rfl⟩:=intItems_at hv;obtain⟨h1,h2⟩:=argBest_lt (numAt xs) (xs.size-1);refine⟨.int _,H,I.kept hk,⟨t,rfl⟩,q _ ?_ fun x hx=>?_⟩
 .rw [hns,numAt_eq];exact PySem.getD_mem (by rw[lMq,Sv];lia)
 .rw [hns]at hx;obtain⟨j,hj,rfl⟩:=PySem.mem_getD hx;rw[lMq,Sv]at hj;rw[←numAt_eq];exact h2 j (by lia)
def Hi(K:W.Frag):V->List V->Hp->VK->Prop:=fun x vs H Q=>∃(a:Addr) (ns:List Int) (k:Int),x = .ref a/\vs=[.int k]/\dP K H a (ns.map V.int)/\k∈ns/\Q (.int (ns.idxOf k:Nat)) H
theorem yh:Pu X "list.index" (Hi X.K):=by
 intro ab s σ H x xs v us Q I rx r h;obtain⟨a,ns,k,rfl,rfl,hS,hk,q⟩:=h;cases rx;obtain⟨u,rfl,t,rfl⟩:=oe r;obtain⟨its,rv,⟨o,n,ho,hc,hd0,hd⟩,hz⟩:=I.list hS;have hi:=oO rv;obtain⟨cls,dd,data,sl⟩:=o;simp only at hc hd0 hd;subst hc hd0 hd;have hlen:=hi.length;have hj:ns.idxOf k<ns.length:=UP.mpr hk;have hs:sizeLine=16777216:=sizeLine_eq;rw[lMq]at hz;refine call_meets Vm ⟨_,ho,rfl⟩ PySem.F.entry_list_index (PySem.F.args_list_index_2 _ _)
  (SeqAt.list_indexAt a its.toArray n none sl (.int k t) (isInt k) (ns.idxOf k) (by simpa [hlen] using hj) (by lia) ?_ ?_) ⟨ho,fun y hy=>(eq_isInt k t hi y (by simpa using hy)).at _ _,?_⟩
 .show isInt k its[ns.idxOf k]=true;rw[isInt_at k hi _ (by lia) hj]
  simpa using Vi hj
 .intro j hjs hlt;show isInt k its[j]=false;rw[isInt_at k hi j (by simpa using hjs) (by lia)]
  exact ne_of_lt_idxOf hlt _
 .exact ⟨.int _,H,I.tok _,⟨_,rfl⟩,q⟩
def MM(K:W.Frag) (x:V) (H:Hp) (T:String) (b:Bool):Prop :=
 match x with
 | .int _=>(T = "int" /\ b=true)∨(T = "bool" /\ b=false)
 | .bl _=>(T = "bool" /\ b=true)∨(T = "int" /\ b=true)
 | .str _=>T = "str" /\ b=true
 | .ref p=>(T = "list" /\ b=true/\∃xs,dP K H p xs)∨(T = "dict" /\ b=true/\∃kvs,H p=some (.dK kvs))∨(T = "tuple" /\ b=true/\∃xs,rF K H p xs)
 |_=>False
theorem eS:eC X (.builtin "isinstance") (fun xs H Q=>∃x T b,xs=[x,.ty T]/\MM X.K x H T b/\Q (.bl b) H):=by
 intro ab s σ H xs us Q I r h;obtain⟨x,T,b,rfl,e,q⟩:=h;obtain⟨u,v,rfl,rx,rT⟩:=EO r;cases rT;cases x with
 |int i =>
  obtain⟨t,rfl⟩:=rx;rcases e with ⟨rfl,rfl⟩|⟨rfl,rfl⟩
  .exact call_isinstance (isinstance_true (Tx := "int") F.isi_meta_int F.sub_int_int) ⟨(show s.TypeIs (.int i t) "int" from rfl),⟨.bl true,H,I,rfl,q⟩⟩
  .exact call_isinstance (isinstance_false_int (by decide +kernel) F.isi_meta_bool F.sub_int_bool) (show EP X ab σ Q (.bool false) { s with toks:=s.toks+1 } from ⟨.bl false,H,I.tok _,rfl,q⟩)
 |bl i =>
  cases rx;rcases e with ⟨rfl,rfl⟩|⟨rfl,rfl⟩
  .exact call_isinstance (isinstance_true (Tx := "bool") F.isi_meta_bool F.sub_bool_bool) ⟨(show s.TypeIs (.bool i) "bool" from rfl),⟨.bl true,H,I,rfl,q⟩⟩
  .exact call_isinstance (isinstance_true (Tx := "bool") F.isi_meta_int F.sub_bool_int) ⟨(show s.TypeIs (.bool i) "bool" from rfl),⟨.bl true,H,I,rfl,q⟩⟩
 |str i =>
  obtain⟨t,rfl⟩:=rx;obtain⟨rfl,rfl⟩:=e;exact call_isinstance (isinstance_true (Tx := "str") F.isi_meta_str F.sub_str_str) ⟨(show s.TypeIs (.str i t) "str" from rfl),⟨.bl true,H,I,rfl,q⟩⟩
 |ref p =>
  cases rx;rcases e with ⟨rfl,rfl,xs,hS⟩|⟨rfl,rfl,kvs,hp⟩|⟨rfl,rfl,xs,hS⟩
  .obtain ⟨its,rv,pl,hz⟩:=I.list hS;exact call_isinstance (isinstance_true (Tx := "list") F.isi_meta_list (by rw[isSubtype_type];kernel_rfl)) ⟨pl.isList.typeIs,⟨.bl true,H,I,rfl,q⟩⟩
  .have ty:s.TypeIs (.ref p) "dict" := (Nj I (.inl ⟨kvs,.inl hp⟩)).1;exact call_isinstance (isinstance_true (Tx := "dict") F.isi_meta_dict (by rw[isSubtype_type];kernel_rfl)) ⟨ty,⟨.bl true,H,I,rfl,q⟩⟩
  .obtain ⟨its,rv,⟨o,ho,hc,_⟩,hz⟩:=I.tuple hS;exact call_isinstance (isinstance_true (Tx := "tuple") F.isi_meta_tuple (by rw[isSubtype_type];kernel_rfl)) ⟨⟨o,ho,hc⟩,⟨.bl true,H,I,rfl,q⟩⟩
 |_=>exact(show False from e).elim
end
end Mr
namespace Mr
open PySem L2
structure gJ (K:W.Frag) (mg:Str->Option Value) (x:Str) (st:Stmt) (ps:List Str) (f:Addr) (fd:FuncData):Prop where
 F:Nq K x x st f fd
 m:mg x=some (.ref f)
 b:wu K fd ps []
theorem gw{H:Hp}{p:Addr}{o:HO}(h:H p=none):bW H (cW H p o):=fun b u e=>by
 rw[aL (df e h)];exact e
end Mr
namespace Mr
open PySem PySem.Spec PyProof.Rows L2
theorem zh{prog:Program}{w:World}{A:Around}{R:Result->Shared->Prop}{s:Shared}{elt target ir:Expr}{ifs:List Expr}{scope:Scope}{pos:Pos}{it acc:Value}{env:Env}(I:Nat->Shared->Prop)
  (turn:∀n s,I n s->wpAny (model prog w) A (pyNext it) (fun r s₁=>match r with
   |none=>R (.ok .next) s₁
   |some v=>wpAny (model prog w) A (letOwnedTupleGo target it v) (fun _ s₂=>wpAny (model prog w) A (assign target env v) (fun _ s₃ =>
     wpAny (model prog w) A (forIn ifs true fun c r=>if r=true then do let ok ←isTrue c env (eval c env);pure (ForInStep.yield ok) else pure (ForInStep.yield r)) (fun ok s₄ =>
      if ok=true then wpAny (model prog w) A (eval elt env) (fun x s₅ =>
       wpAny (model prog w) A (call (.builtin "list.append") [acc,x]) (fun _ s₆=>∃m,m<n/\I m s₆) (fun _ _=>False) s₅) (fun _ _=>False) s₄
      else ∃m,m<n/\I m s₄) (fun _ _=>False) s₃) (fun _ _=>False) s₂) (fun _ _=>False) s₁) (fun _ _=>False) s)
  (n:Nat) (h:I n s):codeAny (model prog w) A (.compLoop (.ListComp elt [⟨target,ir,ifs,0⟩] scope pos) 0 it acc env) R s:=by
 refine codeAny_loop rfl I (fun n s hI=>?_) n h
 show wpAny _ A ((compTurn (.ListComp elt [⟨target,ir,ifs,0⟩] scope pos) 0 it acc env).onRaise (fun x=>do noteFrame x env;theTreesLotGoes x)) _ _ s
 refine wpAny_noted ?_;rw[compTurn_list];refine wpAny_bind (wpAny_standAt (wpAny_bind (wpAny_mono (turn n s hI) (fun r s₁ h₁=>?_) fun _ _ z=>z.elim)))
 cases r with
 |none=>exact wpAny_pure h₁
 |some v =>
  refine wpAny_bind (wpAny_mono h₁ (fun _ s₂ h₂=>?_) fun _ _ z=>z.elim)
  refine wpAny_bind (wpAny_mono h₂ (fun _ s₃ h₃=>?_) fun _ _ z=>z.elim)
  refine wpAny_bind (wpAny_mono h₃ (fun ok s₄ h₄=>?_) fun _ _ z=>z.elim)
  cases ok with
  |false=>exact wpAny_pure ⟨rfl,h₄⟩
  |true=>exact wpAny_bind (wpAny_bind (wpAny_mono h₄ (fun x s₅ h₅=>wpAny_bind (wpAny_mono h₅ (fun _ s₆ h₆=>wpAny_pure (wpAny_pure ⟨rfl,h₆⟩)) fun _ _ z=>z.elim)) fun _ _ z=>z.elim))
abbrev fh(X:Cx) (scope:Scope) (cl:List (Str×Addr)) (N:List Str) (C:Addr) (s:Shared) (H:Hp) (fp:List Addr):Cx where
 prog:=X.prog
 w:=X.w
 K:=X.K
 mg:=X.mg
 base:=X.base
 A:=X.A
 N:=N
 s₀:=s
 H₀:=H
 env:=compEnvC scope cl C X.env
 outer:=X.stack
 stack:=X.stack
 ex:=fp
 fn:=fun _=>false
 calm:=X.calm
 pn:=[]
 xe:=fun _ _=>False
def PF(X:Cx) (ifs:List Expr) (t:TT):Prop :=
 ∀(ab:List (Addr×Obj)) (s:Shared) (σ:St) (H:Hp) (Q:Bool->Hp->Prop),Inv X ab σ H s->t σ H Q ->
  wpAny (model X.prog X.w) X.A (forIn ifs true fun c r=>if r=true then do let ok ←isTrue c X.env (eval c X.env);pure (ForInStep.yield ok) else pure (ForInStep.yield r)) (TP X ab σ Q) X.xe s
noncomputable def O4:TT:=fun _ H Q=>Q true H
theorem oW{X:Cx}:PF X [] O4:=fun _ _ _ H _ I h=>wpAny_tests_nil ⟨H,I,h⟩
theorem wQ{X:Cx}{c:Expr}{t:TT}(h:PT X c t):PF X [c] t:=fun ab s σ H Q I q=>wpAny_tests_one (h ab s σ H Q I q)
structure gM (X:Cx) (scope:Scope) (cl:List (Str×Addr)) (x:Str) (N:List Str) (fr:List Nat):Prop where
 names:N.Nodup
 own:N[0]?=some x
 len:N.length=fr.length+1
 sub:∀y c,cl.lookup y=some c->X.env.cells.lookup y=some c
 has:∀y,((relabel scope X.env).names.lookup y=some .cell∨(relabel scope X.env).names.lookup y=some .free)->∃c,cl.lookup y=some c
 get:∀(k j:Nat) (y:Str),fr[k]?=some j->N[k+1]?=some y->X.N[j]?=some y/\X.env.scope.names.lookup y=some .cell/\(relabel scope X.env).names.lookup y=some .cell
theorem gM.none{X:Cx}{scope:Scope}{x:Str}(h:∀p∈scope.names,p.2 ≠ .cell/\p.2 ≠ .free):gM X scope [] x [x] [] where
 names:=by simp
 own:=rfl
 len:=rfl
 sub:=fun y c e=>by cases e
 has:=fun y e=>by
  exfalso;have key:∀p∈(relabel scope X.env).names,p.2 ≠ .cell/\p.2 ≠ .free:=by
   intro p hp;obtain⟨q,hq,rfl⟩:=mMq.mp hp;obtain⟨n,k⟩:=q;obtain⟨h1,h2⟩:=h _ hq;have hk:(k == NameKind.free)=false:=by simpa using h2
   simp only[hk,W6];exact⟨h1,h2⟩
  rcases e with e|e
  .exact (key _ (PySem.mem_of_lookup e)).1 rfl
  .exact (key _ (PySem.mem_of_lookup e)).2 rfl
 get:=fun k j y e _=>by cases e
noncomputable def slots(σ:St) (fr:List Nat):St:=fr.map fun j=>(σ[j]?).join
def B6(wi:TI) (fr:List Nat) (tf:TT) (te:TE):TE:=fun σ H Q=>wi σ H fun J H1=>∀acc,H1 acc=none->∃W:Nat->Nat->Hp->Prop,(∃m,W 0 m (cW H1 acc (.lst [])))/\∀i m H,W i m H ->
 (J.stop i H/\Q (.ref acc) H) ∨
 (J.go i H/\∃N:Hp->Prop,(∀H',N H'->∃m',m'<m/\W (i+1) m' H')/\∀x H',J.yld i H x H'->tf (some x::slots σ fr) H' fun b H2 =>
  if b=true then te (some x::slots σ fr) H2 fun y H3=>∃ys,H3 acc=some (.lst ys)/\ys.length<sizeLine/\N (cW H3 acc (.lst (ys++[y]))) else N H2)
section
variable {X:Cx}{scope:Scope}{cl:List (Str×Addr)}{N:List Str}{fr:List Nat}{x:Str}{px pos:Pos}{elt ir:Expr}{ifs:List Expr}{tf:TT}{te:TE}
theorem uu{ab:List (Addr×Obj)}{σ:St}{H:Hp}{s:Shared}{E:Value->Shared->Prop}{J:It}{fp:List Addr}{it:Addr}{tn:Nat->Heap->Prop}{RR:Value->Addr->Result->Shared->Prop}{Q:VK}
  (hc:X.calm=true) (hcell:∀y∈scope.names,y.2 ≠ .cell) (hkind:scope.kind = .function) (hx:scope.names.lookup x=some .local) (hF:gM X scope cl x N fr)
  (hf:∀C s H fp,PF (fh X scope cl N C s H fp) ifs tf) (he:∀C s H fp,PE (fh X scope cl N C s H fp) elt te)
  (I:Inv X ab σ H s) (T:Ag X.prog X.w X.K (.Name x px) J fp it tn) (st:tn 0 s.heap) (fpo:∀b∈fp,rP X ab H b)
  (h:∀acc,H acc=none->∃W:Nat->Nat->Hp->Prop,(∃m,W 0 m (cW H acc (.lst [])))/\∀i m H,W i m H ->
   (J.stop i H/\Q (.ref acc) H) ∨
   (J.go i H/\∃N:Hp->Prop,(∀H',N H'->∃m',m'<m/\W (i+1) m' H')/\∀x H',J.yld i H x H'->tf (some x::slots σ fr) H' fun b H2 =>
    if b=true then te (some x::slots σ fr) H2 fun y H3=>∃ys,H3 acc=some (.lst ys)/\ys.length<sizeLine/\N (cW H3 acc (.lst (ys++[y]))) else N H2))
  (fin:∀acc C s' Hf m,Inv X ab σ Hf s'->s'.heap.Ns C m->rP X ab Hf C->Q (.ref acc) Hf->RR (.ref acc) C (.ok .next) s') :
  wpAny (model X.prog X.w) X.A (newList []) (fun acc s₃=>wpAny (model X.prog X.w) X.A (newFunctionEnv scope X.env.globals cl [] X.env.qual none .none (some X.env)) (fun cenv s₄ =>
   codeAny (model X.prog X.w) X.A (.compStart (.ListComp elt [⟨.Name x px,ir,ifs,0⟩] scope pos) 0 (.ref it) acc { cenv with scope:=relabel scope X.env }) (RR acc cenv.locals) s₄) E s₃) E s:=by
 refine wpAny_newObj_type (wpAny_newFunctionEnv hcell (by intro y hy;simp at hy) (fun h₁ hns₁ hsb₁=>?_) hkind)
 dsimp only at hns₁ hsb₁ ⊢;generalize hG:s.heap.push { cls:=.type "list", dict:=none,data:=.seq ([]:List Value).toArray }=G at hns₁ hsb₁ ⊢;have hC:G.objs.size=s.heap.objs.size+1:=by rw[←hG,Heap.size_push]
 have hCle:s.heap.objs.size<=G.objs.size:=by rw[hC];exact Ua _
 have hDC:s.heap.objs.size≠G.objs.size:=by rw[hC];exact SU (Vx _)
 have below:∀b,b<s.heap.objs.size->b≠G.objs.size:=fun b hb=>by rw[hC];exact SU (UI hb)
 have old:∀b o,s.heap.get? b=some o->h₁.get? b=some o:=fun b o e=>hsb₁.extBut b o (below b (Sl e)) (Sn _ (hG ▸ Sn _ e))
 have hacc:h₁.get? s.heap.objs.size=some { cls:=.type "list", data:=.seq ([]:List Value).toArray }:=hsb₁.extBut _ _ hDC (Sn _ (hG ▸ Tp _ rfl));have hn:H s.heap.objs.size=none:=I.hok.fresh (Sg _);have hnC:H G.objs.size=none:=I.hok.fresh hCle;have fpl:∀b∈fp,b<s.heap.objs.size:=fun b hb=>by
  obtain⟨o,q,_⟩:=T.obj 0 _ st b hb;exact Sl q
 obtain⟨W,⟨m0,w0⟩,turn⟩:=h _ hn;have ok':(fh X scope cl N G.objs.size s H fp).Ok:=by
  refine⟨I.ok.mod,by show (relabel scope X.env).kind = .function;exact hkind,I.ok.glob,I.ok.blt,hCle,fun y z c h1 h2=>I.ok.inj y z c (hF.sub y c h1) (hF.sub z c h2),hF.has,fun _ _ z _=>(by cases z),I.ok.hd,I.ok.frames,.inl rfl,
   fun b hb=>⟨below b (fpl b hb),fun y c e=>(fpo b hb).2.2.2.2.1 y c (hF.sub y c e)⟩,fun b o e=>⟨(I.bs b o e).1,(I.bs b o e).2⟩,TV I.ok.bsz I.sz,fun b o e hb=>?_,fun b hb z=>?_,I.stack,I.stkFree⟩
  .rcases (fpo b hb).2.2.2.1 with q|q
   .exact I.ok.noex b o e q
   .exact absurd (S7 (Sl (I.ok.bs b o e).1) q) (UG _)
  .rcases Si.mp (I.stkSub b z) with q|q
   .exact (fpo b hb).2.1 q
   .exact (fpo b hb).2.2.1 q
 have I0:Inv (fh X scope cl N G.objs.size s H fp) [] (none::slots σ fr) (cW H s.heap.objs.size (.lst [])) { s with heap:=h₁,toks:=s.toks+([]:List (Str×Value)).length }:=by
  have hok1:pD X.prog X.w (cW H s.heap.objs.size (.lst [])) h₁:=I.hok.laid old (Sg _) ⟨Tf _,[],0,.nil,hacc⟩;refine⟨ok',rfl,I.bare,Un.laid old (Sg _) hn,⟨_,hns₁,fun k y v e1 e2 e3=>?_⟩,fun y c e=>?_,?_,fun y c e=>?_,fun p hp=>absurd (show p∈([]:List (Addr×Obj)) from hp) (by simp),hok1,?_⟩
  .cases k with
   |zero=>cases e2
   |succ k =>
    have e2':(slots σ fr)[k]?=some (some v):=e2;unfold slots at e2';rw[gMq]at e2';cases ej:fr[k]? with
    |none=>rw[ej]at e2';cases e2'
    |some j =>
     rw[ej]at e2';have e2j:(σ[j]?).join=some v:=Sz.inj e2';have e2s:σ[j]?=some (some v):=by
      cases q:σ[j]? with
      |none=>rw[q]at e2j;cases e2j
      |some z=>rw[q]at e2j;exact congrArg some e2j
     obtain⟨g1,g2,g3⟩:=hF.get k j y ej e1;obtain⟨m,_,hl⟩:=I.loc;obtain⟨u,r,l⟩:=hl j y v g1 e2s (.inr (.inl g2));refine⟨u,r,.inr ⟨.inl g3,?_⟩⟩;obtain⟨c,e⟩:=hF.has y (.inl g3);have e':=hF.sub y c e;rcases l with ⟨l1,_⟩|⟨_,c',ec,hcell'⟩
     .have l1':X.env.scope.names.lookup y=some .local:=l1;rw[g2]at l1';cases l1'
     .rw [e']at ec;cases ec;obtain⟨o,ho,hd⟩:=hcell';exact⟨c,e,o,old c o ho,hd⟩
  .obtain ⟨v,o,ho,hd⟩:=I.cell y c (hF.sub y c e);exact⟨v,o,old c o ho,hd⟩
  .show cW H s.heap.objs.size (.lst []) G.objs.size=none;rw[aL (Ne.symm hDC)];exact hnC
  .obtain ⟨v,o,ho,hd⟩:=I.cell y c (hF.sub y c e);rw[aL (SU (Sl ho))];exact I.freeC y c (hF.sub y c e)
  .show (none::slots σ fr).length=N.length;rw[hF.len,lCq];unfold slots;rw[lMq]
 have st1:tn 0 h₁:=T.keep 0 _ _ st fun b _ o e=>old b o e
 have nd:N.Nodup:=hF.names;have nf0:∀b∈fp,cW H s.heap.objs.size (.lst []) b=none:=fun b hb=>by
  rw[aL (SU (fpl b hb))];exact(fpo b hb).1
 have stat:∀{H':Hp},(∀b∈fp,H' b=none)->∀b∈fp,rP (fh X scope cl N G.objs.size s H fp) [] H' b:=fun hn' b hb =>
  ⟨hn' b hb,below b (fpl b hb),ok'.exfs b hb,.inl hb,fun y c e=>(ok'.exf b hb).2 y c e,fun p hp=>absurd (show p∈([]:List (Addr×Obj)) from hp) (by simp)⟩
 have loop:∀s₃:Shared,s₃={ s with heap:=h₁,toks:=s.toks+([]:List (Str×Value)).length } ->
   codeAny (model X.prog X.w) X.A (.compLoop (.ListComp elt [⟨.Name x px,ir,ifs,0⟩] scope pos) 0 (.ref it) (.ref s.heap.objs.size) (compEnvC scope cl G.objs.size X.env)) (RR (.ref s.heap.objs.size) G.objs.size) s₃:=by
  rintro s₃ rfl;refine zh (fun n s'=>∃i v0 H',Inv (fh X scope cl N G.objs.size s H fp) [] (v0::slots σ fr) H' s'/\tn i s'.heap/\(∀b∈fp,H' b=none)/\W i n H') ?_ m0 ⟨0,none,_,I0,st1,nf0,w0⟩
  rintro n s4 ⟨i,v0,H4,I4,st4,nf4,w4⟩;rcases turn i n H4 w4 with ⟨stop,q⟩|⟨go,Nx,hNx,step⟩
  .refine eE (T.done (fh X scope cl N G.objs.size s H fp) rfl rfl rfl hc i [] s4 (v0::slots σ fr) H4 (fun _ _=>False) I4 (stat nf4) st4 stop) fun r s5 ⟨hr,I5⟩=>?_
   subst hr;obtain⟨m,hm,_⟩:=I5.loc;have I6:Inv X ab σ H4 s5:=I.call' (ch:=fp) I5.os I5.base I5.hok I5.bare fun b hb=>⟨(fpo b hb).2.2.2.1,(fpo b hb).2.1,(fpo b hb).2.2.2.2.1,(fpo b hb).2.2.2.2.2⟩
   exact fin _ _ s5 H4 m I6 hm (I.fpOk hCle I5.free) q
  .refine eE (T.item (fh X scope cl N G.objs.size s H fp) rfl rfl rfl hc i [] s4 (v0::slots σ fr) H4 (fun _ _=>False) I4 (stat nf4) st4 go) fun r s5 ⟨u,hr,h5⟩=>?_
   subst hr;refine eE h5 fun _ s6 ⟨y,H6,I6,r6,y6,st6,nf6⟩=>?_
   have I6':=I6.pinned (stat nf6) (T.obj _ _ st6);have pg:PG (fh X scope cl N G.objs.size s H fp) (.Name x px) (eD 0):=bR nd hF.own (.inl (lookup_relabel_local hx)) (.inr (lookup_relabel_local hx));refine eE (pg _ s6 (v0::slots σ fr) H6 y u (fun σ2 H2=>σ2=some y::slots σ fr/\H2=H6) I6' r6 ⟨rfl,rfl⟩) fun _ s7 ⟨σ7,H7,I7,e7,e8⟩=>?_
   subst e7 e8;refine eE (hf _ _ _ _ _ s7 _ _ _ I7 (step y _ y6)) fun b s8 ⟨H8,I8,q8⟩=>?_
   have again:∀{s9:Shared}{H9:Hp},Inv (fh X scope cl N G.objs.size s H fp) ([]++uF fp s6.heap) (some y::slots σ fr) H9 s9->Nx H9->∃m,m<n/\∃i v0 H',Inv (fh X scope cl N G.objs.size s H fp) [] (v0::slots σ fr) H' s9/\tn i s9.heap/\(∀b∈fp,H' b=none)/\W i m H':=fun {s9 H9} I9 n9=>by
    obtain⟨m',hm,w9⟩:=hNx H9 n9;refine⟨m',hm,i+1,some y,H9,I9.unpinned,T.keep _ _ _ st6 fun b hb o e=>(I9.pin (b,o) (SB _ (SB _ (mE hb e)))).1,fun b hb=>?_,w9⟩
    obtain⟨o,e,d⟩:=T.obj _ _ st6 b hb;exact(I9.pin (b,o) (SB _ (SB _ (mE hb e)))).2.1
   cases b with
   |false=>exact again I8 q8
   |true =>
    refine eE (he _ _ _ _ _ s8 _ _ _ I8 q8) fun z s9 ⟨zv,H9,I9,r9,ys,a9,l9,n9⟩=>?_
    refine eE (bT (X:=fh X scope cl N G.objs.size s H fp) _ s9 _ H9 (.ref s.heap.objs.size) [zv] (.ref s.heap.objs.size) [z] (fun _ H'=>H'=cW H9 s.heap.objs.size (.lst (ys++[zv]))) I9 rfl (.cons r9 .nil) ⟨_,ys,zv,rfl,rfl,a9,l9,rfl⟩) fun _ s10 ⟨_,H10,I10,_,e10⟩=>?_
    subst e10;exact again I10 n9
 exact codeAny_compStart_list (loop _ rfl) (T.self X.A 0 _ _ _ st1 (loop _ rfl))
theorem lH{wi:TI}(hc:X.calm=true) (hclos:closureFor scope X.env=pure cl) (hcell:∀y∈scope.names,y.2 ≠ .cell) (hkind:scope.kind = .function) (hnames:∀y∈scope.names,y.2 = .local->scope.names.lookup y.1=some .local)
  (hx:scope.names.lookup x=some .local) (hF:gM X scope cl x N fr) (hi:PI X (.Name x px) ir wi) (hf:∀C s H fp,PF (fh X scope cl N C s H fp) ifs tf) (he:∀C s H fp,PE (fh X scope cl N C s H fp) elt te)
  (hs:∀x,foldedSetIterable ir X.env x=pure x:=by intro _;rfl):PE X (.ListComp elt [⟨.Name x px,ir,ifs,0⟩] scope pos) (B6 wi fr tf te):=by
 intro ab s σ H Q I h;rw[eval_ListComp];refine wpAny_comprehension_free (use:=none) rfl hs hclos hkind hnames (eE (hi ab s σ H _ I h) fun v s1 h1=>eE h1 fun itv s2 h2=>?_)
 obtain⟨it,fp,tn,J,H2,e,I2,T,st2,f2,q2⟩:=h2;subst e;refine uu (RR:=fun acc C=>compPost (model X.prog X.w) X.A X.xe none (EP X ab σ Q) acc C) hc hcell hkind hx hF hf he I2 T st2 f2 q2 ?_
 intro acc C s' Hf m I' hm fC q;refine⟨m,hm,fun h' sb=>⟨.ref acc,Hf,?_,rfl,q⟩⟩
 exact I'.turned (t':=s'.toks) (fun b o hb e=>(sb.2 b hb).trans e) fC.1 fC.2.1 fC.2.2.2.1 fC.2.2.2.2.1 fC.2.2.2.2.2
theorem sj{wi:TI}{y:Str}{i:Nat}{py spos:Pos}(hc:X.calm=true) (hN:X.N.Nodup) (PX:X.N[i]?=some y) (hy:Oj X.env.scope y) (hclos:closureFor scope X.env=pure cl) (hcell:∀y∈scope.names,y.2 ≠ .cell) (hkind:scope.kind = .function)
  (hnames:∀y∈scope.names,y.2 = .local->scope.names.lookup y.1=some .local)
  (hx:scope.names.lookup x=some .local) (hF:gM X scope cl x N fr) (hi:PI X (.Name x px) ir wi) (hf:∀C s H fp,PF (fh X scope cl N C s H fp) ifs tf) (he:∀C s H fp,PE (fh X scope cl N C s H fp) elt te)
  (hsw:swapsWith (.ListComp elt [⟨.Name x px,ir,ifs,0⟩] scope pos) (some (.Name y py)) spos.line X.env=pure true:=by rfl) (hs:∀x,foldedSetIterable ir X.env x=pure x:=by intro _;rfl)
  (hfn:X.fn y=true∨X.env.scope.names.lookup y=some .local:=by first|exact .inl rfl|exact .inr rfl|assumption) :
  PS X (.Assign [.Name y py] (.ListComp elt [⟨.Name x px,ir,ifs,0⟩] scope pos) spos) (Ao (B6 wi fr tf te) (eD i)):=by
 intro ab s σ H D I h;rw[exec_Assign_Name_used _ _ _ _ hsw];refine wpAny_bind (wpAny_standAt (wpAny_bind ?_));show wpAny _ X.A (do let _ ←comprehension (.ListComp elt [⟨.Name x px,ir,ifs,0⟩] scope pos) scope X.env _ (newList []) false (eval ir X.env) (some (assign (.Name y py) X.env))) _ _ s
 refine wpAny_bind (wpAny_mono (wpAny_comprehension_free (use:=some (assign (.Name y py) X.env)) (Q:=fun _ s'=>SP X ab D .next s') rfl hs hclos hkind hnames
  (eE (hi ab s σ H _ I h) fun v s1 h1=>eE h1 fun itv s2 h2=>?_)) (fun _ s' hq=>wpAny_pure (wpAny_pure hq)) fun _ _ e=>e)
 obtain⟨it,fp,tn,J,H2,e,I2,T,st2,f2,q2⟩:=h2;subst e;refine uu (RR:=fun acc C=>compPost (model X.prog X.w) X.A X.xe (some (assign (.Name y py) X.env)) (fun _ s'=>SP X ab D .next s') acc C) (Q:=fun v H'=>D.nx (σ.set i (some v)) H') hc hcell hkind hx hF hf he I2 T st2 f2 q2 ?_
 intro acc C s' Hf m I' hm fC q;obtain⟨o,es,ep,ho,hd,r⟩:=id hm;have I1:Inv X (ab++[(C,o)]) σ Hf s':=I'.pins_of fun p hp=>(mAq.mp hp).elim (fun z=>I'.pin p (SB _ z)) fun z=>by
  have e:p=(C,o):=by simpa using z
  subst e;exact⟨ho,fC.1,fC.2.1,fC.2.2.1,fun v z=>by rw[hd]at z;cases z⟩
 refine eE (bR (X:=X) (i:=i) (pos:=py) hN PX hy hfn _ s' σ Hf (.ref acc) (.ref acc) _ I1 rfl q) fun _ s2 ⟨σ2,H2,I2,q2⟩=>?_
 have pC:=I2.pin (C,o) (SB _ (SB _ (by simp)))
 refine⟨m,⟨o,es,ep,pC.1,hd,r⟩,fun h' sb=>⟨σ2,H2,?_,q2⟩⟩
 exact I2.unpinned.turned (t':=s2.toks) (fun b u hb e=>(sb.2 b hb).trans e) pC.2.1 fC.2.1 fC.2.2.2.1 fC.2.2.2.2.1 fC.2.2.2.2.2
end
end Mr
namespace MrS
open PySem PyProof.Rows
section
variable {prog:Program}{w:World}{A:Around}{E:Value->Shared->Prop}{s:Shared}{Pk:Keyed->Prop}{lt:Keyed->Keyed->Bool}
noncomputable abbrev ie(h:Heap) (a:Addr) (vs:List Value):Heap:=((h.update a (Obj.mapSeq fun _=>#[])).push (seqObj "tuple" vs.toArray 0)).push (seqObj "list" #[] 0)
theorem ot{a:Addr}{vs:List Value}{n:Nat}{P:PySem.Fin->Shared->Prop}(ho:s.heap.get? a=some (seqObj "list" vs.toArray n)) (hs:vs.length<=sizeLine)
  (hkk:2<=vs.length->∀Q:SortKind->Shared->Prop,Q oneType' { s with heap:=ie s.heap a vs }->wpAny (model prog w) A (keyKind' vs.toArray) Q E { s with heap:=ie s.heap a vs })
  (C:nL prog w A { s with heap:=ie s.heap a vs } oneType' Pk lt) (hp:∀x,x∈pairsOf vs->Pk x)
  (h:∀xs:Array Keyed,xs.Perm (pairsOf vs)->oE lt xs 0 (pairsOf vs).size->P (.done (.ret .none)) { s with heap:=sortedHeap s.heap a vs (xs.map (·.2)) }) :
  wpAny (model prog w) A (Builtin.«list.sort» ⟨[.ref a],[]⟩) P E s:=by
 rw[list_sort_plain];have ha:a<s.heap.objs.size:=Sl ho;refine wpAny_bind (listItems_at ho rfl ?_);refine wpAny_bind (listUpdate_at ho rfl ?_ (hsz:=by simpa using hs))
 obtain⟨e1,ho1⟩:∃e1,(s.heap.update a (Obj.mapSeq fun _=>#[])).get? a=some (seqObj "list" #[] e1):=⟨_,get?_update_seq ho (fun _=>#[])⟩
 refine wpAny_bind (seqEpoch_at ho1 rfl ?_);refine wpAny_bind (wpAny_newTuple ?_);refine wpAny_bind (wpAny_newList ?_);refine wpAny_holding ?_;have ho6:(ie s.heap a vs).get? a=some (seqObj "list" #[] e1):=by
  rw[Vr _ _ _ (by rw[size_push',Vd];exact SU (UI ha)),Vr _ _ _ (by rw[Vd];exact SU ha)]
  exact ho1
 show wpAny (model prog w) A _ P E { s with heap:=ie s.heap a vs }
 dsimp only;have hsz:vs.toArray.size=vs.length:=by simp
 have hs':sizeLine=16777216:=sizeLine_eq
 by_cases h2:vs.toArray.size<2
 .rw [if_pos h2,if_pos h2];refine wpAny_bind (wpAny_pure ?_);rw[StateT.run_pure];refine wpAny_bind (wpAny_pure ?_);dsimp only;refine wpAny_bind (seqEpoch_at ho6 rfl ?_);refine wpAny_bind (listUpdate_at ho6 rfl ?_ (hsz2:=by rw[Xa];show (pairsOf vs).size<=_;rw[pairsOf_size,sizeLine_eq];lia))
  simp only[bne_self_eq_false,Vk,if_false];refine wpAny_pure (h _ (W5.refl _) ?_);intro i j x y _ hij hj ex ey;have:i=j:=by rw[pairsOf_size]at hj;lia
  subst this;rw[ex]at ey;cases ey;exact C.refl (hp x (aQq ex))
 .rw [if_neg h2,if_neg h2];refine wpAny_bind (hkk (by lia) _ ?_)
  refine wpAny_bind (wpAny_mono (wW C (arr:=pairsOf vs) (g:=7) (E:=E)
   (Q:=fun _ st'=>∃xs p g',st'=mB oneType' xs p g'/\xs.Perm (pairsOf vs)/\oE lt xs 0 (pairsOf vs).size) hp (by rw[pairsOf_size];lia) fun xs p g' a1 a2=>⟨xs,p,g',rfl,a1,a2⟩) ?_ fun _ _ e=>e)
  rintro⟨⟨⟩,st'⟩ s' ⟨rfl,xs,p,g',rfl,hpm,hsg⟩;dsimp only;refine wpAny_bind (seqEpoch_at ho6 rfl ?_);refine wpAny_bind (listUpdate_at ho6 rfl ?_ (hsz2:=by refine TV (VN ((Xa ..).trans (hpm.size_eq.trans (pairsOf_size _)))) ?_;lia))
  simp only[bne_self_eq_false,Vk,if_false];exact wpAny_pure (h xs hpm hsg)
theorem B2{h:Heap}{a:Addr}{xs:Array Value}{n:Nat}(vs:List Value) (ho:h.get? a=some (seqObj "list" xs n)):∃e1,(ie h a vs).get? a=some (seqObj "list" #[] e1):=by
 have ha:a<h.objs.size:=Sl ho;obtain⟨e1,ho1⟩:∃e1,(h.update a (Obj.mapSeq fun _=>#[])).get? a=some (seqObj "list" #[] e1):=⟨_,get?_update_seq ho (fun _=>#[])⟩
 refine⟨e1,?_⟩;rw[Vr _ _ _ (by rw[size_push',Vd];exact SU (UI ha)),Vr _ _ _ (by rw[Vd];exact SU ha)]
 exact ho1
theorem B5{h:Heap}{a:Addr}{xs:Array Value}{n:Nat}(ys:Array Value) (ho:h.get? a=some (seqObj "list" xs n)):∃n1,(h.update a (Obj.mapSeq fun _=>ys)).get? a=some (seqObj "list" ys n1):=⟨_,get?_update_seq ho (fun _=>ys)⟩
theorem jO{vs:List Value}{x:Keyed}(h:x∈pairsOf vs):x.1∈vs/\x.2=x.1:=by
 obtain⟨i,hi,e⟩:=Array.mem_iff_getElem.mp h;have hi':i<vs.length:=by rw[pairsOf_size]at hi;exact hi
 have:x=(vs[i],vs[i]):=by
  rw[←e];simp[pairsOf]
 rw[this];exact⟨gRq hi',rfl⟩
theorem ri{vs:List Value}{xs:Array Keyed}(hp:xs.Perm (pairsOf vs)) (hs:oE lt xs 0 (pairsOf vs).size) :
  (xs.map (·.2)).toList.Perm vs/\(xs.map (·.2)).toList.Pairwise (fun x y=>lt (y,y) (x,x)=false):=by
 constructor
 .have:=hp.toList.map (·.2);have e:(pairsOf vs).toList.map (·.2)=vs:=by
   have:(pairsOf vs).toList=vs.zip vs:=by simp[pairsOf]
   rw[this];apply List.ext_getElem
   .simp
   .intro i h1 h2;simp
  rw[e]at this;rw[Array.toList_map];exact this
 .rw [Ul];intro i j hi hj hij;have hi':i<xs.size:=by simpa using hi
  have hj':j<xs.size:=by simpa using hj
  have z:=hs i j xs[i] xs[j] (Tf _) (T8 hij) (by rw[←hp.size_eq];exact hj') (by simp[hi']) (by simp[hj'])
  have m1:=jO (hp.mem_iff.mp (Td hi'));have m2:=jO (hp.mem_iff.mp (Td hj'));have e1:xs[i]=(xs[i].2,xs[i].2):=WE m1.2.symm rfl;have e2:xs[j]=(xs[j].2,xs[j].2):=WE m2.2.symm rfl;rw[e1,e2]at z;simpa using z
theorem tT{l:Addr}{vs:List Value}{Q:Value->Shared->Prop}(hl:s.heap.IsList l vs.toArray) (hs:vs.length<=sizeLine)
  (hC:∀s':Shared,(∀b o,s.heap.get? b=some o->s'.heap.get? b=some o)->(2<=vs.length->∀Q:SortKind->Shared->Prop,Q oneType' s'->wpAny (model prog w) A.in1.in1 (keyKind' vs.toArray) Q E s')/\nL prog w A.in1.in1 s' oneType' Pk lt)
  (hp:∀v∈vs,Pk (v,v))
  (h:∀(out:List Value) (h':Heap) (n':Nat),out.Perm vs->out.Pairwise (fun x y=>lt (y,y) (x,x)=false)->(∀b o,s.heap.get? b=some o->h'.get? b=some o) ->
   h'.get? (s.heap.objs.size+1)=some (seqObj "list" out.toArray n')->Q (.ref (s.heap.objs.size+1)) { s with heap:=h' }) :
  wpAny (model prog w) A (call (.builtin "sorted") [.ref l]) Q E s:=by
 refine Calls.call_function_entry kind_sorted plain_sorted entry_sorted (args_sorted1 _) ?_;unfold Builtin.«sorted»;refine wpAny_bind (m:=checkCount "sorted" 1 1 _) (wpAny_pure ?_);refine wpAny_bind (collect_list hl ?_ hs);refine wpAny_bind (wpAny_newList ?_);have hsz:((s.heap.push (seqObj "list" #[] 0)).update s.heap.objs.size (Obj.mapSeq (· ++ vs.toArray))).objs.size=s.heap.objs.size+1:=by
  rw[Vd,size_push']
 have hoL:(((s.heap.push (seqObj "list" #[] 0)).update s.heap.objs.size (Obj.mapSeq (· ++ vs.toArray))).push (seqObj "list" vs.toArray 0)).get? (s.heap.objs.size+1)=some (seqObj "list" vs.toArray 0):=by
  rw[←hsz];exact Tp _ rfl
 show wpAny _ _ _ _ _ { s with heap:=((s.heap.push (seqObj "list" #[] 0)).update s.heap.objs.size (Obj.mapSeq (· ++ vs.toArray))).push (seqObj "list" vs.toArray 0) }
 rw[hsz];generalize hG:((s.heap.push (seqObj "list" #[] 0)).update s.heap.objs.size (Obj.mapSeq (· ++ vs.toArray))).push (seqObj "list" vs.toArray 0)=G at hoL ⊢;have k1:∀b o,s.heap.get? b=some o->G.get? b=some o:=fun b o e=>by
  rw[←hG];refine Sn _ ?_;rw[UW _ _ _ _ (SU (Sl e))];exact Sn _ e
 have k2:∀b o,s.heap.get? b=some o->(ie G (s.heap.objs.size+1) vs).get? b=some o:=fun b o e=>by
  refine Sn _ (Sn _ ?_);rw[UW _ _ _ _ (SU (UI (Sl e)))];exact k1 b o e
 obtain⟨q1,q2⟩:=hC { s with heap:=ie G (s.heap.objs.size+1) vs } k2
 refine wpAny_bind (wpAny_holding (wpAny_call_entry slot_list_sort ⟨_,hoL,rfl⟩ entry_list_sort (ot (Pk:=Pk) (lt:=lt) hoL hs q1 q2 (fun x hx=>?_) fun xs a1 a2=>⟨_,rfl,?_⟩) (args_list_sort _)))
 .obtain ⟨m1,m2⟩:=jO hx;have:x=(x.1,x.1):=WE rfl m2;rw[this];exact hp _ m1
 .obtain ⟨v1,v2⟩:=ri a1 a2;obtain⟨e1,ho1⟩:=B2 vs hoL;obtain⟨n1,g1⟩:=B5 (xs.map (·.2)) ho1;refine wpAny_pure ⟨_,rfl,h _ (sortedHeap G (s.heap.objs.size+1) vs (xs.map (·.2))) n1 v1 v2 (fun b o e=>?_) ?_⟩
  .unfold sortedHeap;rw[UW _ _ _ _ (SU (UI (Sl e)))];exact k2 b o e
  .rw [show (xs.map (·.2)).toList.toArray=xs.map (·.2) from Wv]
   exact g1
end
end MrS
namespace HT
open PySem PyProof.Rows
section
open PySem.SeqAt
open PySem.AutoSeq1 (wpAny_loadPart')
open PySem.MeetsSeq PySem.MeetsSeq2 PySem.MeetsSeq3 PySem.SeqRoads2
theorem yw{vs:List Value}{ns:List Int}(h:IntsAre vs ns):∀{i:Nat}(hi:i<vs.length),∃(z:Int) (t:Tok),vs[i] = .int z t/\ns.drop i=z::ns.drop (i+1):=by
 induction h with
 |nil=>intro i hi;exact absurd hi (Uc _)
 |cons a t _ ih =>
  intro i hi;cases i with
  |zero=>exact⟨a,t,rfl,rfl⟩
  |succ i=>exact ih (i:=i) (by simpa using hi)
theorem wZ(l b:Addr) (items items2:Array Value) (n n2:Nat) (dd dd2:Option Addr) (sl sl2:Array (Option Value)) (ns ms:List Int) (hi:IntsAre items.toList ns) (hj:IntsAre items2.toList ms) (k:Nat) :
  ∀i:Nat,min items.size items2.size-i=k->i<=items.size->i<=items2.size->Meets (Builtin.«list.__eq__.loop» ⟨[.ref l,.ref b,rawInt i,rawInt 0],[]⟩)
   (fun _ R s=>s.heap.get? l=some { cls:=.type "list", dict:=dd,data:=.seq items n,slots:=sl }/\s.heap.get? b=some { cls:=.type "list", dict:=dd2,data:=.seq items2 n2,slots:=sl2 } /\
    R (.ok (.ret (.bool (eR (ns.drop i) (ms.drop i))))) s):=by
 have z1:ns.length=items.size:=by rw[←hi.length];simp
 have z2:ms.length=items2.size:=by rw[←hj.length];simp
 induction k with
 |zero =>
  intro i hk h1 h2 prog w A R s h;obtain⟨hp,g,d,tk,os⟩:=s;obtain⟨hl,hb,h⟩:=h
  wp_walk using wpAny_loadPart' hl,wpAny_loadPart' hb
  have fin:eR (ns.drop i) (ms.drop i)=decide (items.size<items2.size):=by
   by_cases c:i=items.size
   .have e1:ns.drop i=[]:=Ud (by lia)
    rw[e1]
    by_cases c2:i<items2.size
    .rw [SW (by lia:i<ms.length),tR]
     exact(decide_eq_true (by lia)).symm
    .rw [Ud (by lia:ms.length<=i),vp]
     exact(decide_eq_false (by lia)).symm
   .have c2:i=items2.size:=by lia
    rw[SW (by lia:i<ns.length),Ud (by lia:ms.length<=i),tJ]
    exact(decide_eq_false (by lia)).symm
  rw[fin]at h
  by_cases c:i=items.size
  .have HP:items[((i:Nat):Int).toNat]?=none:=by simp;lia
   rw[HP]
   wp_walk using wpAny_loadPart' hl,wpAny_loadPart' hb
   exact h
  .have c2:i=items2.size:=by lia
   have HP:items[((i:Nat):Int).toNat]?=some (items[i]'(by lia)):=by simp
   have hi2:items2[((i:Nat):Int).toNat]?=none:=by simp;lia
   rw[HP,hi2]
   wp_walk using wpAny_loadPart' hl,wpAny_loadPart' hb
   exact h
 |succ k ih =>
  intro i hk h1 h2 prog w A R s h;obtain⟨hp,g,d,tk,os⟩:=s;obtain⟨hl,hb,h⟩:=h
  wp_walk using wpAny_loadPart' hl,wpAny_loadPart' hb
  have hlt:i<items.size:=by lia
  have hlt2:i<items2.size:=by lia
  obtain⟨x,t,ex,dx⟩:=yw hi (i:=i) (by simpa using hlt)
  obtain⟨y,u,ey,dy⟩:=yw hj (i:=i) (by simpa using hlt2)
  have HP:items[((i:Nat):Int).toNat]?=some (.int x t):=by
   rw[←ex];simp[hlt]
  have hi2:items2[((i:Nat):Int).toNat]?=some (.int y u):=by
   rw[←ey];simp[hlt2]
  have hc:((i:Int)+1)=((i+1:Nat):Int):=by push_cast;rfl
  rw[dx,dy,mh]at h;rw[HP,hi2];obtain⟨e,he,hiff⟩:=Gh A.in1 ⟨hp,g,d,tk,os⟩ x t y u;refine wpAny_bind (he prog w _ _ ?_);cases e with
  |true =>
   rw[if_pos (hiff.mp rfl)]at h
   wp_walk
   rw[hc];exact⟨plainId_quiet plain_eq_loop _,codeAny_builtin entry_eq_loop (by
    rw[Around.under_plainId plain_eq_loop _];exact ih (i+1) (by lia) (by lia) (by lia) prog w A R _ ⟨hl,hb,h⟩)⟩
  |false =>
   rw[if_neg (fun q=>absurd (hiff.mpr q) SN)]at h
   have hri:=Hu A.in1 ⟨hp,g,d,tk,os⟩ x t y u prog w
   wp_walk using wpAny_loadPart' hl,wpAny_loadPart' hb
   rw[HP,hi2]
   wp_walk using hri
   exact h
theorem xW(l b:Addr) (items items2:Array Value) (n n2:Nat) (dd dd2:Option Addr) (sl sl2:Array (Option Value)) (ns ms:List Int) (hi:IntsAre items.toList ns) (hj:IntsAre items2.toList ms) :
  Meets (Builtin.«list.__lt__» ⟨[.ref l,.ref b],[]⟩)
   (fun _ R s=>s.heap.get? l=some { cls:=.type "list", dict:=dd,data:=.seq items n,slots:=sl }/\s.heap.get? b=some { cls:=.type "list", dict:=dd2,data:=.seq items2 n2,slots:=sl2 } /\
    R (.ok (.ret (.bool (eR ns ms)))) s):=by
 intro prog w A R s h;obtain⟨hp,g,d,tk,os⟩:=s;obtain⟨hl,hb,h⟩:=h;have f3:=AutoSeq1.sub_list_list
 wp_walk using wpAny_loadPart' hl,wpAny_loadPart' hb
 exact⟨plainId_quiet plain_eq_loop _,codeAny_builtin entry_eq_loop (by
  rw[Around.under_plainId plain_eq_loop _];exact wZ l b items items2 n n2 dd dd2 sl sl2 ns ms hi hj _ 0 rfl (Tf _) (Tf _) prog w A R _ ⟨hl,hb,h⟩)⟩
end
end HT
namespace Mr
open PySem PySem.Spec PyProof.Rows L2
section
open HT
theorem uv:∀xs ys:List Int,eR xs ys=true->eR ys xs=false
 | [],[],_=>rfl
 | [],_::_,_=>rfl
 |_::_,[],h=>by cases h
 |x::xs,y::ys,h=>by
  rw[mh]at h ⊢
  by_cases e:x=y
  .rw [if_pos e]at h;rw[if_pos e.symm];exact uv xs ys h
  .rw [if_neg e]at h;rw[if_neg (Ne.symm e)];have h':x<y:=of_decide_eq_true h;exact decide_eq_false (by lia)
theorem qv:∀xs ys zs:List Int,eR ys xs=false->eR zs ys=false->eR zs xs=false
 | [],[],[],_,_=>rfl
 | [],[],_::_,_,h=>by exact h
 | [],_::_,[],_,h=>by cases h
 | [],_::_,_::_,_,_=>rfl
 |_::_,[],_,h,_=>by cases h
 |_::_,_::_,[],_,h=>by cases h
 |x::xs,y::ys,z::zs,h1,h2=>by
  rw[mh]at h1 h2 ⊢
  by_cases e1:y=x
  .rw [if_pos e1]at h1;subst e1
   by_cases e2:z=y
   .rw [if_pos e2]at h2 ⊢;exact qv xs ys zs h1 h2
   .rw [if_neg e2]at h2 ⊢;exact h2
  .rw [if_neg e1]at h1;have h1':¬ y<x:=of_decide_eq_false h1
   by_cases e2:z=y
   .rw [if_neg (by lia)]
    exact decide_eq_false (by lia)
   .rw [if_neg e2]at h2;have h2':¬ z<y:=of_decide_eq_false h2;rw[if_neg (by lia)]
    exact decide_eq_false (by lia)
theorem zu:∀xs ys:List Int,eR xs ys=false->eR ys xs=false->xs=ys
 | [],[],_,_=>rfl
 | [],_::_,h,_=>by cases h
 |_::_,[],_,h=>by cases h
 |x::xs,y::ys,h1,h2=>by
  rw[mh]at h1 h2
  by_cases e:x=y
  .rw [if_pos e]at h1;rw[if_pos e.symm]at h2;rw[e,zu xs ys h1 h2]
  .rw [if_neg e]at h1;rw[if_neg (Ne.symm e)]at h2;have h1':¬ x<y:=of_decide_eq_false h1;have h2':¬ y<x:=of_decide_eq_false h2;lia
def IG(x y:List Int):Bool:=!HT.eR y x
theorem Ek(x y z:List Int) (h1:IG x y=true) (h2:IG y z=true):IG x z=true:=by
 unfold IG at *;simp only[Bool.not_eq_true']at *;exact qv x y z h1 h2
theorem DN(x y:List Int):(IG x y || IG y x)=true:=by
 unfold IG;cases h:HT.eR y x with
 |false=>rfl
 |true=>rw[uv y x h];rfl
def eK(rs:List (List Int)):List (List Int):=rs.mergeSort IG
theorem aS(rs:List (List Int)):(eK rs).Perm rs:=WA _ _
theorem pd(rs:List (List Int)):(eK rs).Pairwise (fun x y=>HT.eR y x=false):=by
 refine(Wa Ek DN rs).imp fun {a b} h=>?_
 unfold IG at h;simpa using h
theorem vf:∀{xs ys:List (List Int)},xs.Perm ys->xs.Pairwise (fun x y=>HT.eR y x=false)->ys.Pairwise (fun x y=>HT.eR y x=false)->xs=ys
 |xs,ys,hp,h1,h2=>TN.eq_of_pairwise (fun a b _ _ e1 e2=>(zu b a e1 e2).symm) h1 h2 hp
theorem AD{xs rs:List (List Int)}(hp:xs.Perm rs) (h:xs.Pairwise (fun x y=>HT.eR y x=false)):xs=eK rs :=
 vf (hp.trans (aS rs).symm) h (pd rs)
theorem nR{rs ts:List (List Int)}(hp:rs.Perm ts):eK rs=eK ts:=AD ((aS rs).trans hp) (pd rs)
theorem cJ(rs:List (List Int)):(eK rs).length=rs.length:=(aS rs).length_eq
noncomputable def ff(ns:List Int):List Int:=ns.mergeSort (fun x y=>decide (x<=y))
theorem gP(ns:List Int):(ff ns).Perm ns:=WA _ _
theorem rJ(ns:List Int):(ff ns).Pairwise (·<=·):=by
 refine(Wa (le:=fun x y=>decide (x<=y)) (fun a b c h1 h2=>?_) (fun a b=>?_) ns).imp fun {a b} h=>by simpa using h
 .simp only [decide_eq_true_eq]at *;lia
 .simp only [W1,decide_eq_true_eq];lia
theorem Br{xs ns:List Int}(hp:xs.Perm ns) (h:xs.Pairwise (·<=·)):xs=ff ns :=
 TN.eq_of_pairwise (fun a b _ _ e1 e2=>Int.le_antisymm e1 e2) h (rJ ns) (hp.trans (gP ns).symm)
end
def dh(H:Hp) (ps:List Addr) (rs:List (List Int)):Prop:=ps.map H=rs.map (fun r=>some (HO.lst (r.map V.int)))
theorem dh.nil{H:Hp}:dh H [] []:=rfl
theorem dh.length{H:Hp}{ps:List Addr}{rs:List (List Int)}(h:dh H ps rs):ps.length=rs.length:=by
 have:=congrArg TJ h;simpa using this
theorem dh.cons_iff{H:Hp}{ps:List Addr}{rs:List (List Int)}{p:Addr}{r:List Int}:dh H (p::ps) (r::rs)↔H p=some (.lst (r.map V.int))/\dh H ps rs:=by
 unfold dh;rw[Sq,Sq,WQ.injEq]
theorem dh.get{H:Hp}{ps:List Addr}{rs:List (List Int)}(h:dh H ps rs) {i:Nat}{p:Addr}(e:ps[i]?=some p):∃r,rs[i]?=some r/\H p=some (.lst (r.map V.int)):=by
 have:=congrArg (fun l=>l[i]?) h
 simp only[gMq,e,Uh]at this;cases er:rs[i]? with
 |none=>rw[er]at this;cases this
 |some r=>rw[er]at this;exact⟨r,rfl,Sz.inj this⟩
theorem dh.mem{H:Hp}{ps:List Addr}{rs:List (List Int)}(h:dh H ps rs) {p:Addr}(hp:p∈ps):∃r,r∈rs/\H p=some (.lst (r.map V.int)):=by
 obtain⟨i,hi⟩:=List.getElem?_of_mem hp;obtain⟨r,er,e⟩:=h.get hi;exact⟨r,mGq er,e⟩
theorem dh.keep{H H':Hp}{ps:List Addr}{rs:List (List Int)}(h:dh H ps rs) (k:∀p∈ps,H' p=H p):dh H' ps rs:=by
 unfold dh at *;rw[←h];exact mCq k
theorem dh.same{H H':Hp}{ps:List Addr}{rs:List (List Int)}(h:dh H ps rs) (s:bW H H'):dh H' ps rs :=
 h.keep fun p hp=>by
  obtain⟨r,_,e⟩:=h.mem hp;rw[s _ _ e,e]
noncomputable def R5:V->Int
 | .int i=>i
 |_=>0
def gO(H:Hp) (p:Addr):List Int:=match H p with
 |some (.lst xs)=>xs.map R5
 |_=>[]
theorem zc{H:Hp}{p:Addr}{r:List Int}(h:H p=some (.lst (r.map V.int))):gO H p=r:=by
 unfold gO;rw[h];simp only[mPq];exact List.map_id'' (fun _=>rfl) r
theorem dh.fn{H:Hp}{ps:List Addr}{rs:List (List Int)}(h:dh H ps rs):rs=ps.map (gO H):=by
 induction rs generalizing ps with
 |nil =>
  have:=h.length;have:ps=[]:=TQ.mp this;rw[this];rfl
 |cons r rs ih =>
  cases ps with
  |nil=>have:=h.length;simp at this
  |cons p ps =>
   obtain⟨h1,h2⟩:=dh.cons_iff.mp h;rw[Sq,←ih h2,zc h1]
theorem dh.fn_row{H:Hp}{ps:List Addr}{rs:List (List Int)}(h:dh H ps rs) {p:Addr}(hp:p∈ps):H p=some (.lst ((gO H p).map V.int)):=by
 obtain⟨r,_,e⟩:=h.mem hp;rw[zc e];exact e
theorem dh.of_fn{H:Hp}{ps:List Addr}(h:∀p∈ps,H p=some (.lst ((gO H p).map V.int))):dh H ps (ps.map (gO H)):=by
 unfold dh;rw[mPq];exact mCq h
theorem dh.perm{H:Hp}{ps qs:List Addr}{rs:List (List Int)}(h:dh H ps rs) (hp:qs.Perm ps):∃ts,dh H qs ts/\ts.Perm rs/\ts=qs.map (gO H) :=
 ⟨_,dh.of_fn fun p m=>h.fn_row (hp.mem_iff.mp m),by rw[h.fn];exact hp.map _,rfl⟩
theorem dh.free{H H':Hp}{ps:List Addr}{rs:List (List Int)}(h:dh H' ps rs) {q:Addr}(n:H' q=none):q∉ps:=fun m=>by
 obtain⟨r,_,e⟩:=h.mem m;rw[n]at e;cases e
theorem qI:∀{ps:List Addr}{vs:List Value},bz (ps.map V.ref) vs->vs=ps.map TY
 | [],vs,r=>by cases r;rfl
 |p::ps,vs,r=>by
  rw[Sq]at r;cases r with
  |cons h1 h2 =>
   have e:_=TY p:=h1;rw[e,qI h2];rfl
theorem vZ:∀(ps:List Addr),bz (ps.map V.ref) (ps.map TY)
 | []=>.nil
 |p::ps=>.cons rfl (vZ ps)
noncomputable def oI:Value->Addr
 | .ref p=>p
 |_=>0
noncomputable def intOf:Value->Int
 | .int i _=>i
 |_=>0
theorem xv{vs:List Value}{ns:List Int}(h:IntsAre vs ns):ns=vs.map intOf/\∀v∈vs,∃a t,v = .int a t:=by
 induction h with
 |nil=>exact⟨rfl,fun v hv=>by cases hv⟩
 |cons a t _ ih =>
  refine⟨by rw[Sq,←ih.1];rfl,fun v hv=>?_⟩
  rcases Si.mp hv with rfl|hv
  .exact ⟨a,t,rfl⟩
  .exact ih.2 v hv
theorem vals_ints:∀{vs:List Value},(∀v∈vs,∃a t,v = .int a t)->bz ((vs.map intOf).map V.int) vs
 | [],_=>.nil
 |v::vs,h=>by
  obtain⟨a,t,rfl⟩:=h _ (Ss ..);exact .cons ⟨t,rfl⟩ (vals_ints fun v hv=>h v (mCo _ hv))
theorem J2{M:Model}{A:Around}{E:Value->Shared->Prop}{s:Shared}{vs:List Value}{T:String}{Q:SortKind->Shared->Prop}(h2:2<=vs.length) (hT:∀v∈vs,W.Looks M s.heap (typeOf v) (.type T)) (hT1:(U8 T != U8 "tuple")=true) (hT2:(U8 T == U8 T)=true) (h:Q oneType' s) :
  wpAny M A (keyKind' vs.toArray) Q E s:=W.kas_kind h2 hT hT1 hT2 h
noncomputable def QH(x y:Keyed):Bool:=match x.1,y.1 with
 | .int a _,.int b _=>decide (a<b)
 |_,_=>false
theorem Oz(prog:Program) (w:World) (A:Around) (s:Shared):MrS.nL prog w A s oneType' (fun x=>∃a t,x.1 = .int a t) QH where
 ask:=by
  rintro⟨_,x⟩ ⟨_,y⟩ ⟨a,t,e1⟩ ⟨b,u,e2⟩ E Q q;dsimp only at e1 e2;subst e1 e2;rw[keyLt'_oneType];exact oneLt_int q
 asym:=by
  rintro⟨_,x⟩ ⟨_,y⟩ ⟨a,t,e1⟩ ⟨b,u,e2⟩ h;dsimp only at e1 e2;subst e1 e2;have h':a<b:=of_decide_eq_true h;exact decide_eq_false (by lia)
 trans:=by
  rintro⟨_,x⟩ ⟨_,y⟩ ⟨_,z⟩ ⟨a,t,e1⟩ ⟨b,u,e2⟩ ⟨c,v,e3⟩ h1 h2;dsimp only at e1 e2 e3;subst e1 e2 e3;have h1':¬ b<a:=of_decide_eq_false h1;have h2':¬ c<b:=of_decide_eq_false h2;exact decide_eq_false (by lia)
def Rx(r:Addr->List Int) (x y:Keyed):Bool:=match x.1,y.1 with
 | .ref p,.ref q=>HT.eR (r p) (r q)
 |_,_=>false
theorem Qt{prog:Program}{w:World}{A:Around}{s:Shared}{ps:List Addr}{r:Addr->List Int}(hu:A.units<cLine)
  (h:∀p∈ps,∃vs:List Value,PlainL s.heap p vs.toArray/\IntsAre vs (r p)):MrS.nL prog w A s oneType' (fun x=>∃p,x.1 = .ref p/\p∈ps) (Rx r) where
 ask:=by
  rintro⟨_,x⟩ ⟨_,y⟩ ⟨p,e1,hp⟩ ⟨q,e2,hq⟩ E Q k;dsimp only at e1 e2;subst e1 e2;obtain⟨vs,⟨o,n,ho,hc,hd0,hd⟩,hi⟩:=h p hp;obtain⟨ws,⟨o2,n2,ho2,hc2,hd02,hd2⟩,hj⟩:=h q hq;obtain⟨cls,dd,data,sl⟩:=o;obtain⟨cls2,dd2,data2,sl2⟩:=o2;simp only at hc hd0 hd hc2 hd02 hd2;subst hc hd0 hd hc2 hd02 hd2;rw[keyLt'_oneType,oneLt'_eq];simp only[if_true];refine wpAny_bind (wpAny_cRoomFor hu ?_);refine wpAny_bind (wpAny_callSpecialIfBound?_slot ⟨_,ho,rfl⟩ F.slot_list_lt (call_meets F.slot_list_lt ⟨_,ho,rfl⟩ F.entry_list_lt (F.args_list_lt_2 _ _)
   (HT.xW p q vs.toArray ws.toArray n n2 none none sl sl2 (r p) (r q) (by simpa using hi) (by simpa using hj)) ⟨ho,ho2,?_⟩))
  exact wpAny_truthy_bool k
 asym:=by
  rintro⟨_,x⟩ ⟨_,y⟩ ⟨a,e1,_⟩ ⟨b,e2,_⟩ h;dsimp only at e1 e2;subst e1 e2;exact uv _ _ h
 trans:=by
  rintro⟨_,x⟩ ⟨_,y⟩ ⟨_,z⟩ ⟨a,e1,_⟩ ⟨b,e2,_⟩ ⟨c,e3,_⟩ h1 h2;dsimp only at e1 e2 e3;subst e1 e2 e3;exact qv _ _ _ h1 h2
section
variable {X:Cx}
theorem wR:eC X (.builtin "sorted") (fun xs H Q=>∃(a:Addr) (ns:List Int),xs=[.ref a]/\dP X.K H a (ns.map V.int)/\∀p,H p=none->Q (.ref p) (cW H p (.lst ((ff ns).map V.int)))):=by
 intro ab s σ H xs us Q I r h;obtain⟨a,ns,rfl,hS,q⟩:=h;obtain⟨u,rfl,ru⟩:=oe r;cases ru;obtain⟨vs,hl,hi,hz⟩:=qe I hS;obtain⟨en,hv⟩:=xv hi;have hlen:=hi.length;refine MrS.tT (Pk:=fun x=>∃a t,x.1 = .int a t) (lt:=QH) hl (by lia) (fun s' _=>⟨fun h2 Q q=>?_,Oz _ _ _ _⟩) (fun v m=>hv v m) fun out h' n' o1 o2 o3 o4=>?_
 .match vs,hi,h2 with
  | [],_,h2=>simp at h2
  | [_],_,h2=>simp at h2
  |v₁::v₂::rest,hi,_ =>
   rw[keyKind_ints hi];exact wpAny_pure q
 .have ho:∀v∈out,∃a t,v = .int a t:=fun v m=>hv v (o1.mem_iff.mp m)
  have e:out.map intOf=ff ns:=by
   refine Br (by rw[en];exact o1.map _) ?_
   rw[S8];refine o2.imp_of_mem fun {x y} mx my h=>?_
   obtain⟨a,t,rfl⟩:=ho x mx;obtain⟨b,u,rfl⟩:=ho y my;have h':¬ b<a:=of_decide_eq_false h;show a<=b;lia
  have hp:H (s.heap.objs.size+1)=none:=I.hok.fresh (Ua _);refine⟨.ref (s.heap.objs.size+1),_,I.laid (t':=s.toks) o3 (Ua _) (show dA X.prog X.w _ h' _ (.lst ((ff ns).map V.int)) from ⟨?_,out,n',?_,o4⟩),rfl,q _ hp⟩
  .rw [lMq,(gP ns).length_eq];exact hz
  .rw [←e];exact vals_ints ho
theorem qa(hu:X.A.units+64<cLine):eC X (.builtin "sorted") (fun xs H Q=>∃(a:Addr) (ps:List Addr) (rs:List (List Int)),xs=[.ref a]/\dP X.K H a (ps.map V.ref)/\dh H ps rs /\
  ∀p qs,H p=none->qs.Perm ps->dh (cW H p (.lst (qs.map V.ref))) qs (eK rs)->Q (.ref p) (cW H p (.lst (qs.map V.ref)))):=by
 intro ab s σ H xs us Q I r h;obtain⟨a,ps,rs,rfl,hS,hE,q⟩:=h;obtain⟨u,rfl,ru⟩:=oe r;cases ru;obtain⟨its,rv,hl,hz⟩:=I.list hS;have ei:=qI rv;subst ei;have hrow:∀p∈ps,∃vs:List Value,PlainL s.heap p vs.toArray/\IntsAre vs (gO H p):=fun p hp=>by
  obtain⟨its,rv,pl,_⟩:=I.list (dP.of (hE.fn_row hp));exact⟨its,pl,oO rv⟩
 have keepL:∀(s':Shared),(∀b o,s.heap.get? b=some o->s'.heap.get? b=some o)->∀p∈ps,∃vs:List Value,PlainL s'.heap p vs.toArray/\IntsAre vs (gO H p):=fun s' k p hp=>by
  obtain⟨vs,⟨o,n,ho,rest⟩,hi⟩:=hrow p hp;exact⟨vs,⟨o,n,k _ _ ho,rest⟩,hi⟩
 refine MrS.tT (Pk:=fun x=>∃p,x.1 = .ref p/\p∈ps) (lt:=Rx (gO H)) hl.isList (by simpa using hz) (fun s' k=>⟨fun h2 Q q=>?_,Qt (by show X.A.units+1+1<cLine;lia) (keepL s' k)⟩) (fun v m=>?_) fun out h' n' o1 o2 o3 o4=>?_
 .refine J2 (T := "list") h2 (fun v hv=>?_) (by rfl) (by rfl) q
  obtain⟨p,hp,rfl⟩:=mMq.mp hv;obtain⟨vs,pl,_⟩:=keepL s' k p hp;intro A Q E s2 k2 q2;obtain⟨o,ho,hc,_⟩:=pl.isList;exact wpAny_typeOf (T := "list") ⟨o,k2 _ _ ho,hc⟩ q2
 .obtain ⟨p,hp,rfl⟩:=mMq.mp m;exact⟨p,rfl,hp⟩
 .have ho:∀v∈out,∃p∈ps,v = .ref p:=fun v m=>by
   obtain⟨p,hp,rfl⟩:=mMq.mp (o1.mem_iff.mp m);exact⟨p,hp,rfl⟩
  have eo:out=(out.map oI).map TY:=by
   rw[mPq];have e:=mCq (l:=out) (f:=id) (g:=TY∘oI) fun v hv=>by
    obtain⟨p,_,rfl⟩:=ho v hv;rfl
   rw[←e,Vb]
  have hq:(out.map oI).Perm ps:=by
   have:=o1.map oI;rw[mPq,show oI∘TY=id from rfl,Vb]at this
   exact this
  have hp:H (s.heap.objs.size+1)=none:=I.hok.fresh (Ua _);generalize out.map oI=qs at eo hq;obtain⟨ts,e1,e2,e3⟩:=hE.perm hq;have es:ts=eK rs:=by
   refine AD e2 ?_;rw[e3,S8];rw[eo,S8]at o2;exact o2
  refine⟨.ref (s.heap.objs.size+1),_,I.laid (t':=s.toks) o3 (Ua _) (show dA X.prog X.w _ h' _ (.lst (qs.map V.ref)) from ⟨?_,out,n',?_,o4⟩),rfl,q _ qs hp hq (by rw[←es];exact e1.same (gw hp))⟩
  .rw [lMq,hq.length_eq];simpa using hz
  .rw [eo];exact vZ qs
noncomputable def kj(r:List Int):PyData:=.list (r.map PyData.int)
def pX(rs:List (List Int)):PyData:=.list (rs.map kj)
theorem rA:∀rs:List (List Int),PyData.canLayAll0 (rs.map kj)=true
 | []=>by simp[PyData.canLayAll0]
 |r::rs=>by simp[PyData.canLayAll0,kj,PyData.canLay0,W.canLayAll0_ints r,rA rs]
theorem uz:∀rs:List (List Int),PyData.depthAll (rs.map kj)<=3
 | []=>by simp[PyData.depthAll]
 |r::rs=>by
  have h1:=uz rs;have h2:=W.depthAll_ints r;simp only[Sq,PyData.depthAll,kj,PyData.depth];lia
theorem rD(rs:List (List Int)):SeqAt.shaped (pX rs)=true:=by
 have h1:=uz rs;have h2:PyData.depth (pX rs)<=64:=by simp only[pX,PyData.depth];lia
 show (PyData.canLay0 (pX rs) && decide (PyData.depth (pX rs)<=64))=true;rw[Uk];exact⟨by simp only[pX,PyData.canLay0];exact rA rs,decide_eq_true h2⟩
theorem tq:∀rs ts:List (List Int),SeqAt.noMixAll (rs.map kj) (ts.map kj)=true
 | [],[]=>by simp[SeqAt.noMixAll]
 | [],_::_=>by simp[SeqAt.noMixAll]
 |_::_,[]=>by simp[SeqAt.noMixAll]
 |r::rs,t::ts=>by simp[SeqAt.noMixAll,kj,SeqAt.noMix,W.noMix_ints r t,tq rs ts]
theorem wj:∀rs ts:List (List Int),PySem.Spec.sameAll (rs.map kj) (ts.map kj)=decide (rs=ts)
 | [],[]=>by simp[PySem.Spec.sameAll]
 | [],_::_=>by simp[PySem.Spec.sameAll]
 |_::_,[]=>by simp[PySem.Spec.sameAll]
 |r::rs,t::ts=>by
  simp only[Sq,PySem.Spec.sameAll,kj,PySem.Spec.same,W.same_ints r t];rw[wj rs ts]
  by_cases h:r=t <;> simp[h]
end
end Mr
namespace Mr
open PySem L2
structure Bt (mg:Str->Option Value):Prop where
 len:mg "len" = none
 min:mg "min" = none
 max:mg "max" = none
 abs:mg "abs" = none
 all:mg "all" = none
 sorted:mg "sorted" = none
 isi:mg "isinstance" = none
 list:mg "list" = none
 int:mg "int" = none
 bool:mg "bool" = none
 str:mg "str" = none
 dict:mg "dict" = none
 zip:mg "zip" = none
 enum:mg "enumerate" = none
 range:mg "range" = none
 reversed:mg "reversed" = none
structure Fn (P:Program) (w:World) (K:W.Frag) (mg:Str->Option Value) (base:Heap) (k:Nat) (x:Str) (st:Stmt) (ps:List Str) (sp:Sp) (f:Addr) (fd:FuncData):Prop where
 D:gJ K mg x st ps f fd
 ok:rO P w K mg base Nf k f fd ps sp
theorem jH.units65{k:Nat}{A:Around}(r:jH k A):A.units+65<cLine:=by have:=r.un;lia
section
variable {X:Cx}{k:Nat}{f:Addr}{fd:FuncData}{ps:List Str}{sp:Sp}{x:Str}{p pos:Pos}{e:Expr}{es:List Expr}{t:TA}{st:Stmt}
theorem bq(G:Fn X.prog X.w X.K X.mg X.base k x st ps sp f fd) (hr:jH k X.A) (ha:PA X (e::es) t) (hg:Gl X x:=by rfl) (hdb:(x == ("__debug__" : Str))=false:=by decide)
  (he:starEach (e::es) X.env=(false,eval e X.env)::starEach es X.env:=by rfl) (hpl:(backTo pos (starEach es X.env)).any (·.1)=false:=by rfl) :
  PE X (.Call (.Name x p) (e::es) [] pos) (zp sp [] E0 t):=Jg G.ok hr hg G.D.m G.D.F.kp G.D.b .nil N4 ha hdb he hpl
end
section
variable (K:W.Frag)
noncomputable def CB:Sp:=fun vs H Q _=>∃(a:Addr) (ns:List Int),vs=[.ref a]/\dP K H a (ns.map V.int)/\ns.length<=63/\∀H',Q (.bl true) H'
end
theorem bU{α:Type}{l:List α}{i:Nat}{x:α}(h:l[i]?=some x):l.take (i+1)=l.take i++[x]:=by
 rw[UJ,h];rfl
end Mr
namespace Xe
open PySem PySem.Spec PySem.W PyProof.Rows L2 Mr
abbrev RS(K:Frag) (C:Addr):Bool:=findIn K (.ref C) "__setattr__" == some (some (.builtin "object.__setattr__")) && findIn K (.ref C) "__getattribute__" == some (some (.builtin "BaseException.__getattribute__")) &&
 findIn K (.ref C) "__getattr__" == some none && findIn K (.ref C) "__class__" == some (some (.builtin "object.__class__"))
def Ma(K:Frag) (c:Str) (C:Addr) (bm:List Value):Bool:=match K.lookup C with
 |some ⟨.type "type", _,.cls cd,sl⟩=>(match sl.toList with
  | [_,_,_,_,some (.builtin n),_]=>cd.name == c && cd.mro == .ref C::bm && n == "ValueError.__new__" && !cd.hasDel && cd.hasDict && tailIn K PD bm
  |_=>false)
 |_=>false
structure Qi (K:Frag) (c:Str) (C M:Addr):Prop where
 nm:nsIn K mainGlobals c=some (some (.ref C))
 nmM:nsIn K mainGlobals "MapError" = some (some (.ref M))
 xc:Ma K c C (.ref M::PD)=true
 xm:Ma K "MapError" M PD=true
 lk:RS K C=true
def RZ(K:Frag) (c:Str) (C:Addr):Prop:=nsIn K mainGlobals c=some (some (.ref C))/\((∃M,Qi K c C M)∨(c = "MapError" /\ Ma K "MapError" C PD=true))
def Rk(e C:Addr) (od:Option Addr):HO:=.ext fun h=>∃o vs,h.get? e=some o/\o.cls = .ref C/\o.dict=od/\o.data = .fields vs
section
variable {X:Cx}
theorem kv_get{kvs:List (aX×V)}{vs:List (aX×Value)}(r:KV kvs vs):∀{i:Nat}{p:aX×V},kvs[i]?=some p->∃u,vs[i]?=some (p.1,u)/\cx p.2 u:=by
 induction r with
 |nil=>intro i p h;simp at h
 | @cons a b _ _ r t ih =>
  intro i p h;cases i with
  |zero=>simp at h;subst h;exact⟨b.2,by simp[r.1],r.2⟩
  |succ i=>obtain⟨u,g1,g2⟩:=ih (by simpa using h);exact⟨u,by simpa using g1,g2⟩
end
end Xe
namespace Xe
open PySem
end Xe
namespace Xe
open PySem PySem.Spec PySem.W PyProof.Rows L2 Mr
end Xe
namespace Xe
open PySem
end Xe
namespace Xe
open PySem PySem.Spec PySem.W PyProof.Rows L2 Mr
end Xe
namespace PySem.SCG
open PySem Builtin Builtin.Str
end PySem.SCG
namespace Mr
open PySem PySem.Spec PyProof.Rows L2
end Mr
namespace Mr
open PySem PyProof.Rows L2
section
variable {X:Cx}
def Ff(_ j:Int):Prop:=0<j/\j.natAbs.log2<9000
theorem HA:vh X (binaryOp .FloorDiv) (rI Ff fun i j=>.int (i / j)):=N1 fun i j _ _ _ _ _ hc q=>by
 have h1:(0:Int)<j:=hc.1;exact floordiv_int (by lia) (by rw[VS i (by lia)];exact q) (.inl (PyProof.noPylong_of_log2 hc.2))
end
end Mr
namespace Mr
open PySem L2
end Mr
namespace Mr
open PySem PySem.Calls PySem.Spec PyProof.Rows L2
section
variable {X:Cx}
def Mj(K:W.Frag) (x:V) (H:Hp) (T:String):Prop:=match x with
 | .int _=>T = "list" ∨ T = "tuple" ∨ T = "str"
 | .str _=>T = "list" ∨ T = "tuple"
 | .non=>T = "list" ∨ T = "tuple"
 | .ref p=>(T = "tuple" /\ ∃xs,dP K H p xs)∨(T = "list" /\ ∃xs,rF K H p xs)
 |_=>False
theorem fu:eC X (.builtin "isinstance") (fun xs H Q=>∃x T,xs=[x,.ty T]/\Mj X.K x H T/\Q (.bl false) H):=by
 intro ab s σ H xs us Q I r h;obtain⟨x,T,rfl,e,q⟩:=h;obtain⟨u,v,rfl,rx,rT⟩:=EO r;cases rT;cases x with
 |int i =>
  obtain⟨t,rfl⟩:=rx;rcases e with rfl|rfl|rfl
  .exact call_isinstance (isinstance_false_int (by decide +kernel) F.isi_meta_list F.sub_int_list) (show EP X ab σ Q (.bool false) { s with toks:=s.toks+1 } from ⟨.bl false,H,I.tok _,rfl,q⟩)
  .exact call_isinstance (isinstance_false_int (by decide +kernel) F.isi_meta_tuple F.sub_int_tuple) (show EP X ab σ Q (.bool false) { s with toks:=s.toks+1 } from ⟨.bl false,H,I.tok _,rfl,q⟩)
  .exact call_isinstance (isinstance_false_int (by decide +kernel) F.isi_meta_str F.sub_int_str) (show EP X ab σ Q (.bool false) { s with toks:=s.toks+1 } from ⟨.bl false,H,I.tok _,rfl,q⟩)
 |str i =>
  obtain⟨t,rfl⟩:=rx;rcases e with rfl|rfl
  .exact call_isinstance (isinstance_false_str (by decide +kernel) F.isi_meta_list F.sub_str_list) (show EP X ab σ Q (.bool false) { s with toks:=s.toks+1 } from ⟨.bl false,H,I.tok _,rfl,q⟩)
  .exact call_isinstance (isinstance_false_str (by decide +kernel) F.isi_meta_tuple F.sub_str_tuple) (show EP X ab σ Q (.bool false) { s with toks:=s.toks+1 } from ⟨.bl false,H,I.tok _,rfl,q⟩)
 |non =>
  cases rx;rcases e with rfl|rfl
  .exact call_isinstance (isinstance_false_none (by decide +kernel) F.isi_meta_list F.sub_NoneType_list) (show EP X ab σ Q (.bool false) { s with toks:=s.toks+1 } from ⟨.bl false,H,I.tok _,rfl,q⟩)
  .exact call_isinstance (isinstance_false_none (by decide +kernel) F.isi_meta_tuple F.sub_NoneType_tuple) (show EP X ab σ Q (.bool false) { s with toks:=s.toks+1 } from ⟨.bl false,H,I.tok _,rfl,q⟩)
 |ref p =>
  cases rx;rcases e with ⟨rfl,xs,hS⟩|⟨rfl,xs,hS⟩
  .obtain ⟨its,rv,pl,hz⟩:=I.list hS;exact call_isinstance (isinstance_false_list (by decide +kernel) F.isi_meta_tuple F.sub_list_tuple) ⟨pl.isList.typeIs,⟨.bl false,H,I.tok _,rfl,q⟩⟩
  .obtain ⟨its,rv,⟨o,ho,hc,_⟩,hz⟩:=I.tuple hS;exact call_isinstance (isinstance_false_tuple (by decide +kernel) F.isi_meta_list F.sub_tuple_list) ⟨⟨o,ho,hc⟩,⟨.bl false,H,I.tok _,rfl,q⟩⟩
 |_=>exact(show False from e).elim
end
end Mr
namespace MrS
open PySem PySem.W PyProof.Rows
section
variable {prog:Program}{w:World}{A:Around}{E:Value->Shared->Prop}{s:Shared}{Pk:Keyed->Prop}{lt:Keyed->Keyed->Bool}{T:String}{r d:Addr}{n:Nat}{P:Nat->Value->Prop}{OK:Heap->Prop}
theorem zf{Q:List Value->Shared->Prop}(K:KdlSrc prog w T r d n P OK) (hh:A.handled=none) (hok:OK s.heap) (hn:n<=sizeLine)
  (h:∀h' tk (acc:Array Value),(∀b o,s.heap.get? b=some o->h'.get? b=some o)->s.heap.objs.size<h'.objs.size->ItemsOf P acc n->Q acc.toList { s with heap:=h',toks:=tk }) :
  wpAny (model prog w) A (collect (.ref r)) Q E s:=by
 unfold collect;refine wpAny_bind (wpAny_runValue (codeAny_builtin entry_proto_collect' ?_));show wpAny _ _ (do again (.builtin "list.__iadd__" ⟨[←newList [],.ref r],[]⟩)) _ _ s
 refine wpAny_bind (wpAny_newList (wpAny_pure ⟨Code.quiet_builtin _ (by decide +kernel),codeAny_builtin entry_list_iadd' ?_⟩))
 show wpAny _ _ (Builtin.List.listExtendWith (.ref s.heap.objs.size) (.ref r) (.ref s.heap.objs.size)) _ _ { s with heap:=s.heap.push (seqObj "list" #[] 0) }
 have hlt:=K.there _ hok;have hS0:(s.heap.push (seqObj "list" #[] 0)).get? s.heap.objs.size=some (seqObj "list" #[] 0):=Tp _ rfl;refine kdl_extend (A:=A) (R:=fun r s'=>match r with
   | .ok (.ret v)=>wpAny (model prog w) A (match v with
    | .ref a=>do
     let o ←load a
     match o.data with
     | .seq xs _=>pure xs.toList
     |_=>unsupported "internal:collect"
    |_=>unsupported "internal:collect") Q E s'
   | .ok _=>False
   | .error e=>E e s') (s:={ s with heap:=s.heap.push (seqObj "list" #[] 0) }) K hh (K.keep _ _ hok fun b _ o e=>Sn _ e) s.heap.objs.size (UY hlt.1) (UY hlt.2) (.ref s.heap.objs.size) 0 hS0 (fun h' tk acc c hk hS hi=>?_) hn
 show wpAny (model prog w) A (do
   let o ←load s.heap.objs.size
   match o.data with
   | .seq xs _=>pure xs.toList
   |_=>unsupported "internal:collect") Q E { s with heap:=h',toks:=tk }
 refine wpAny_bind (wpAny_load hS ?_);exact wpAny_pure (h h' tk acc (fun b o e=>hk b o (SU (Sl e)) (Sn _ e)) (Sl hS) hi)
theorem AG{Q:Value->Shared->Prop}(K:KdlSrc prog w T r d n P OK) (hh:A.handled=none) (hok:OK s.heap) (hn:n<=sizeLine)
  (hC:∀(vs:List Value),vs.length=n->(∀j v,vs[j]?=some v->P j v)->∀s':Shared,(2<=vs.length->∀Q:SortKind->Shared->Prop,Q oneType' s'->wpAny (model prog w) A.in1.in1 (keyKind' vs.toArray) Q E s')/\nL prog w A.in1.in1 s' oneType' Pk lt/\∀v∈vs,Pk (v,v))
  (h:∀(vs out:List Value) (h':Heap) (p:Addr) (tk n':Nat),vs.length=n->(∀j v,vs[j]?=some v->P j v)->out.Perm vs->out.Pairwise (fun x y=>lt (y,y) (x,x)=false)->(∀b o,s.heap.get? b=some o->h'.get? b=some o)->s.heap.objs.size<=p ->
   h'.get? p=some (seqObj "list" out.toArray n')->Q (.ref p) { s with heap:=h',toks:=tk }) :
  wpAny (model prog w) A (call (.builtin "sorted") [.ref r]) Q E s:=by
 refine Calls.call_function_entry kind_sorted plain_sorted entry_sorted (args_sorted1 _) ?_;unfold Builtin.«sorted»;refine wpAny_bind (m:=checkCount "sorted" 1 1 _) (wpAny_pure ?_);refine wpAny_bind (zf K hh hok hn fun h0 tk acc hk0 hsz0 hi=>?_)
 have hl:acc.toList.length=n:=by rw[Sv];exact hi.1
 have hP:∀j v,acc.toList[j]?=some v->P j v:=fun j v e=>hi.2 j v (by rw[←SJ];exact e)
 have hs:acc.toList.length<=sizeLine:=by rw[hl];exact hn
 generalize acc.toList=vs at hl hP hs;refine wpAny_bind (wpAny_newList ?_ hs);have hoL:(h0.push (seqObj "list" vs.toArray 0)).get? h0.objs.size=some (seqObj "list" vs.toArray 0):=Tp _ rfl;show wpAny _ _ _ _ _ { s with heap:=h0.push (seqObj "list" vs.toArray 0),toks:=tk }
 have hsz:s.heap.objs.size<=h0.objs.size:=T8 hsz0;have k1:∀b o,s.heap.get? b=some o->(h0.push (seqObj "list" vs.toArray 0)).get? b=some o:=fun b o e=>Sn _ (hk0 b o e)
 have hlt:∀b o,s.heap.get? b=some o->b≠h0.objs.size:=fun b o e=>SU (Sl (hk0 b o e))
 generalize h0.push (seqObj "list" vs.toArray 0)=G at hoL k1 ⊢
 clear hsz0
 generalize h0.objs.size=p at hoL hsz hlt ⊢;have k2:∀b o,s.heap.get? b=some o->(ie G p vs).get? b=some o:=fun b o e=>by
  refine Sn _ (Sn _ ?_);rw[UW _ _ _ _ (hlt b o e)];exact k1 b o e
 obtain⟨q1,q2,q3⟩:=hC vs hl hP { s with heap:=ie G p vs,toks:=tk }
 refine wpAny_bind (wpAny_holding (wpAny_call_entry slot_list_sort ⟨_,hoL,rfl⟩ entry_list_sort (ot (s:={ s with heap:=G,toks:=tk }) (Pk:=Pk) (lt:=lt) hoL hs q1 q2 (fun x hx=>?_) fun xs a1 a2=>⟨_,rfl,?_⟩) (args_list_sort _)))
 .obtain ⟨m1,m2⟩:=jO hx;have:x=(x.1,x.1):=WE rfl m2;rw[this];exact q3 _ m1
 .obtain ⟨v1,v2⟩:=ri a1 a2;obtain⟨e1,ho1⟩:=B2 vs hoL;obtain⟨n1,g1⟩:=B5 (xs.map (·.2)) ho1;refine wpAny_pure ⟨_,rfl,h vs _ (sortedHeap G p vs (xs.map (·.2))) p tk n1 hl hP v1 v2 (fun b o e=>?_) hsz ?_⟩
  .unfold sortedHeap;rw[UW _ _ _ _ (hlt b o e)];exact k2 b o e
  .rw [show (xs.map (·.2)).toList.toArray=xs.map (·.2) from Wv]
   exact g1
end
end MrS
namespace Mr
open PySem PySem.W PySem.Spec PyProof.Rows L2
section
variable {X:Cx}
theorem Cb:∀{us:List Value}{ns:List Int},us.length=ns.length->(∀(j:Nat) (v:Value) (n:Int),us[j]?=some v->ns[j]?=some n->∃t,v=Wk n t)->IntsAre us ns
 | [],[],_,_=>.nil
 | [],_::_,h,_=>by simp at h
 |_::_,[],h,_=>by simp at h
 |u::us,n::ns,h,g=>by
  obtain⟨t,rfl⟩:=g 0 u n rfl rfl;exact .cons n t (Cb (by simpa using h) fun j v m e1 e2=>g (j+1) v m (by simpa using e1) (by simpa using e2))
theorem Il:∀{kvs:List (aX×V)}{ws:List (aX×Value)},KV kvs ws->kvs.map (·.1)=ws.map (·.1):=fun {kvs ws} r=>by
 induction r with
 |nil=>rfl
 |cons a b ih=>rw[Sq,Sq,ih,a.1]
theorem xT(hc:X.calm=true):eC X (.builtin "sorted") (fun xs H Q=>∃(a:Addr) (kvs:List (aX×V)) (ns:List Int),xs=[.ref a]/\H a=some (.dK kvs)/\kvs.map (·.1)=ns.map SY/\∀p,H p=none->Q (.ref p) (cW H p (.lst ((ff ns).map V.int)))):=by
 intro ab s σ H xs us Q I r h;obtain⟨a,kvs,ns,rfl,ha,hk,q⟩:=h;obtain⟨u,rfl,ru⟩:=oe r;cases ru;obtain⟨hz,sa,vs,kv,d⟩:=(show dA X.prog X.w H s.heap a (.dK kvs) from I.hok a _ ha)
 obtain⟨ep,da⟩:=d.dictAt;have hl:=Paired.length kv;have hlen:ns.length=vs.length:=by
  have:=congrArg TJ hk;rw[lMq,lMq]at this;rw[←this,hl]
 have hkv:vs.map (·.1)=ns.map SY:=by rw[←Il kv,hk]
 have hI:∀us:List Value,us.length=vs.length->(∀(j:Nat) (v:Value),us[j]?=some v->∃k x,vs[j]?=some (k,x)/\(cT X.prog X.w).is k v=true)->IntsAre us ns:=fun us h1 h2=>Cb (by rw[h1,hlen]) fun j v m e1 e2=>by
  obtain⟨k,x,g1,g2⟩:=h2 j v e1;have e3:(vs.map (·.1))[j]?=some k:=by rw[gMq,g1];rfl
  rw[hkv,gMq,e2]at e3;have e4:(SY m:aX)=k:=by simpa using e3
  subst e4;rcases cR (k:=SY m) (v:=v) g2 with ⟨i,t,e5,e6⟩|⟨z,t,e5,_⟩
  .cases e5;exact⟨t,e6⟩
  .cases e5
 refine MrS.AG (kdl_dict (knd:=cT X.prog X.w) (d:=a) (kvs:=vs) (ep:=ep) sa) (I.ok.hd hc) da (by rw[←hl];exact hz) (Pk:=fun x:Keyed=>∃a t,x.1=Wk a t) (lt:=QH) (fun us h1 h2 s'=>⟨fun h3 Q q=>?_,Oz _ _ _ _,fun v m=>(xv (hI us h1 h2)).2 v m⟩) fun us out h' p tk n' h1 h2 o1 o2 o3 op o4=>?_
 .have hi:=hI us h1 h2
  match us,hi,h3 with
  | [],_,h3=>simp at h3
  | [_],_,h3=>simp at h3
  |v₁::v₂::rest,hi,_ =>
   rw[keyKind_ints hi];exact wpAny_pure q
 .obtain ⟨en,hv⟩:=xv (hI us h1 h2);have ho:∀v∈out,∃a t,v = .int a t:=fun v m=>hv v (o1.mem_iff.mp m)
  have e:out.map intOf=ff ns:=by
   refine Br (by rw[en];exact o1.map _) ?_
   rw[S8];refine o2.imp_of_mem fun {x y} mx my h=>?_
   obtain⟨a,t,rfl⟩:=ho x mx;obtain⟨b,u,rfl⟩:=ho y my;have h':¬ b<a:=of_decide_eq_false h;show a<=b;lia
  have hp:H p=none:=I.hok.fresh op;refine⟨.ref p,_,I.laid (t':=tk) o3 op (show dA X.prog X.w _ h' _ (.lst ((ff ns).map V.int)) from ⟨?_,out,n',?_,o4⟩),rfl,q _ hp⟩
  .rw [lMq,(gP ns).length_eq,hlen,←hl];exact hz
  .rw [←e];exact vals_ints ho
end
end Mr
namespace Z
open PySem L2 Mr
abbrev St:=L2.St
inductive D where
 |non|bl (b:Bool)|int (i:Int)|str (x:Str)|ty (n:String)|list (xs:List D)|tup (xs:List D)|dict (kvs:List (aX×D))|scr (ns:List Int)|exc (c:Str) (fs:List (Str×Int))|cls (c:Str)|fd (kvs:List (aX×D))|ins (c:Str) (fs:List (Str×D))
inductive dt (K:W.Frag) (H:Hp):D->V->Prop
 |non:dt K H .non .non
 |bl {b:Bool}:dt K H (.bl b) (.bl b)
 |int {i:Int}:dt K H (.int i) (.int i)
 |str {x:Str}:dt K H (.str x) (.str x)
 |ty {n:String}:dt K H (.ty n) (.ty n)
 |list {p:Addr}{vs:List V}{ds:List D}(h:H p=some (.lst vs)) (l:ds.length=vs.length) (e:∀(i:Nat) (d:D) (v:V),ds[i]?=some d->vs[i]?=some v->dt K H d v):dt K H (.list ds) (.ref p)
 |tup {p:Addr}{vs:List V}{ds:List D}(h:H p=some (.tup vs)) (l:ds.length=vs.length) (e:∀(i:Nat) (d:D) (v:V),ds[i]?=some d->vs[i]?=some v->dt K H d v):dt K H (.tup ds) (.ref p)
 |dict {p:Addr}{kvs:List (aX×V)}{ds:List (aX×D)}(h:H p=some (.dK kvs)) (l:ds.map (·.1)=kvs.map (·.1)) (e:∀(i:Nat) (d:aX×D) (v:aX×V),ds[i]?=some d->kvs[i]?=some v->dt K H d.2 v.2):dt K H (.dict ds) (.ref p)
 |scr {p:Addr}{ns:List Int}(h:dP K H p (ns.map V.int)):dt K H (.scr ns) (.ref p)
 |exc {c:Str}{fs:List (Str×Int)}{e C M dx:Addr}(rf:Xe.Qi K c C M) (nf:∀p∈fs,W.findIn K (.ref C) p.1=some none) (h:H e=some (Xe.Rk e C (some dx))) (hx:H dx=some (.xd (fs.map fun p=>(p.1,V.int p.2)))):dt K H (.exc c fs) (.ref e)
 |exc0 {c:Str}{e C M:Addr}(rf:Xe.Qi K c C M) (h:H e=some (Xe.Rk e C none)):dt K H (.exc c []) (.ref e)
 |cls {c:Str}{C:Addr}(h:Xe.RZ K c C):dt K H (.cls c) (.ref C)
 |fd {p:Addr}{o:Obj}{kvs:List (aX×V)}{ds:List (aX×D)}(h:H p=some (.frz o (.dK kvs))) (l:ds.map (·.1)=kvs.map (·.1)) (e:∀(i:Nat) (d:aX×D) (v:aX×V),ds[i]?=some d->kvs[i]?=some v->dt K H d.2 v.2):dt K H (.fd ds) (.ref p)
 |ins {c:Str}{a C dx:Addr}{gs:List (Str×V)}{fs:List (Str×D)}(rf:W.nsIn K mainGlobals c=some (some (.ref C))) (h:H a=some (.ins C dx gs)) (l:fs.map (·.1)=gs.map (·.1)) (e:∀(i:Nat) (d:Str×D) (v:Str×V),fs[i]?=some d->gs[i]?=some v->dt K H d.2 v.2):dt K H (.ins c fs) (.ref a)
def bY(K:W.Frag) (H:Hp) (ds:List D) (vs:List V):Prop:=ds.length=vs.length/\∀(i:Nat) (d:D) (v:V),ds[i]?=some d->vs[i]?=some v->dt K H d v
def gL(K:W.Frag) (H:Hp) (ds:List (aX×D)) (kvs:List (aX×V)):Prop:=ds.map (·.1)=kvs.map (·.1)/\∀(i:Nat) (d:aX×D) (v:aX×V),ds[i]?=some d->kvs[i]?=some v->dt K H d.2 v.2
section
variable {K:W.Frag}{H H':Hp}
theorem dt.mono{d:D}{v:V}(h:dt K H d v) (s:bW H H'):dt K H' d v:=by
 induction h with
 |non=>exact .non
 |bl=>exact .bl
 |int=>exact .int
 |str=>exact .str
 |ty=>exact .ty
 |list h l _ ih=>exact .list (s _ _ h) l ih
 |tup h l _ ih=>exact .tup (s _ _ h) l ih
 |dict h l _ ih=>exact .dict (s _ _ h) l ih
 |scr h=>exact .scr (s.seq h)
 |exc rf nf h hx=>exact .exc rf nf (s _ _ h) (s _ _ hx)
 |exc0 rf h=>exact .exc0 rf (s _ _ h)
 |cls h=>exact .cls h
 |fd h l _ ih=>exact .fd (s _ _ h) l ih
 |ins rf h l _ ih=>exact .ins rf (s _ _ h) l ih
theorem bY.mono{ds:List D}{vs:List V}(h:bY K H ds vs) (s:bW H H'):bY K H' ds vs:=⟨h.1,fun i d v a b=>(h.2 i d v a b).mono s⟩
theorem gL.mono{ds:List (aX×D)}{vs:List (aX×V)}(h:gL K H ds vs) (s:bW H H'):gL K H' ds vs:=⟨h.1,fun i d v a b=>(h.2 i d v a b).mono s⟩
theorem bY.nil:bY K H [] []:=⟨rfl,fun i d v a=>by simp at a⟩
theorem bY.cons{d:D}{v:V}{ds:List D}{vs:List V}(h:dt K H d v) (t:bY K H ds vs):bY K H (d::ds) (v::vs):=⟨by simp[t.1],fun i e w a b=>by
 cases i with
 |zero =>
  simp at a b;subst a b;exact h
 |succ i=>exact t.2 i e w (by simpa using a) (by simpa using b)⟩
theorem bY.cons_iff{d:D}{v:V}{ds:List D}{vs:List V}:bY K H (d::ds) (v::vs)↔dt K H d v/\bY K H ds vs :=
 ⟨fun h=>⟨h.2 0 d v rfl rfl,by have:=h.1;simpa using this,fun i e w a b=>h.2 (i+1) e w (by simpa using a) (by simpa using b)⟩,fun h=>.cons h.1 h.2⟩
theorem bY.nil_inv{vs:List V}(h:bY K H [] vs):vs=[]:=by
 have:=h.1;cases vs with
 |nil=>rfl
 |cons _ _=>simp at this
theorem bY.cons_inv{d:D}{ds:List D}{vs:List V}(h:bY K H (d::ds) vs):∃v ws,vs=v::ws/\dt K H d v/\bY K H ds ws:=by
 cases vs with
 |nil=>have:=h.1;simp at this
 |cons v ws=>exact⟨v,ws,rfl,bY.cons_iff.mp h⟩
theorem bY.append:∀{ds es:List D}{vs ws:List V},bY K H ds vs->bY K H es ws->bY K H (ds++es) (vs++ws)
 | [],es,vs,ws,h,g=>by rw[h.nil_inv];exact g
 |d::ds,es,vs,ws,h,g=>by
  obtain⟨v,us,rfl,h1,h2⟩:=h.cons_inv;exact .cons h1 (bY.append h2 g)
theorem bY.take{ds:List D}{vs:List V}(h:bY K H ds vs) (n:Nat):bY K H (ds.take n) (vs.take n):=⟨by rw[lTq,lTq,h.1],fun i d v a b=>by
 rw[List.getElem?_take]at a b;split at a
 .rename_i hi;rw[if_pos hi]at b;exact h.2 i d v a b
 .cases a⟩
theorem bY.drop{ds:List D}{vs:List V}(h:bY K H ds vs) (n:Nat):bY K H (ds.drop n) (vs.drop n):=⟨by rw[SE,SE,h.1],fun i d v a b=>by
 rw[U2]at a b;exact h.2 _ d v a b⟩
theorem bY.get{ds:List D}{vs:List V}(h:bY K H ds vs) {i:Nat}{d:D}(e:ds[i]?=some d):∃v,vs[i]?=some v/\dt K H d v:=by
 have hi:i<ds.length:=(gSq.mp e).1;have hj:i<vs.length:=h.1 ▸ hi;exact⟨vs[i],gEg hj,h.2 i d _ e (gEg hj)⟩
theorem bY.get'{ds:List D}{vs:List V}(h:bY K H ds vs) {i:Nat}{v:V}(e:vs[i]?=some v):∃d,ds[i]?=some d/\dt K H d v:=by
 have hi:i<vs.length:=(gSq.mp e).1;have hj:i<ds.length:=h.1.symm ▸ hi;exact⟨ds[i],gEg hj,h.2 i _ v (gEg hj) e⟩
theorem bY.reverse:∀{ds:List D}{vs:List V},bY K H ds vs->bY K H ds.reverse vs.reverse
 | [],vs,h=>by rw[h.nil_inv];exact .nil
 |d::ds,vs,h=>by
  obtain⟨v,us,rfl,h1,h2⟩:=h.cons_inv;rw[Vo,Vo];exact h2.reverse.append (.cons h1 .nil)
theorem dt.list_inv{ds:List D}{v:V}(h:dt K H (.list ds) v):∃p vs,v = .ref p/\H p=some (.lst vs)/\bY K H ds vs:=by
 cases h with
 |list h l e=>exact⟨_,_,rfl,h,l,e⟩
theorem dt.tup_inv{ds:List D}{v:V}(h:dt K H (.tup ds) v):∃p vs,v = .ref p/\H p=some (.tup vs)/\bY K H ds vs:=by
 cases h with
 |tup h l e=>exact⟨_,_,rfl,h,l,e⟩
theorem dt.dict_inv{ds:List (aX×D)}{v:V}(h:dt K H (.dict ds) v):∃p kvs,v = .ref p/\H p=some (.dK kvs)/\gL K H ds kvs:=by
 cases h with
 |dict h l e=>exact⟨_,_,rfl,h,l,e⟩
theorem dt.mk_tup{ds:List D}{p:Addr}{vs:List V}(h:H p=some (.tup vs)) (r:bY K H ds vs):dt K H (.tup ds) (.ref p):=.tup h r.1 r.2
theorem dt.mk_dict{ds:List (aX×D)}{p:Addr}{vs:List (aX×V)}(h:H p=some (.dK vs)) (r:gL K H ds vs):dt K H (.dict ds) (.ref p):=.dict h r.1 r.2
end
noncomputable def D.scal:D->Bool
 | .non=>true
 | .bl _=>true
 | .int _=>true
 | .str _=>true
 | .ty _=>true
 |_=>false
theorem dt.scal{K:W.Frag}{H H':Hp}{d:D}{v:V}(h:dt K H d v) (s:d.scal=true):dt K H' d v:=by
 cases h with
 |non=>exact .non
 |bl=>exact .bl
 |int=>exact .int
 |str=>exact .str
 |ty=>exact .ty
 |_=>cases s
inductive AV where
 |sh (d:D)|ow (avs:List AV)|owd (kvs:List (aX×D))
mutual
def aH:AV->D
 | .sh d=>d
 | .ow avs=>.list (uP avs)
 | .owd kvs=>.dict kvs
def uP:List AV->List D
 | []=>[]
 |a::as=>aH a::uP as
end
theorem wg:∀avs:List AV,uP avs=avs.map aH
 | []=>by simp[uP]
 |a::as=>by simp[uP,wg as]
@[simp] theorem ef (d:D):aH (.sh d)=d:=by simp[aH]
@[simp] theorem dR (avs:List AV):aH (.ow avs) = .list (avs.map aH):=by simp[aH,wg]
@[simp] theorem qK (kvs:List (aX×D)):aH (.owd kvs) = .dict kvs:=by simp[aH]
inductive bC (K:W.Frag) (Hf H:Hp):AV->V->List Addr->Prop
 |sh {d:D}{v:V}(r:dt K Hf d v):bC K Hf H (.sh d) v []
 |ow {p:Addr}{vs:List V}{avs:List AV}{Fs:List (List Addr)}(h:H p=some (.lst vs)) (n:Hf p=none) (l:avs.length=vs.length) (lf:avs.length=Fs.length)
   (e:∀(i:Nat) (a:AV) (v:V) (F:List Addr),avs[i]?=some a->vs[i]?=some v->Fs[i]?=some F->bC K Hf H a v F):bC K Hf H (.ow avs) (.ref p) (p::Fs.flatten)
 |owd {p:Addr}{kvs:List (aX×V)}{ds:List (aX×D)}(h:H p=some (.dK kvs)) (n:Hf p=none) (r:gL K Hf ds kvs):bC K Hf H (.owd ds) (.ref p) [p]
section
variable {K:W.Frag}{Hf Hf' H H':Hp}{av:AV}{v:V}{F:List Addr}
theorem bC.owned(h:bC K Hf H av v F):∀q∈F,H q≠none/\Hf q=none:=by
 induction h with
 |sh _=>intro q hq;cases hq
 | @ow p vs avs Fs h n l lf e ih =>
  intro q hq;rcases Si.mp hq with rfl|hq
  .exact ⟨by rw[h];simp,n⟩
  .obtain ⟨F,hF,hq⟩:=mFq.mp hq;obtain⟨i,hi,rfl⟩:=Uu.mp hF;exact ih i avs[i] vs[i] Fs[i] (by simp) (by simp) (by simp) q hq
 |owd h n r =>
  intro q hq;have:=mSq.mp hq;subst this;exact⟨by rw[h];simp,n⟩
theorem bC.keep(h:bC K Hf H av v F) (s:bW Hf Hf') (hk:∀q∈F,H' q=H q) (hn:∀q∈F,Hf' q=none):bC K Hf' H' av v F:=by
 induction h with
 |sh r=>exact .sh (r.mono s)
 | @ow p vs avs Fs h n l lf e ih =>
  refine .ow (by rw[hk p (by simp)];exact h) (hn p (by simp)) l lf fun i a v F h1 h2 h3=>ih i a v F h1 h2 h3 (fun q hq=>hk q ?_) fun q hq=>hn q ?_
  all_goals exact mCo _ (mFq.mpr ⟨F,mGq h3,hq⟩)
 |owd h n r=>exact .owd (by rw[hk _ (by simp)];exact h) (hn _ (by simp)) (r.mono s)
theorem bC.rep(h:bC K Hf H av v F) (s:bW Hf H):dt K H (aH av) v:=by
 induction h with
 |sh r=>rw[ef];exact r.mono s
 | @ow p vs avs Fs h n l lf e ih =>
  rw[dR];refine .list h (by simp[l]) fun i d v h1 h2=>?_
  rw[gMq]at h1;cases ea:avs[i]? with
  |none=>rw[ea]at h1;cases h1
  |some a =>
   rw[ea]at h1;cases h1;have hi:i<Fs.length:=lf ▸ (gSq.mp ea).1;exact ih i a v Fs[i] ea h2 (gEg hi)
 |owd h n r=>rw[qK];exact .mk_dict h (r.mono s)
def frz(Hf H:Hp) (F:List Addr):Hp:=fun b=>if b∈F then H b else Hf b
theorem qV{b:Addr}(h:b∈F):frz Hf H F b=H b:=if_pos h
theorem hZ{b:Addr}(h:b∉F):frz Hf H F b=Hf b:=if_neg h
theorem eV(h:∀q∈F,Hf q=none):bW Hf (frz Hf H F):=fun b o e=>by
 rw[hZ fun m=>by rw[h b m]at e;cases e]
 exact e
theorem JP(s:bW Hf H):bW (frz Hf H F) H:=fun b o e=>by
 by_cases m:b∈F
 .rw [qV m]at e;exact e
 .rw [hZ m]at e;exact s b o e
theorem bC.frozen(h:bC K Hf H av v F) (s:bW Hf Hf') (hk:∀q∈F,Hf' q=H q):dt K Hf' (aH av) v:=by
 induction h with
 |sh r=>rw[ef];exact r.mono s
 | @ow p vs avs Fs h n l lf e ih =>
  rw[dR];refine .list (by rw[hk p (by simp)];exact h) (by simp[l]) fun i d v h1 h2=>?_
  rw[gMq]at h1;cases ea:avs[i]? with
  |none=>rw[ea]at h1;cases h1
  |some a =>
   rw[ea]at h1;cases h1;have hi:i<Fs.length:=lf ▸ (gSq.mp ea).1;exact ih i a v Fs[i] ea h2 (gEg hi) fun q hq=>hk q (mCo _ (mFq.mpr ⟨Fs[i],gRq hi,hq⟩))
 |owd h n r=>rw[qK];exact .mk_dict (by rw[hk _ (by simp)];exact h) (r.mono s)
end
abbrev AS:=List (Option AV)
structure bP (K:W.Frag) (H₀ Hf₀ Hf:Hp) (S:AS) (σ:St) (H:Hp) (Fs:List (List Addr)):Prop where
 len:S.length=σ.length
 lenF:Fs.length=S.length
 rep:∀(i:Nat) (av:AV),S[i]?=some (some av)->∃v F,σ[i]?=some (some v)/\Fs[i]?=some F/\bC K Hf H av v F
 emp:∀i:Nat,S[i]?=some none->Fs[i]?=some []
 nd:Fs.flatten.Nodup
 fresh:∀p∈Fs.flatten,H₀ p=none
 sub:bW Hf H
 fr:bW H₀ H
 lim:∀b,Hf₀ b=none->H₀ b≠none->Hf b=none
 sf:bW Hf₀ Hf
structure mO (Hf H:Hp) (Fs:List (List Addr)) (Hf' H':Hp) (Fs':List (List Addr)):Prop where
 sf:bW Hf Hf'
 sh:bW H H'
 own:∀p∈Fs'.flatten,p∈Fs.flatten
 gr:∀b,Hf b=none->Hf' b≠none->H b=none∨b∈Fs.flatten
theorem mO.refl{Hf H:Hp}{Fs:List (List Addr)}:mO Hf H Fs Hf H Fs:=⟨.refl _,.refl _,fun _ h=>h,fun b h g=>absurd h g⟩
theorem IS{H H':Hp}(s:bW H H') {b:Addr}(h:H b≠none):H' b≠none:=by
 cases e:H b with
 |none=>exact absurd e h
 |some o=>rw[s b o e];simp
theorem mO.trans{Hf H Hf1 H1 Hf2 H2:Hp}{Fs Fs1 Fs2:List (List Addr)}(a:mO Hf H Fs Hf1 H1 Fs1) (b:mO Hf1 H1 Fs1 Hf2 H2 Fs2):mO Hf H Fs Hf2 H2 Fs2 :=
 ⟨a.sf.trans b.sf,a.sh.trans b.sh,fun p h=>a.own p (b.own p h),fun c h g=>by
  by_cases e:Hf1 c=none
  .rcases b.gr c e g with q|q
   .exact .inl (a.sh.free q)
   .exact .inr (a.own c q)
  .exact a.gr c h e⟩
section
variable {K:W.Frag}{H₀ Hf₀ Hf Hf' H H':Hp}{S:AS}{σ:St}{Fs Fs':List (List Addr)}
theorem Cu{b:Addr}(s:bW H H') (h:H b≠none):H' b=H b:=by
 cases e:H b with
 |none=>exact absurd e h
 |some o=>exact s b o e
theorem bP.mem(R:bP K H₀ Hf₀ Hf S σ H Fs) {q:Addr}(h:q∈Fs.flatten):H q≠none/\Hf q=none:=by
 obtain⟨F,hF,hq⟩:=mFq.mp h;obtain⟨i,hi,rfl⟩:=Uu.mp hF;have hiS:i<S.length:=R.lenF ▸ hi;cases e:S[i] with
 |none =>
  have:=R.emp i (by rw[gEg hiS,e])
  rw[gEg hi]at this;rw[Sz.inj this]at hq;cases hq
 |some av =>
  obtain⟨v,F,_,e2,r⟩:=R.rep i av (by rw[gEg hiS,e])
  rw[gEg hi]at e2;rw[Sz.inj e2]at hq;exact r.owned q hq
theorem bP.more(R:bP K H₀ Hf₀ Hf S σ H Fs) (s:bW H H') (sf:bW Hf Hf') (sub:bW Hf' H') (hn:∀q∈Fs.flatten,Hf' q=none) (lim:∀b,Hf₀ b=none->H₀ b≠none->Hf' b=none):bP K H₀ Hf₀ Hf' S σ H' Fs where
 len:=R.len
 lenF:=R.lenF
 rep:=fun i av e=>by
  obtain⟨v,F,e1,e2,r⟩:=R.rep i av e;refine⟨v,F,e1,e2,r.keep sf (fun q hq=>Cu s (r.owned q hq).1) fun q hq=>hn q (mFq.mpr ⟨F,mGq e2,hq⟩)⟩
 emp:=R.emp
 nd:=R.nd
 fresh:=R.fresh
 sub:=sub
 fr:=R.fr.trans s
 lim:=lim
 sf:=R.sf.trans sf
theorem bP.laid(R:bP K H₀ Hf₀ Hf S σ H Fs) (s:bW H H'):bP K H₀ Hf₀ Hf S σ H' Fs:=R.more s (.refl _) (R.sub.trans s) (fun q h=>(R.mem h).2) R.lim
theorem dZ{F:List Addr}{i:Nat}{p:Addr}(h:p∈(Fs.set i F).flatten):p∈F∨p∈Fs.flatten:=by
 obtain⟨G,hG,hp⟩:=mFq.mp h;rcases List.mem_or_eq_of_mem_set hG with q|q
 .exact .inr (mFq.mpr ⟨G,q,hp⟩)
 .subst q;exact .inl hp
theorem dS:∀{Fs:List (List Addr)}{F:List Addr}(i:Nat),Fs.flatten.Nodup->F.Nodup->(∀p∈F,p∉Fs.flatten)->(Fs.set i F).flatten.Nodup
 | [],F,i,h,_,_=>by simp
 |G::Gs,F,0,h,hF,hd=>by
  rw[U3,fCq,nAq];rw[fCq,nAq]at h;refine⟨hF,h.2.1,fun a ha b hb e=>hd a ha ?_⟩
  rw[fCq];exact SB _ (e ▸ hb)
 |G::Gs,F,i+1,h,hF,hd=>by
  rw[Vl,fCq,nAq];rw[fCq,nAq]at h;refine⟨h.1,dS i h.2.1 hF fun p hp m=>hd p hp (by rw[fCq];exact SB _ m),fun a ha b hb e=>?_⟩
  rcases dZ hb with q|q
  .exact hd b q (by rw[fCq];exact T7 _ (e ▸ ha))
  .exact h.2.2 a ha b q e
theorem bP.set(R:bP K H₀ Hf₀ Hf S σ H Fs) {av:AV}{v:V}{F:List Addr}(i:Nat) (r:bC K Hf H av v F) (nd:F.Nodup) (hf:∀q∈F,H₀ q=none/\q∉Fs.flatten) :
  bP K H₀ Hf₀ Hf (S.set i (some av)) (σ.set i (some v)) H (Fs.set i F) where
 len:=by simp[R.len]
 lenF:=by simp[R.lenF]
 rep:=fun j a e=>by
  rw[TB]at e
  by_cases hij:i=j
  .subst hij;rw[if_pos rfl]at e;split at e
   .rename_i hi;cases e;exact⟨v,F,by rw[S6 (R.len ▸ hi)],by rw[S6 (R.lenF.symm ▸ hi)],r⟩
   .cases e
  .rw [if_neg hij]at e;obtain⟨w,G,e1,e2,q⟩:=R.rep j a e;exact⟨w,G,by rw[SI hij];exact e1,by rw[SI hij];exact e2,q⟩
 emp:=fun j e=>by
  rw[TB]at e
  by_cases hij:i=j
  .subst hij;rw[if_pos rfl]at e;split at e <;> cases e
  .rw [if_neg hij]at e;rw[SI hij];exact R.emp j e
 nd:=dS i R.nd nd fun p hp=>(hf p hp).2
 fresh:=fun p hp=>by
  rcases dZ hp with q|q
  .exact (hf p q).1
  .exact R.fresh p q
 sub:=R.sub
 fr:=R.fr
 lim:=R.lim
 sf:=R.sf
theorem cY{i:Nat}{p:Addr}(h:p∈(Fs.set i []).flatten):p∈Fs.flatten:=by
 rcases dZ h with q|q
 .cases q
 .exact q
theorem fW:∀{Fs:List (List Addr)}{F:List Addr}{i:Nat}{p:Addr},Fs.flatten.Nodup->Fs[i]?=some F->p∈F->p∉(Fs.set i []).flatten
 | [],F,i,p,_,e,_,_=>by simp at e
 |G::Gs,F,0,p,h,e,hp,m=>by
  simp at e;subst e;rw[U3,fCq,T5]at m;rw[fCq,nAq]at h;exact h.2.2 p hp p m rfl
 |G::Gs,F,i+1,p,h,e,hp,m=>by
  rw[Vl,fCq]at m;rw[fCq,nAq]at h;have e':Gs[i]?=some F:=by simpa using e
  rcases mAq.mp m with q|q
  .exact h.2.2 p q p (mFq.mpr ⟨F,mGq e',hp⟩) rfl
  .exact fW h.2.1 e' hp q
theorem bP.move(R:bP K H₀ Hf₀ Hf S σ H Fs) {i:Nat}{av:AV}(e:S[i]?=some (some av)):∃v F,σ[i]?=some (some v)/\Fs[i]?=some F/\bC K Hf H av v F/\F.Nodup/\(∀q∈F,H₀ q=none/\q∉(Fs.set i []).flatten) /\
  bP K H₀ Hf₀ Hf (S.set i none) σ H (Fs.set i []):=by
 obtain⟨v,F,e1,e2,r⟩:=R.rep i av e;have hin:∀q∈F,q∈Fs.flatten:=fun q hq=>mFq.mpr ⟨F,mGq e2,hq⟩
 refine⟨v,F,e1,e2,r,Sy.sublist (SG (mGq e2)) R.nd,fun q hq=>⟨R.fresh q (hin q hq),fW R.nd e2 hq⟩,?_⟩
 refine⟨by simp[R.len],by simp[R.lenF],fun j a ej=>?_,fun j ej=>?_,dS i R.nd Tc (fun p hp=>by cases hp),fun p hp=>R.fresh p (cY hp),R.sub,R.fr,R.lim,R.sf⟩
 .rw [TB]at ej
  by_cases hij:i=j
  .subst hij;rw[if_pos rfl]at ej;split at ej <;> cases ej
  .rw [if_neg hij]at ej;obtain⟨w,G,f1,f2,q⟩:=R.rep j a ej;exact⟨w,G,f1,by rw[SI hij];exact f2,q⟩
 .rw [TB]at ej
  by_cases hij:i=j
  .subst hij;rw[if_pos rfl]at ej;split at ej
   .rename_i hi;rw[S6 (R.lenF.symm ▸ hi)]
   .cases ej
  .rw [if_neg hij]at ej;rw[SI hij];exact R.emp j ej
theorem bP.frz(R:bP K H₀ Hf₀ Hf S σ H Fs) {F:List Addr}(hf:∀q∈F,H₀ q=none/\q∉Fs.flatten) (hn:∀q∈F,Hf q=none):bP K H₀ Hf₀ (frz Hf H F) S σ H Fs:=by
 refine R.more (.refl _) (eV hn) (JP R.sub) (fun q hq=>?_) fun b h1 h2=>?_
 .rw [hZ fun m=>(hf q m).2 hq]
  exact(R.mem hq).2
 .rw [hZ fun m=>h2 (hf b m).1]
  exact R.lim b h1 h2
end
abbrev ME:=AS->Option (D×AS)
abbrev MK:=AS->Option (AV×AS)
abbrev ML:=AS->Option (List D×AS)
abbrev MT:=AS->Option (Bool×AS)
abbrev MA:=AS->Option (List AV×AS)
def bE(K:W.Frag) (Hf H:Hp) (avs:List AV) (vs:List V) (Gs:List (List Addr)):Prop :=
 avs.length=vs.length/\avs.length=Gs.length/\∀(i:Nat) (a:AV) (v:V) (F:List Addr),avs[i]?=some a->vs[i]?=some v->Gs[i]?=some F->bC K Hf H a v F
structure mP (H₀ H:Hp) (Fs Fs':List (List Addr)) (F:List Addr):Prop where
 nd:F.Nodup
 fr:∀q∈F,H₀ q=none
 out:∀q∈F,q∉Fs'.flatten
 new:∀q∈F,H q=none∨q∈Fs.flatten
theorem mP.nil{H₀ H:Hp}{Fs Fs':List (List Addr)}:mP H₀ H Fs Fs' []:=⟨Tc,fun q h=>(by cases h),fun q h=>(by cases h),fun q h=>(by cases h)⟩
section
variable (K:W.Frag)
def SR(te:TE) (m:ME):Prop:=∀{H₀ Hf₀ Hf:Hp}{S:AS}{σ:St}{H:Hp}{Fs:List (List Addr)}{d:D}{S':AS},bP K H₀ Hf₀ Hf S σ H Fs->m S=some (d,S')->∀Q:VK,
 (∀Hf' H' Fs' v,mO Hf H Fs Hf' H' Fs'->bP K H₀ Hf₀ Hf' S' σ H' Fs'->dt K H' d v->Q v H')->te σ H Q
def SK(te:TE) (m:MK):Prop:=∀{H₀ Hf₀ Hf:Hp}{S:AS}{σ:St}{H:Hp}{Fs:List (List Addr)}{a:AV}{S':AS},bP K H₀ Hf₀ Hf S σ H Fs->m S=some (a,S')->∀Q:VK,
 (∀Hf' H' Fs' v F,mO Hf H Fs Hf' H' Fs'->bP K H₀ Hf₀ Hf' S' σ H' Fs'->bC K Hf' H' a v F->mP H₀ H Fs Fs' F->Q v H')->te σ H Q
def SL(te:TE) (m:ML):Prop:=∀{H₀ Hf₀ Hf:Hp}{S:AS}{σ:St}{H:Hp}{Fs:List (List Addr)}{ds:List D}{S':AS},bP K H₀ Hf₀ Hf S σ H Fs->m S=some (ds,S')->∀Q:VK,
 (∀Hf' H' Fs' p vs,mO Hf H Fs Hf' H' Fs'->bP K H₀ Hf₀ Hf' S' σ H' Fs'->H' p=some (.lst vs)->bY K Hf' ds vs->Q (.ref p) H')->te σ H Q
def zO(tt:TT) (m:MT):Prop:=∀{H₀ Hf₀ Hf:Hp}{S:AS}{σ:St}{H:Hp}{Fs:List (List Addr)}{b:Bool}{S':AS},bP K H₀ Hf₀ Hf S σ H Fs->m S=some (b,S')->∀Q:Bool->Hp->Prop,
 (∀Hf' H' Fs',mO Hf H Fs Hf' H' Fs'->bP K H₀ Hf₀ Hf' S' σ H' Fs'->Q b H')->tt σ H Q
def SA(ta:TA) (m:MA):Prop:=∀{H₀ Hf₀ Hf:Hp}{S:AS}{σ:St}{H:Hp}{Fs:List (List Addr)}{as:List AV}{S':AS},bP K H₀ Hf₀ Hf S σ H Fs->m S=some (as,S')->∀Q:List V->Hp->Prop,
 (∀Hf' H' Fs' vs Gs,mO Hf H Fs Hf' H' Fs'->bP K H₀ Hf₀ Hf' S' σ H' Fs'->bE K Hf' H' as vs Gs->mP H₀ H Fs Fs' Gs.flatten->Q vs H')->ta σ H Q
def IE(ta:TA) (m:ML):Prop:=∀{H₀ Hf₀ Hf:Hp}{S:AS}{σ:St}{H:Hp}{Fs:List (List Addr)}{ds:List D}{S':AS},bP K H₀ Hf₀ Hf S σ H Fs->m S=some (ds,S')->∀Q:List V->Hp->Prop,
 (∀Hf' H' Fs' vs,mO Hf H Fs Hf' H' Fs'->bP K H₀ Hf₀ Hf' S' σ H' Fs'->bY K H' ds vs->Q vs H')->ta σ H Q
end
section
variable {K:W.Frag}{H₀ Hf₀ Hf Hf' H H':Hp}{S S':AS}{σ:St}{Fs Fs':List (List Addr)}
theorem bC.stp{av:AV}{v:V}{F:List Addr}(r:bC K Hf H av v F) (ho:∀q∈F,q∉Fs.flatten) (t:mO Hf H Fs Hf' H' Fs'):bC K Hf' H' av v F :=
 r.keep t.sf (fun q hq=>Cu t.sh (r.owned q hq).1) fun q hq=>by
  by_cases e:Hf' q=none
  .exact e
  .rcases t.gr q (r.owned q hq).2 e with z|z
   .exact absurd z (r.owned q hq).1
   .exact absurd z (ho q hq)
theorem bP.new(R:bP K H₀ Hf₀ Hf S σ H Fs) {p:Addr}{o:HO}(hp:H p=none):mO Hf H Fs Hf (cW H p o) Fs/\bP K H₀ Hf₀ Hf S σ (cW H p o) Fs/\Hf p=none/\H₀ p=none/\p∉Fs.flatten :=
 ⟨⟨.refl _,gw hp,fun _ h=>h,fun b h g=>absurd h g⟩,R.laid (gw hp),R.sub.free hp,R.fr.free hp,fun m=>(R.mem m).1 hp⟩
theorem eB(n:Nat):(S9 n ([]:List Addr)).flatten=[]:=by
 induction n with
 |zero=>rfl
 |succ n ih=>rw[WB,fCq,ih];rfl
theorem bC.new{p:Addr}{vs:List V}{ds:List D}(h:H p=some (.lst vs)) (n:Hf p=none) (r:bY K Hf ds vs):bC K Hf H (.ow (ds.map .sh)) (.ref p) [p]:=by
 have e:[p]=p::(S9 ds.length ([]:List Addr)).flatten:=by rw[eB]
 rw[e];refine .ow h n (by simp[r.1]) (by simp) fun i a v F h1 h2 h3=>?_
 rw[gMq]at h1;cases q:ds[i]? with
 |none=>rw[q]at h1;cases h1
 |some d =>
  rw[q]at h1;cases h1;have:F=[]:=UQ (mGq h3);subst this;exact .sh (r.2 i d v q h2)
theorem bC.news{p:Addr}{vs:List V}{avs:List AV}{Gs:List (List Addr)}(h:H p=some (.lst vs)) (n:Hf p=none) (r:bE K Hf H avs vs Gs):bC K Hf H (.ow avs) (.ref p) (p::Gs.flatten):=.ow h n r.1 r.2.1 r.2.2
theorem bC.ow_inv{avs:List AV}{v:V}{F:List Addr}(h:bC K Hf H (.ow avs) v F):∃p vs Gs,v = .ref p/\F=p::Gs.flatten/\H p=some (.lst vs)/\Hf p=none/\bE K Hf H avs vs Gs:=by
 cases h with
 |ow h n l lf e=>exact⟨_,_,_,rfl,rfl,h,n,l,lf,e⟩
theorem bC.owd_inv{ds:List (aX×D)}{v:V}{F:List Addr}(h:bC K Hf H (.owd ds) v F):∃p kvs,v = .ref p/\F=[p]/\H p=some (.dK kvs)/\Hf p=none/\gL K Hf ds kvs:=by
 cases h with
 |owd h n r=>exact⟨_,_,rfl,rfl,h,n,r⟩
theorem bC.sh_inv{d:D}{v:V}{F:List Addr}(h:bC K Hf H (.sh d) v F):F=[]/\dt K Hf d v:=by
 cases h with
 |sh r=>exact⟨rfl,r⟩
theorem bP.give{H1:Hp}{Fs1:List (List Addr)}(R:bP K H₀ Hf₀ Hf' S σ H1 Fs1) (t:mO Hf H Fs Hf' H1 Fs1) {av:AV}{v:V}{F:List Addr}(r:bC K Hf' H1 av v F) (o:mP H₀ H Fs Fs1 F) :
  bP K H₀ Hf₀ (Z.frz Hf' H1 F) S σ H1 Fs1/\dt K (Z.frz Hf' H1 F) (aH av) v/\mO Hf H Fs (Z.frz Hf' H1 F) H1 Fs1:=by
 have n:∀q∈F,Hf' q=none:=fun q hq=>(r.owned q hq).2
 refine⟨R.frz (fun q hq=>⟨o.fr q hq,o.out q hq⟩) n,r.frozen (eV n) fun q hq=>qV hq,t.sf.trans (eV n),t.sh,t.own,fun b h g=>?_⟩
 by_cases m:b∈F
 .exact o.new b m
 .rw [hZ m]at g;exact t.gr b h g
theorem bE.nil:bE K Hf H [] [] []:=⟨rfl,rfl,fun i a v F h=>by simp at h⟩
theorem bE.cons{a:AV}{v:V}{F:List Addr}{as:List AV}{vs:List V}{Gs:List (List Addr)}(h:bC K Hf H a v F) (t:bE K Hf H as vs Gs):bE K Hf H (a::as) (v::vs) (F::Gs) :=
 ⟨by simp[t.1],by simp[t.2.1],fun i b w G h1 h2 h3=>by
  cases i with
  |zero =>
   simp at h1 h2 h3;subst h1 h2 h3;exact h
  |succ i=>exact t.2.2 i b w G (by simpa using h1) (by simpa using h2) (by simpa using h3)⟩
theorem bE.nil_inv{vs:List V}{Gs:List (List Addr)}(h:bE K Hf H [] vs Gs):vs=[]/\Gs=[]:=by
 obtain⟨a,b,_⟩:=h;exact⟨TQ.mp a.symm,TQ.mp b.symm⟩
theorem bE.cons_inv{a:AV}{as:List AV}{vs:List V}{Gs:List (List Addr)}(h:bE K Hf H (a::as) vs Gs):∃v ws F Gs',vs=v::ws/\Gs=F::Gs'/\bC K Hf H a v F/\bE K Hf H as ws Gs':=by
 obtain⟨h1,h2,h3⟩:=h;cases vs with
 |nil=>simp at h1
 |cons v ws =>
  cases Gs with
  |nil=>simp at h2
  |cons F Gs'=>exact⟨v,ws,F,Gs',rfl,rfl,h3 0 a v F rfl rfl rfl,by simpa using h1,by simpa using h2,fun i b w G q1 q2 q3=>h3 (i+1) b w G (by simpa using q1) (by simpa using q2) (by simpa using q3)⟩
theorem bE.frozen(h:bE K Hf H as vs Gs) (s:bW Hf Hf') (hk:∀q∈Gs.flatten,Hf' q=H q):bY K Hf' (as.map aH) vs :=
 ⟨by simp[h.1],fun i d v h1 h2=>by
  rw[gMq]at h1;cases ea:as[i]? with
  |none=>rw[ea]at h1;cases h1
  |some a =>
   rw[ea]at h1;cases h1;have hi:i<Gs.length:=h.2.1 ▸ (gSq.mp ea).1;exact(h.2.2 i a v Gs[i] ea h2 (gEg hi)).frozen s fun q hq=>hk q (mFq.mpr ⟨Gs[i],gRq hi,hq⟩)⟩
theorem bE.owned(h:bE K Hf H as vs Gs):∀q∈Gs.flatten,H q≠none/\Hf q=none:=fun q hq=>by
 obtain⟨F,hF,hq⟩:=mFq.mp hq;obtain⟨i,hi,rfl⟩:=Uu.mp hF;have h1:i<as.length:=h.2.1.symm ▸ hi;have h2:i<vs.length:=h.1 ▸ h1;exact(h.2.2 i as[i] vs[i] Gs[i] (gEg h1) (gEg h2) (gEg hi)).owned q hq
theorem bP.gives{H1:Hp}{Fs1:List (List Addr)}(R:bP K H₀ Hf₀ Hf' S σ H1 Fs1) (t:mO Hf H Fs Hf' H1 Fs1) {as:List AV}{vs:List V}{Gs:List (List Addr)}(r:bE K Hf' H1 as vs Gs) (o:mP H₀ H Fs Fs1 Gs.flatten) :
  bP K H₀ Hf₀ (Z.frz Hf' H1 Gs.flatten) S σ H1 Fs1/\bY K (Z.frz Hf' H1 Gs.flatten) (as.map aH) vs/\mO Hf H Fs (Z.frz Hf' H1 Gs.flatten) H1 Fs1:=by
 have n:∀q∈Gs.flatten,Hf' q=none:=fun q hq=>(r.owned q hq).2
 refine⟨R.frz (fun q hq=>⟨o.fr q hq,o.out q hq⟩) n,r.frozen (eV n) fun q hq=>qV hq,t.sf.trans (eV n),t.sh,t.own,fun b h g=>?_⟩
 by_cases m:b∈Gs.flatten
 .exact o.new b m
 .rw [hZ m]at g;exact t.gr b h g
theorem mP.stp{Hf1 H1 Hf2 H2:Hp}{Fs1 Fs2:List (List Addr)}{F:List Addr}(o:mP H₀ H Fs Fs1 F) (t:mO Hf1 H1 Fs1 Hf2 H2 Fs2):mP H₀ H Fs Fs2 F:=⟨o.nd,o.fr,fun q h m=>o.out q h (t.own q m),o.new⟩
theorem mP.back{Hf1 H1:Hp}{Fs1 Fs2:List (List Addr)}{F:List Addr}(t:mO Hf H Fs Hf1 H1 Fs1) (o:mP H₀ H1 Fs1 Fs2 F):mP H₀ H Fs Fs2 F:=⟨o.nd,o.fr,o.out,fun q h=>(o.new q h).elim (fun e=>.inl (t.sh.free e)) fun m=>.inr (t.own q m)⟩
theorem mP.app{F G:List Addr}(a:mP H₀ H Fs Fs' F) (b:mP H₀ H Fs Fs' G) (d:∀q∈F,q∉G):mP H₀ H Fs Fs' (F++G) :=
 ⟨nAq.mpr ⟨a.nd,b.nd,fun x hx y hy e=>d x hx (e ▸ hy)⟩,fun q h=>(mAq.mp h).elim (a.fr q) (b.fr q),fun q h=>(mAq.mp h).elim (a.out q) (b.out q),fun q h=>(mAq.mp h).elim (a.new q) (b.new q)⟩
theorem mP.apart{Hf1 H1:Hp}{Fs1 Fs2:List (List Addr)}{F G:List Addr}(a:mP H₀ H Fs Fs1 F) (ha:∀q∈F,H1 q≠none) (b:mP H₀ H1 Fs1 Fs2 G):∀q∈F,q∉G:=fun q h m=>by
 rcases b.new q m with e|e
 .exact ha q h e
 .exact a.out q h e
theorem mP.one(R:bP K H₀ Hf₀ Hf S σ H Fs) {p:Addr}(hp:H p=none):mP H₀ H Fs Fs [p] :=
 ⟨by simp,fun q h=>by rw[mSq.mp h];exact R.fr.free hp,fun q h m=>by rw[mSq.mp h]at m;exact(R.mem m).1 hp,fun q h=>by rw[mSq.mp h];exact .inl hp⟩
end
noncomputable def aj(i:Nat):ME:=fun S=>(S[i]?.join).map fun a=>(aH a,S)
noncomputable def aK(i:Nat):MK:=fun S=>(S[i]?.join).map fun a=>(.sh (aH a),S.set i (some (.sh (aH a))))
noncomputable def tO(i:Nat):MK:=fun S=>(S[i]?.join).map fun a=>(a,S.set i none)
noncomputable def qo(i:Nat):ML:=fun S=>match S[i]?.join with
 |some (.sh (.list ds))=>some (ds,S)
 |some (.ow avs)=>some (avs.map aH,S.set i (some (.ow ((avs.map aH).map .sh))))
 |_=>none
noncomputable def rOf(k:MK):ME:=fun S=>(k S).map fun x=>(aH x.1,x.2)
def kSc(m:ME):MK:=fun S=>(m S).bind fun x=>if x.1.scal then some (.sh x.1,x.2) else none
noncomputable def lOf(k:MK):ML:=fun S=>(k S).bind fun x=>match x.1 with
 | .sh (.list ds)=>some (ds,x.2)
 | .ow avs=>some (avs.map aH,x.2)
 |_=>none
noncomputable def gK(k:MK):MK:=fun S=>(k S).map fun x=>(.sh (aH x.1),x.2)
def rC(d:D):ME:=fun S=>if d.scal then some (d,S) else none
section
variable {K:W.Frag}
theorem bN{S:AS}{i:Nat}{a:AV}(h:S[i]?.join=some a):S[i]?=some (some a):=by
 cases e:S[i]? with
 |none=>rw[e]at h;cases h
 |some z=>rw[e]at h;exact congrArg some h
theorem af(i:Nat):SR K (kz i) (aj i):=by
 intro H₀ Hf₀ Hf S σ H Fs d S' R e Q q;obtain⟨a,ea,e⟩:=oMq.mp e;cases e;obtain⟨v,F,s1,s2,r⟩:=R.rep i a (bN ea);exact⟨v,s1,q _ _ _ v .refl R (r.rep R.sub)⟩
theorem ko(i:Nat):SK K (kz i) (tO i):=by
 intro H₀ Hf₀ Hf S σ H Fs a S' R e Q q;obtain⟨b,ea,e⟩:=oMq.mp e;cases e;obtain⟨v,F,s1,s2,r,nd,o,R1⟩:=R.move (bN ea);exact⟨v,s1,q _ _ _ v F ⟨.refl _,.refl _,fun p hp=>cY hp,fun b h g=>absurd h g⟩ R1 r ⟨nd,fun q hq=>(o q hq).1,fun q hq=>(o q hq).2,fun q hq=>.inr (mFq.mpr ⟨F,mGq s2,hq⟩)⟩⟩
theorem bP.again{H₀ Hf₀ Hf H:Hp}{S:AS}{σ:St}{Fs:List (List Addr)}{i:Nat}{av:AV}{v:V}{F G:List Addr}(R:bP K H₀ Hf₀ Hf (S.set i none) σ H (Fs.set i [])) (s1:σ[i]?=some (some v)) (r:bC K Hf H av v G) (nd:G.Nodup) (hf:∀q∈G,H₀ q=none/\q∉(Fs.set i []).flatten) :
  bP K H₀ Hf₀ Hf (S.set i (some av)) σ H (Fs.set i G):=by
 have R2:=R.set i r nd hf;rw[WL,WL]at R2;have e:σ.set i (some v)=σ:=by
  obtain⟨hk,ev⟩:=gSq.mp s1;rw[←ev];exact VB hk
 rw[e]at R2;exact R2
theorem aA(i:Nat):SK K (kz i) (aK i):=by
 intro H₀ Hf₀ Hf S σ H Fs a S' R e Q q;obtain⟨b,ea,e⟩:=oMq.mp e;cases e;obtain⟨v,F,s1,s2,r,nd,o,R1⟩:=R.move (bN ea);have n:∀q∈F,Hf q=none:=fun q hq=>(r.owned q hq).2
 have R2:=R1.frz o n;have r2:=r.frozen (eV (H:=H) n) fun q hq=>qV hq
 have R3:=R2.again (F:=F) (G:=[]) s1 (.sh r2) Tc fun q h=>(by cases h)
 refine⟨v,s1,q _ _ _ v [] ⟨eV n,.refl _,fun p hp=>cY hp,fun b h g=>?_⟩ R3 (.sh r2) .nil⟩
 by_cases m:b∈F
 .exact .inr (mFq.mpr ⟨F,mGq s2,m⟩)
 .rw [hZ m]at g;exact absurd h g
theorem oH(i:Nat):SL K (kz i) (qo i):=by
 intro H₀ Hf₀ Hf S σ H Fs ds S' R e Q q;unfold qo at e;split at e
 .rename_i ds' ea;cases e;obtain⟨v,F,s1,s2,r⟩:=R.rep i _ (bN ea);obtain⟨p,vs,rfl,h1,h2⟩:=r.sh_inv.2.list_inv;exact⟨_,s1,q _ _ _ p vs .refl R (R.sub _ _ h1) h2⟩
 .rename_i avs ea;cases e;obtain⟨v,F,s1,s2,r,nd,o,R1⟩:=R.move (bN ea);obtain⟨p,vs,Gs,rfl,rfl,h1,h2,h3⟩:=r.ow_inv;have n:∀q∈Gs.flatten,Hf q=none:=fun q hq=>(h3.owned q hq).2
  have R2:=R1.frz (F:=Gs.flatten) (fun q hq=>o q (mCo _ hq)) n
  have r2:=h3.frozen (eV (H:=H) n) fun q hq=>qV hq
  have np:p∉Gs.flatten:=(Sm.mp nd).1;have r3:bC K (Z.frz Hf H Gs.flatten) H (.ow ((avs.map aH).map .sh)) (.ref p) [p]:=bC.new h1 (by rw[hZ np];exact h2) r2
  have R3:=R2.again (F:=p::Gs.flatten) (G:=[p]) s1 r3 (by simp) fun q hq=>by rw[mSq.mp hq];exact o p (by simp)
  refine⟨_,s1,q _ _ _ p vs ⟨eV n,.refl _,fun b hb=>?_,fun b h g=>?_⟩ R3 h1 r2⟩
  .rcases dZ hb with z|z
   .rw [mSq.mp z];exact mFq.mpr ⟨_,mGq s2,by simp⟩
   .exact z
  .by_cases m:b∈Gs.flatten
   .exact .inr (mFq.mpr ⟨_,mGq s2,mCo _ m⟩)
   .rw [hZ m]at g;exact absurd h g
 .cases e
theorem SK.rOf{te:TE}{k:MK}(h:SK K te k):SR K te (rOf k):=by
 intro H₀ Hf₀ Hf S σ H Fs d S' R e Q q;obtain⟨x,ea,e⟩:=oMq.mp e;cases e;exact h R (a:=x.1) (S':=x.2) ea Q fun Hf' H' Fs' v F t R' r o=>q _ _ _ v t R' (r.rep R'.sub)
theorem SR.kSc{te:TE}{m:ME}(h:SR K te m):SK K te (kSc m):=by
 intro H₀ Hf₀ Hf S σ H Fs a S' R e Q q;obtain⟨x,ea,e⟩:=oBq.mp e;split at e
 .rename_i hs;cases e;exact h R (d:=x.1) (S':=x.2) ea Q fun Hf' H' Fs' v t R' r=>q _ _ _ v [] t R' (.sh (r.scal hs)) .nil
 .cases e
theorem SK.frz{te:TE}{k:MK}(h:SK K te k):SK K te (gK k):=by
 intro H₀ Hf₀ Hf S σ H Fs a S' R e Q q;obtain⟨x,ea,e⟩:=oMq.mp e;cases e;refine h R (a:=x.1) (S':=x.2) ea Q fun Hf' H' Fs' v F t R' r o=>?_
 obtain⟨R2,r2,t2⟩:=R'.give t r o;exact q _ _ _ v [] t2 R2 (.sh r2) .nil
theorem SK.lOf{te:TE}{k:MK}(h:SK K te k):SL K te (lOf k):=by
 intro H₀ Hf₀ Hf S σ H Fs ds S' R e Q q;obtain⟨x,ea,e⟩:=oBq.mp e;refine h R (a:=x.1) (S':=x.2) ea Q fun Hf' H' Fs' v F t R' r o=>?_
 split at e
 .rename_i ds' hx;cases e;rw[hx]at r;obtain⟨p,vs,rfl,h1,h2⟩:=r.sh_inv.2.list_inv;exact q _ _ _ p vs t R' (R'.sub _ _ h1) h2
 .rename_i avs hx;cases e;obtain⟨R2,r2,t2⟩:=R'.give t r o;rw[hx,dR]at r2;obtain⟨p,vs,rfl,h1,h2⟩:=r2.list_inv;exact q _ _ _ p vs t2 R2 (R2.sub _ _ h1) h2
 .cases e
theorem Iy{v:V}{d:D}(h:∀H,dt K H d v):SR K (tC v) (rC d):=by
 intro H₀ Hf₀ Hf S σ H Fs d' S' R e Q q;unfold rC at e;split at e
 .cases e;exact q _ _ _ v .refl R (h _)
 .cases e
theorem aq{i:Int}:SR K (tC (.int i)) (rC (.int i)):=Iy fun _=>.int
theorem iK{i:Bool}:SR K (tC (.bl i)) (rC (.bl i)):=Iy fun _=>.bl
theorem Fe:SR K (tC .non) (rC .non):=Iy fun _=>.non
theorem nt{T:String}:SR K (tC (.ty T)) (rC (.ty T)):=Iy fun _=>.ty
end
def iR{α:Type}(p:Prop) (x:Option α):Option α:=@ite (Option α) p (Th p) x none
theorem hX{α:Type}{p:Prop}(h:p) (x:Option α):iR p x=x:=if_pos h
theorem kS{α:Type}(x:Option α):iR True x=x:=if_pos trivial
theorem bp{α:Type}{p:Prop}{x y:Option α}(h:iR p x=y):(p/\x=y)∨none=y:=by
 by_cases c:p
 .rw [hX c]at h;exact .inl ⟨c,h⟩
 .exact .inr ((@if_neg p (Th p) c _ x none).symm.trans h)
noncomputable def bg(f:D->D->Option D) (a b:ME):ME:=fun S=>(a S).bind fun x=>(b x.2).bind fun y=>(f x.1 y.1).map fun d=>(d,y.2)
noncomputable def rY(f:D->Option D) (a:ME):ME:=fun S=>(a S).bind fun x=>(f x.1).map fun d=>(d,x.2)
def we(K:W.Frag) (r:R2) (f:D->D->Option D):Prop:=∀{x y:V}{H:Hp}{Q:VK}{dx dy d:D},dt K H dx x->dt K H dy y->f dx dy=some d->(∀v,dt K H d v->Q v H)->r x y H Q
def Rn(K:W.Frag) (r:V->Hp->VK->Prop) (f:D->Option D):Prop:=∀{x:V}{H:Hp}{Q:VK}{dx d:D},dt K H dx x->f dx=some d->(∀v,dt K H d v->Q v H)->r x H Q
section
variable {K:W.Frag}{r:R2}{f:D->D->Option D}{ta tb:TE}{a b:ME}
theorem aE(hr:we K r f) (ha:SR K ta a) (hb:SR K tb b):SR K (J1 r ta tb) (bg f a b):=by
 intro H₀ Hf₀ Hf S σ H Fs d S' R e Q q;obtain⟨x,e1,e⟩:=oBq.mp e;obtain⟨y,e2,e⟩:=oBq.mp e;obtain⟨z,e3,e⟩:=oMq.mp e;cases e;refine ha R (d:=x.1) (S':=x.2) e1 _ fun Hf1 H1 Fs1 v1 t1 R1 r1=>hb R1 (d:=y.1) (S':=y.2) e2 _ fun Hf2 H2 Fs2 v2 t2 R2 r2=>?_
 exact hr (r1.mono t2.sh) r2 e3 fun v rv=>q _ _ _ v (t1.trans t2) R2 rv
theorem ka{r:V->Hp->VK->Prop}{f:D->Option D}(hr:Rn K r f) (ha:SR K ta a):SR K (Re r ta) (rY f a):=by
 intro H₀ Hf₀ Hf S σ H Fs d S' R e Q q;obtain⟨x,e1,e⟩:=oBq.mp e;obtain⟨z,e3,e⟩:=oMq.mp e;cases e;exact ha R (d:=x.1) (S':=x.2) e1 _ fun Hf1 H1 Fs1 v1 t1 R1 r1=>hr r1 e3 fun v rv=>q _ _ _ v t1 R1 rv
end
def zS(c:Int->Int->Prop) (g:Int->Int->D):D->D->Option D
 | .int i,.int j=>iR (c i j) (some (g i j))
 |_,_=>none
noncomputable def Rc(g:Int->D):D->Option D
 | .int i=>some (g i)
 |_=>none
abbrev gW:=zS (fun _ _=>True) fun i j=>.int (i+j)
abbrev rV:=zS (fun _ _=>True) fun i j=>.int (i-j)
abbrev mM:=zS Gi fun i j=>.int (i*j)
abbrev iE:=zS (fun _ j=>0<j) fun i j=>.int (i % j)
abbrev nh:=zS LF fun i j=>.int (i / j)
abbrev rX:=zS LW fun i j=>.int (i ^ j.toNat)
abbrev zz:=zS (fun _ _=>True) fun i j=>.bl (decide (i<j))
abbrev R8:=zS (fun _ _=>True) fun i j=>.bl (decide (i<=j))
abbrev Er:=zS (fun _ _=>True) fun i j=>.bl (decide (j<i))
abbrev Sd:=zS (fun _ _=>True) fun i j=>.bl (decide (j<=i))
abbrev jb:=Rc fun i=>.int (-i)
noncomputable def xZ:D->D->Option D
 | .int i,.int j=>some (.bl (decide (i=j)))
 | .str i,.str j=>some (.bl (decide (i=j)))
 | .bl i,.bl j=>some (.bl (decide (i=j)))
 | .non,.non=>some (.bl true)
 | .non,.int _=>some (.bl false)
 | .int _,.non=>some (.bl false)
 | .non,.str _=>some (.bl false)
 | .str _,.non=>some (.bl false)
 | .non,.bl _=>some (.bl false)
 | .bl _,.non=>some (.bl false)
 | .int _,.str _=>some (.bl false)
 | .str _,.int _=>some (.bl false)
 |_,_=>none
noncomputable def Ee:D->Option D
 | .bl b=>some (.bl (!b))
 |_=>none
def Dr(x y:D):Option D:=(xZ x y).bind Ee
section
variable {K:W.Frag}
theorem ya{C:Int->Int->Prop}{g:Int->Int->V}{g':Int->Int->D}(hg:∀H i j,dt K H (g' i j) (g i j)):we K (rI C g) (zS C g'):=by
 intro x y H Q dx dy d rx ry e q;unfold zS at e;split at e
 .rename_i i j;cases rx;cases ry;rcases bp e with ⟨h,e⟩|e
  .cases e;exact⟨i,j,rfl,rfl,h,q _ (hg H i j)⟩
  .cases e
 .cases e
theorem xP{g:Int->Int->V}{g':Int->Int->D}(hg:∀H i j,dt K H (g' i j) (g i j)):we K (GH g) (zS (fun _ _=>True) g'):=by
 intro x y H Q dx dy d rx ry e q;unfold zS at e;split at e
 .rename_i i j;cases rx;cases ry;rw[kS]at e;cases e;exact⟨i,j,rfl,rfl,q _ (hg H i j)⟩
 .cases e
theorem fj:we K (GH fun i j=>.int (i+j)) gW:=xP fun _ _ _=>.int
theorem qu:we K (GH fun i j=>.int (i-j)) rV:=xP fun _ _ _=>.int
theorem qB:we K (rI Gi fun i j=>.int (i*j)) mM:=ya fun _ _ _=>.int
theorem eN:we K (rI (fun _ j=>0<j) fun i j=>.int (i % j)) iE:=ya fun _ _ _=>.int
theorem kg:we K (rI LF fun i j=>.int (i / j)) nh:=ya fun _ _ _=>.int
theorem ug:we K (rI LW fun i j=>.int (i ^ j.toNat)) rX:=ya fun _ _ _=>.int
theorem uY:we K (GH fun i j=>.bl (decide (i<j))) zz:=xP fun _ _ _=>.bl
theorem Cw:we K (GH fun i j=>.bl (decide (j<i))) Er:=xP fun _ _ _=>.bl
theorem gn:Rn K (rU fun i=>.int (-i)) jb:=by
 intro x H Q dx d rx e q;cases rx <;> simp only[Rc]at e
 all_goals first|(exfalso;simp at e;done)|skip
 rename_i i;cases e;exact⟨i,rfl,q _ .int⟩
theorem qp:we K Rh xZ:=by
 intro x y H Q dx dy d rx ry e q;unfold xZ at e;split at e
 all_goals first|(cases e;done)|skip
 all_goals (cases rx;cases ry;cases e;refine⟨rfl,q _ ?_⟩;simp only[reduceCtorEq,decide_false,decide_true,V.int.injEq,V.str.injEq,V.bl.injEq];exact .bl)
theorem vQ:we K Rg Dr:=by
 intro x y H Q dx dy d rx ry e q;obtain⟨b,e1,e2⟩:=oBq.mp e;obtain⟨h1,h2⟩:=qp rx ry e1 (Q:=fun v _=>dt K H b v) fun v h=>h
 cases h2;cases e2;exact⟨h1,q _ .bl⟩
end
noncomputable def yi(a b:ME):ME:=fun S=>(a S).bind fun x=>match x.1 with
 | .bl true=>b x.2
 | .bl false=>some (.bl false,x.2)
 |_=>none
noncomputable def Sa(a b:ME):ME:=fun S=>(a S).bind fun x=>match x.1 with
 | .bl true=>some (.bl true,x.2)
 | .bl false=>b x.2
 |_=>none
def Ni(a:ME):ME:=rY Ee a
noncomputable def dN(a:ME):MT:=fun S=>(a S).bind fun x=>match x.1 with
 | .bl b=>some (b,x.2)
 |_=>none
noncomputable def Ro(a b:MT):MT:=fun S=>(a S).bind fun x=>if x.1=true then b x.2 else some (false,x.2)
noncomputable def rR(a b:MT):MT:=fun S=>(a S).bind fun x=>if x.1=true then some (true,x.2) else b x.2
noncomputable def eQ(a:MT):MT:=fun S=>(a S).map fun x=>(!x.1,x.2)
noncomputable def Sb(c:MT) (a b:ME):ME:=fun S=>(c S).bind fun x=>if x.1=true then a x.2 else b x.2
noncomputable def R9(c:MT) (a b:MK):MK:=fun S=>(c S).bind fun x=>if x.1=true then a x.2 else b x.2
section
variable {K:W.Frag}{ta tb:TE}{a b:ME}{ca cb:TT}{ma mb:MT}
theorem xM(ha:SR K ta a) (hb:SR K tb b):SR K (KN ta tb) (yi a b):=by
 intro H₀ Hf₀ Hf S σ H Fs d S' R e Q q;obtain⟨x,e1,e⟩:=oBq.mp e;refine ha R (d:=x.1) (S':=x.2) e1 _ fun Hf1 H1 Fs1 v1 t1 R1 r1=>?_
 split at e
 .rename_i hx;rw[hx]at r1;cases r1;exact⟨true,rfl,Bb (hb R1 e Q fun Hf2 H2 Fs2 v2 t2 R2 r2=>q _ _ _ v2 (t1.trans t2) R2 r2)⟩
 .rename_i hx;rw[hx]at r1;cases r1;cases e;exact⟨false,rfl,Aa (q _ _ _ _ t1 R1 .bl)⟩
 .cases e
theorem KR(ha:SR K ta a):SR K (Ku ta) (Ni a):=by
 intro H₀ Hf₀ Hf S σ H Fs d S' R e Q q;obtain⟨x,e1,e⟩:=oBq.mp e;obtain⟨z,e3,e⟩:=oMq.mp e;cases e;refine ha R (d:=x.1) (S':=x.2) e1 _ fun Hf1 H1 Fs1 v1 t1 R1 r1=>?_
 cases hx:x.1 <;> rw[hx]at e3 r1 <;> simp only[Ee]at e3
 all_goals first|(exfalso;simp at e3;done)|skip
 cases r1;cases e3;exact⟨_,rfl,q _ _ _ _ t1 R1 .bl⟩
theorem gN(ha:SR K ta a):zO K (tB ta) (dN a):=by
 intro H₀ Hf₀ Hf S σ H Fs d S' R e Q q;obtain⟨x,e1,e⟩:=oBq.mp e;refine ha R (d:=x.1) (S':=x.2) e1 _ fun Hf1 H1 Fs1 v1 t1 R1 r1=>?_
 split at e
 .rename_i b hx;rw[hx]at r1;cases r1;cases e;exact⟨_,rfl,q _ _ _ t1 R1⟩
 .cases e
theorem bS(ha:SR K ta a):zO K (Kx ta) (dN a):=gN ha
theorem yC(ha:zO K ca ma) (hb:zO K cb mb):zO K (Ry ca cb) (rR ma mb):=by
 intro H₀ Hf₀ Hf S σ H Fs d S' R e Q q;obtain⟨x,e1,e⟩:=oBq.mp e;refine ha R (b:=x.1) (S':=x.2) e1 _ fun Hf1 H1 Fs1 t1 R1=>?_
 split at e
 .rename_i hx;cases e;rw[hx];exact Bb (q _ _ _ t1 R1)
 .rename_i hx;rw[UX]at hx;rw[hx];exact Aa (hb R1 e Q fun Hf2 H2 Fs2 t2 R2=>q _ _ _ (t1.trans t2) R2)
theorem lC(ha:zO K ca ma):zO K (OX ca) (eQ ma):=by
 intro H₀ Hf₀ Hf S σ H Fs d S' R e Q q;obtain⟨x,e1,e⟩:=oMq.mp e;cases e;exact ha R (b:=x.1) (S':=x.2) e1 _ fun Hf1 H1 Fs1 t1 R1=>q _ _ _ t1 R1
end
noncomputable abbrev cX:Nat:=16777216
theorem gf:sizeLine=cX:=sizeLine_eq
def SQ(K:W.Frag) (te:TE) (m:ML):Prop:=∀{H₀ Hf₀ Hf:Hp}{S:AS}{σ:St}{H:Hp}{Fs:List (List Addr)}{ds:List D}{S':AS},bP K H₀ Hf₀ Hf S σ H Fs->m S=some (ds,S')->∀Q:VK,
 (∀Hf' H' Fs' p vs,mO Hf H Fs Hf' H' Fs'->bP K H₀ Hf₀ Hf' S' σ H' Fs'->dP K H' p vs->bY K Hf' ds vs->Q (.ref p) H')->te σ H Q
theorem SL.q{K:W.Frag}{te:TE}{m:ML}(h:SL K te m):SQ K te m:=by
 intro H₀ Hf₀ Hf S σ H Fs ds S' R e Q q;exact h R e Q fun Hf' H' Fs' p vs t R' hp r=>q _ _ _ p vs t R' (dP.of hp) r
noncomputable def gY(i:Nat):ML:=fun S=>match S[i]?.join with
 |some (.sh (.scr ns))=>some (ns.map .int,S)
 |some (.sh (.list ds))=>some (ds,S)
 |some (.ow avs)=>some (avs.map aH,S.set i (some (.ow ((avs.map aH).map .sh))))
 |_=>none
theorem gR{K:W.Frag}{H:Hp}:∀ns:List Int,bY K H (ns.map .int) (ns.map V.int)
 | []=>.nil
 |n::ns=>.cons .int (gR ns)
theorem fD{K:W.Frag}(i:Nat):SQ K (kz i) (gY i):=by
 intro H₀ Hf₀ Hf S σ H Fs ds S' R e Q q;unfold gY at e;split at e
 .rename_i ns ea;cases e;obtain⟨v,F,s1,s2,r⟩:=R.rep i _ (bN ea);cases r.sh_inv.2 with
  |scr h=>exact⟨_,s1,q _ _ _ _ _ .refl R (R.sub.seq h) (gR ns)⟩
 .rename_i ds' ea;cases e;refine oH i R (ds:=ds) (S':=S) ?_ Q fun Hf' H' Fs' p vs t R' hp r=>q _ _ _ p vs t R' (dP.of hp) r
  unfold qo;rw[ea]
 .rename_i avs ea;refine oH i R (ds:=ds) (S':=S') ?_ Q fun Hf' H' Fs' p vs t R' hp r=>q _ _ _ p vs t R' (dP.of hp) r
  unfold qo;rw[ea];exact e
 .cases e
section
variable {K:W.Frag}{H₀ Hf₀ Hf Hf' H H':Hp}{S S':AS}{σ:St}{Fs Fs':List (List Addr)}
theorem bE.stp{as:List AV}{vs:List V}{Gs:List (List Addr)}(r:bE K Hf H as vs Gs) (ho:∀q∈Gs.flatten,q∉Fs.flatten) (t:mO Hf H Fs Hf' H' Fs'):bE K Hf' H' as vs Gs :=
 ⟨r.1,r.2.1,fun i a v F h1 h2 h3=>(r.2.2 i a v F h1 h2 h3).stp (fun q hq=>ho q (mFq.mpr ⟨F,mGq h3,hq⟩)) t⟩
theorem bP.layF(R:bP K H₀ Hf₀ Hf S σ H Fs) {p:Addr}{o:HO}(hp:H p=none):mO Hf H Fs (cW Hf p o) (cW H p o) Fs/\bP K H₀ Hf₀ (cW Hf p o) S σ (cW H p o) Fs:=by
 have hf:Hf p=none:=R.sub.free hp;refine⟨⟨gw hf,gw hp,fun _ h=>h,fun b h g=>?_⟩,R.more (gw hp) (gw hf) (fun b u e=>?_) (fun q hq=>?_) fun b h1 h2=>?_⟩
 .by_cases m:b=p
  .subst m;exact .inl hp
  .rw [aL m]at g;exact absurd h g
 .by_cases m:b=p
  .subst m;rw[aR]at e ⊢;exact e
  .rw [aL m]at e ⊢;exact R.sub b u e
 .rw [aL fun e=>(R.mem hq).1 (by rw[e];exact hp)]
  exact(R.mem hq).2
 .rw [aL fun e=>h2 (by rw[e];exact R.fr.free hp)]
  exact R.lim b h1 h2
end
noncomputable def aN:MA:=fun S=>some ([],S)
noncomputable def aB(k:MK) (r:MA):MA:=fun S=>(k S).bind fun x=>(r x.2).map fun y=>(x.1::y.1,y.2)
noncomputable def ax:ML:=fun S=>some ([],S)
noncomputable def ah(k:ME) (r:ML):ML:=fun S=>(k S).bind fun x=>(r x.2).map fun y=>(x.1::y.1,y.2)
section
variable {K:W.Frag}{te ta tb:TE}{tr:TA}
theorem aJ:SA K kq aN:=by
 intro H₀ Hf₀ Hf S σ H Fs as S' R e Q q;cases e;exact q _ _ _ [] [] .refl R .nil .nil
theorem aF{k:MK}{r:MA}(hk:SK K te k) (hr:SA K tr r):SA K (fk te tr) (aB k r):=by
 intro H₀ Hf₀ Hf S σ H Fs as S' R e Q q;obtain⟨x,e1,e⟩:=oBq.mp e;obtain⟨y,e2,e⟩:=oMq.mp e;cases e;refine hk R (a:=x.1) (S':=x.2) e1 _ fun Hf1 H1 Fs1 v F t1 R1 r1 o1=>hr R1 (as:=y.1) (S':=y.2) e2 _ fun Hf2 H2 Fs2 vs Gs t2 R2 r2 o2=>?_
 refine q _ _ _ (v::vs) (F::Gs) (t1.trans t2) R2 (.cons (r1.stp o1.out t2) r2) ?_;rw[fCq];exact(o1.stp t2).app (o2.back t1) (o1.apart (Hf1:=Hf1) (fun q hq=>(r1.owned q hq).1) o2)
theorem aw:IE K kq ax:=by
 intro H₀ Hf₀ Hf S σ H Fs as S' R e Q q;cases e;exact q _ _ _ [] .refl R .nil
theorem ai{k:ME}{r:ML}(hk:SR K te k) (hr:IE K tr r):IE K (fk te tr) (ah k r):=by
 intro H₀ Hf₀ Hf S σ H Fs as S' R e Q q;obtain⟨x,e1,e⟩:=oBq.mp e;obtain⟨y,e2,e⟩:=oMq.mp e;cases e;refine hk R (d:=x.1) (S':=x.2) e1 _ fun Hf1 H1 Fs1 v t1 R1 r1=>hr R1 (ds:=y.1) (S':=y.2) e2 _ fun Hf2 H2 Fs2 vs t2 R2 r2=>?_
 exact q _ _ _ (v::vs) (t1.trans t2) R2 (.cons (r1.mono t2.sh) r2)
end
def dD(a:MA):MK:=fun S=>(a S).bind fun x=>iR (x.1.length<=cX) (some (.ow x.1,x.2))
def yk(a:MA):MK:=fun S=>(a S).bind fun x=>iR (x.1.length<=cX) (some (.sh (.tup (x.1.map aH)),x.2))
section
variable {K:W.Frag}{ta:TA}{a:MA}
theorem cD(ha:SA K ta a):SK K (LZ ta) (dD a):=by
 intro H₀ Hf₀ Hf S σ H Fs av S' R e Q q;obtain⟨x,e1,e⟩:=oBq.mp e;rcases bp e with ⟨hl,e⟩|e
 .skip
  cases e;refine ha R (as:=x.1) (S':=x.2) e1 _ fun Hf1 H1 Fs1 vs Gs t1 R1 r1 o1=>⟨by rw[gf,←r1.1];exact hl,fun p hp=>?_⟩
  obtain⟨t2,R2,n1,n2,n3⟩:=R1.new (o:=.lst vs) hp;refine q _ _ _ (.ref p) (p::Gs.flatten) (t1.trans t2) R2 (bC.news aR n1 (r1.stp o1.out t2)) ?_;have o2:=(mP.one R1 hp).back t1;refine(show mP _ _ _ _ ([p]++Gs.flatten) from o2.app o1 fun q hq m=>?_)
  rw[mSq.mp hq]at m;exact(r1.owned p m).1 hp
 .cases e
theorem wL(ha:SA K ta a):SK K (N6 ta) (yk a):=by
 intro H₀ Hf₀ Hf S σ H Fs av S' R e Q q;obtain⟨x,e1,e⟩:=oBq.mp e;rcases bp e with ⟨hl,e⟩|e
 .skip
  cases e;refine ha R (as:=x.1) (S':=x.2) e1 _ fun Hf1 H1 Fs1 vs Gs t1 R1 r1 o1=>⟨by rw[gf,←r1.1];exact hl,fun p hp=>?_⟩
  obtain⟨R2,r2,t2⟩:=R1.gives t1 r1 o1;obtain⟨t3,R3⟩:=R2.layF (o:=.tup vs) hp;exact q _ _ _ (.ref p) [] (t2.trans t3) R3 (.sh (.mk_tup aR (r2.mono t3.sf))) .nil
 .cases e
end
def Dh(a b:ML):MK:=fun S=>(a S).bind fun x=>(b x.2).bind fun y=>iR (x.1.length+y.1.length<=cX) (some (.ow ((x.1++y.1).map .sh),y.2))
section
variable {K:W.Frag}{ta tb:TE}{a b:ML}
theorem xJ(ha:SL K ta a) (hb:SL K tb b):SK K (J1 OQ ta tb) (Dh a b):=by
 intro H₀ Hf₀ Hf S σ H Fs av S' R e Q q;obtain⟨x,e1,e⟩:=oBq.mp e;obtain⟨y,e2,e⟩:=oBq.mp e;rcases bp e with ⟨hl,e⟩|e
 .skip
  cases e;refine ha R (ds:=x.1) (S':=x.2) e1 _ fun Hf1 H1 Fs1 p1 vs1 t1 R1 h1 r1=>hb R1 (ds:=y.1) (S':=y.2) e2 _ fun Hf2 H2 Fs2 p2 vs2 t2 R2 h2 r2=>?_
  refine⟨p1,p2,vs1,vs2,rfl,rfl,t2.sh _ _ h1,h2,by rw[gf,←r1.1,←r2.1];exact hl,fun p hp=>?_⟩
  obtain⟨t3,R3,n1,n2,n3⟩:=R2.new (o:=.lst (vs1++vs2)) hp;exact q _ _ _ (.ref p) [p] ((t1.trans t2).trans t3) R3 (bC.new aR n1 ((r1.mono t2.sf).append r2)) ((mP.one R2 hp).back (t1.trans t2))
 .cases e
end
abbrev MO:=AS->Option (Option Int×AS)
def SO(K:W.Frag) (to:TO) (m:MO):Prop:=∀{H₀ Hf₀ Hf:Hp}{S:AS}{σ:St}{H:Hp}{Fs:List (List Addr)}{o:Option Int}{S':AS},bP K H₀ Hf₀ Hf S σ H Fs->m S=some (o,S')->∀Q:Option Int->Hp->Prop,
 (∀Hf' H' Fs',mO Hf H Fs Hf' H' Fs'->bP K H₀ Hf₀ Hf' S' σ H' Fs'->Q o H')->to σ H Q
noncomputable def og:MO:=fun S=>some (none,S)
noncomputable def jL(m:ME):MO:=fun S=>(m S).bind fun x=>match x.1 with
 | .int i=>some (some i,x.2)
 |_=>none
def lD{α:Type}(xs:List α) (lo hi:Option Int):List α:=(xs.drop (HT.fT xs.length 0 lo)).take (HT.fT xs.length xs.length hi-HT.fT xs.length 0 lo)
def HN(l:ML) (lo hi:MO):MK:=fun S=>(l S).bind fun x=>(lo x.2).bind fun y=>(hi y.2).map fun z=>(.ow ((lD x.1 y.1 z.1).map .sh),z.2)
section
variable {K:W.Frag}{te:TE}{tl th:TO}{l:ML}{lo hi:MO}{m:ME}
theorem ly:SO K BC og:=by
 intro H₀ Hf₀ Hf S σ H Fs o S' R e Q q;cases e;exact q _ _ _ .refl R
theorem iY(h:SR K te m):SO K (KJ te) (jL m):=by
 intro H₀ Hf₀ Hf S σ H Fs o S' R e Q q;obtain⟨x,e1,e⟩:=oBq.mp e;refine h R (d:=x.1) (S':=x.2) e1 _ fun Hf1 H1 Fs1 v t1 R1 r1=>?_
 split at e
 .rename_i i hx;rw[hx]at r1;cases r1;cases e;exact⟨i,rfl,q _ _ _ t1 R1⟩
 .cases e
theorem bY.cut{H:Hp}{ds:List D}{vs:List V}(r:bY K H ds vs) (lo hi:Option Int):bY K H (lD ds lo hi) (vk vs lo hi):=by
 unfold lD vk;rw[r.1];exact(r.drop _).take _
theorem tL(hl:SQ K te l) (hlo:SO K tl lo) (hhi:SO K th hi):SK K (Q0 (NG K) te tl th) (HN l lo hi):=by
 intro H₀ Hf₀ Hf S σ H Fs av S' R e Q q;obtain⟨x,e1,e⟩:=oBq.mp e;obtain⟨y,e2,e⟩:=oBq.mp e;obtain⟨z,e3,e⟩:=oMq.mp e;cases e;refine hl R (ds:=x.1) (S':=x.2) e1 _ fun Hf1 H1 Fs1 p1 vs1 t1 R1 h1 r1=>hlo R1 (o:=y.1) (S':=y.2) e2 _ fun Hf2 H2 Fs2 t2 R2=>hhi R2 (o:=z.1) (S':=z.2) e3 _ fun Hf3 H3 Fs3 t3 R3=>?_
 refine⟨p1,vs1,rfl,(t2.sh.trans t3.sh).seq h1,fun p hp=>?_⟩
 obtain⟨t4,R4,n1,n2,n3⟩:=R3.new (o:=.lst (vk vs1 y.1 z.1)) hp;exact q _ _ _ (.ref p) [p] (((t1.trans t2).trans t3).trans t4) R4 (bC.new aR n1 ((r1.mono (t2.sf.trans t3.sf)).cut _ _)) ((mP.one R3 hp).back ((t1.trans t2).trans t3))
end
def AX:D->D->Option D
 | .list ds,.int i=>atI ds i
 | .scr ns,.int i=>(atI ns i).map .int
 |_,_=>none
def Bi:D->D->Option D
 | .tup ds,.int i=>atI ds i
 |_,_=>none
def LI(l:ML) (b:ME):MK:=fun S=>(l S).bind fun x=>(b x.2).bind fun y=>match y.1 with
 | .int i=>(atI x.1 i).map fun d=>(.sh d,y.2)
 |_=>none
def Kd(k:MK) (b:ME):MK:=fun S=>(k S).bind fun x=>(b x.2).bind fun y=>match x.1,y.1 with
 | .sh (.tup ds),.int i=>(atI ds i).map fun d=>(.sh d,y.2)
 |_,_=>none
section
variable {K:W.Frag}{ta tb:TE}
theorem bY.atI{H:Hp}{ds:List D}{vs:List V}{i:Int}{d:D}(r:bY K H ds vs) (h:L2.atI ds i=some d):∃v,L2.atI vs i=some v/\dt K H d v:=by
 unfold L2.atI at h ⊢;rw[r.1]at h;obtain⟨j,h1,h2⟩:=oBq.mp h;rw[h1];exact r.get h2
theorem rE:we K (FZ K) AX:=by
 intro x y H Q dx dy d rx ry e q;unfold AX at e;split at e
 .rename_i ds i;cases ry;obtain⟨p,vs,rfl,h,r⟩:=rx.list_inv;obtain⟨l,e'⟩:=r;obtain⟨v,h1,h2⟩:=bY.atI (K:=K) (H:=H) (ds:=ds) (vs:=vs) ⟨l,e'⟩ e;exact⟨p,vs,i,v,rfl,rfl,dP.of h,h1,q v h2⟩
 .rename_i ns i;cases ry;cases rx;rename_i p h;obtain⟨n,h1,h2⟩:=oMq.mp e;subst h2;obtain⟨v,h3,h4⟩:=bY.atI (K:=K) (H:=H) (gR ns) (i:=i) (d:=.int n) (by
   unfold L2.atI at h1 ⊢;rw[lMq];obtain⟨j,g1,g2⟩:=oBq.mp h1;rw[g1];show (ns.map D.int)[j]?=_;rw[gMq,g2];rfl)
  exact⟨p,_,i,v,rfl,rfl,h,h3,q v h4⟩
 .cases e
theorem Af:we K (JY K) Bi:=by
 intro x y H Q dx dy d rx ry e q;unfold Bi at e;split at e
 .rename_i ds i;cases ry;obtain⟨p,vs,rfl,h,r⟩:=rx.tup_inv;obtain⟨v,h1,h2⟩:=bY.atI (K:=K) (H:=H) (ds:=ds) (vs:=vs) r e;exact⟨p,vs,i,v,rfl,rfl,rF.of h,h1,q v h2⟩
 .cases e
theorem FF{l:ML}{b:ME}(hl:SQ K ta l) (hb:SR K tb b):SK K (J1 (FZ K) ta tb) (LI l b):=by
 intro H₀ Hf₀ Hf S σ H Fs av S' R e Q q;obtain⟨x,e1,e⟩:=oBq.mp e;obtain⟨y,e2,e⟩:=oBq.mp e;refine hl R (ds:=x.1) (S':=x.2) e1 _ fun Hf1 H1 Fs1 p1 vs1 t1 R1 h1 r1=>hb R1 (d:=y.1) (S':=y.2) e2 _ fun Hf2 H2 Fs2 v2 t2 R2 r2=>?_
 split at e
 .rename_i i hy;rw[hy]at r2;cases r2;obtain⟨d,e3,e⟩:=oMq.mp e;cases e;obtain⟨v,g1,g2⟩:=(r1.mono t2.sf).atI e3;exact⟨p1,vs1,i,v,rfl,rfl,t2.sh.seq h1,g1,q _ _ _ v [] (t1.trans t2) R2 (.sh g2) .nil⟩
 .cases e
theorem Lh{k:MK}{b:ME}(hk:SK K ta k) (hb:SR K tb b):SK K (J1 (JY K) ta tb) (Kd k b):=by
 intro H₀ Hf₀ Hf S σ H Fs av S' R e Q q;obtain⟨x,e1,e⟩:=oBq.mp e;obtain⟨y,e2,e⟩:=oBq.mp e;refine hk R (a:=x.1) (S':=x.2) e1 _ fun Hf1 H1 Fs1 v1 F t1 R1 r1 o1=>hb R1 (d:=y.1) (S':=y.2) e2 _ fun Hf2 H2 Fs2 v2 t2 R2 r2=>?_
 split at e
 .rename_i ds i hx hy;rw[hy]at r2;rw[hx]at r1;cases r2;obtain⟨d,e3,e⟩:=oMq.mp e;cases e;obtain⟨p,vs,rfl,h1,h2⟩:=(r1.sh_inv.2.mono t2.sf).tup_inv;obtain⟨v,g1,g2⟩:=h2.atI e3;exact⟨p,vs,i,v,rfl,rfl,rF.of (R2.sub _ _ h1),g1,q _ _ _ v [] (t1.trans t2) R2 (.sh g2) .nil⟩
 .cases e
end
def Nn(K:W.Frag) (r:List V->Hp->VK->Prop) (f:List D->Option D):Prop:=∀{vs:List V}{H:Hp}{Q:VK}{ds:List D}{d:D},bY K H ds vs->f ds=some d->(∀v,dt K H d v->Q v H)->r vs H Q
noncomputable def fA(f:List D->Option D) (a:ML):ME:=fun S=>(a S).bind fun x=>(f x.1).map fun d=>(d,x.2)
theorem cj{K:W.Frag}{r:List V->Hp->VK->Prop}{f:List D->Option D}{ta:TA}{a:ML}(hr:Nn K r f) (ha:IE K ta a):SR K (HW r ta) (fA f a):=by
 intro H₀ Hf₀ Hf S σ H Fs d S' R e Q q;obtain⟨x,e1,e⟩:=oBq.mp e;obtain⟨z,e3,e⟩:=oMq.mp e;cases e;exact ha R (ds:=x.1) (S':=x.2) e1 _ fun Hf1 H1 Fs1 vs t1 R1 r1=>hr r1 e3 fun v rv=>q _ _ _ v t1 R1 rv
def cS:List D->Option D
 | [.list ds]=>some (.int ds.length)
 | [.tup ds]=>some (.int ds.length)
 | [.scr ns]=>some (.int ns.length)
 | [.str x]=>iR (x.length<=cX) (some (.int x.length))
 |_=>none
noncomputable def Qn:List D->Option D
 | [.int i]=>some (.int (if i<0 then -i else i))
 |_=>none
noncomputable def Ri:List D->Option D
 | [.int i,.int j]=>some (.int (if j>i then j else i))
 |_=>none
noncomputable def Q7:List D->Option D
 | [.int i,.int j]=>some (.int (if j<i then j else i))
 |_=>none
noncomputable def Ru:List D->Option D
 | [.int i]=>some (.int i)
 | [.bl k]=>some (.int (if k then 1 else 0))
 |_=>none
noncomputable def mL:List D->Option D
 | [.int _,.ty T]=>if T = "int" then some (.bl true) else if T = "bool" then some (.bl false) else none
 | [.bl _,.ty T]=>if T = "bool" ∨ T = "int" then some (.bl true) else none
 | [.str _,.ty T]=>if T = "str" then some (.bl true) else none
 | [.list _,.ty T]=>if T = "list" then some (.bl true) else none
 | [.tup _,.ty T]=>if T = "tuple" then some (.bl true) else none
 | [.dict _,.ty T]=>if T = "dict" then some (.bl true) else none
 |_=>none
noncomputable def dG:List D->Option (List Int)
 | []=>some []
 | .int i::ds=>(dG ds).map (i :: ·)
 |_=>none
theorem jf:∀{ds:List D}{ns:List Int},dG ds=some ns->ds=ns.map .int
 | [],ns,h=>by cases h;rfl
 |d::ds,ns,h=>by
  cases d with
  |int i =>
   obtain⟨ms,h1,h2⟩:=oMq.mp (show (dG ds).map (i :: ·)=some ns from h)
   subst h2;rw[jf h1];rfl
  |_=>cases h
@[simp] theorem eP (ns:List Int):dG (ns.map .int)=some ns:=by
 induction ns with
 |nil=>rfl
 |cons n ns ih=>show (dG (ns.map .int)).map (n :: ·)=_;rw[ih];rfl
theorem eA{K:W.Frag}{H:Hp}:∀{ns:List Int}{vs:List V},bY K H (ns.map .int) vs->vs=ns.map V.int
 | [],vs,h=>h.nil_inv
 |n::ns,vs,h=>by
  obtain⟨v,ws,rfl,h1,h2⟩:=bY.cons_inv (d:=.int n) (ds:=ns.map .int) h;cases h1;rw[eA h2];rfl
noncomputable def wC:List Int->Option Int
 | []=>none
 |n::ns=>some (ns.foldl min n)
theorem ki:∀(ns:List Int) (n:Int),ns.foldl min n∈n::ns
 | [],n=>by simp
 |m::ns,n=>by
  have h:=ki ns (min n m);rw[Ug];rcases Si.mp h with e|e
  .rw [e]
   by_cases c:n<=m
   .rw [Int.min_eq_left c];simp
   .rw [Int.min_eq_right (by lia)];simp
  .exact mCo _ (mCo _ e)
theorem iU:∀(ns:List Int) (n:Int),(ns.foldl min n<=n)/\∀x∈ns,ns.foldl min n<=x
 | [],n=>⟨VT _,fun x h=>by cases h⟩
 |m::ns,n=>by
  obtain⟨h1,h2⟩:=iU ns (min n m);rw[Ug];refine⟨by lia,fun x hx=>?_⟩
  rcases Si.mp hx with e|e
  .subst e;lia
  .exact h2 x e
def DX:List D->Option D
 | [.list ds]=>(dG ds).bind fun ns=>(wC ns).map .int
 |_=>none
section
variable {K:W.Frag}
theorem cB:Nn K (fun xs H Q=>∃x n,xs=[x]/\NX K x H n/\Q (.int n) H) cS:=by
 intro vs H Q ds d r e q;unfold cS at e;split at e
 .obtain ⟨v,ws,rfl,h1,h2⟩:=r.cons_inv;rw[h2.nil_inv];obtain⟨p,us,rfl,h3,h4⟩:=h1.list_inv;cases e;exact⟨_,_,rfl,.inl ⟨us,dP.of h3,h4.1⟩,q _ .int⟩
 .obtain ⟨v,ws,rfl,h1,h2⟩:=r.cons_inv;rw[h2.nil_inv];obtain⟨p,us,rfl,h3,h4⟩:=h1.tup_inv;cases e;exact⟨_,_,rfl,.inr ⟨us,rF.of h3,h4.1⟩,q _ .int⟩
 .obtain ⟨v,ws,rfl,h1,h2⟩:=r.cons_inv;rw[h2.nil_inv];cases e;cases h1 with
  |scr h=>exact⟨_,_,rfl,.inl ⟨_,h,(lMq _).symm⟩,q _ .int⟩
 .rcases bp e with ⟨hl,e⟩|e
  .skip
   obtain⟨v,ws,rfl,h1,h2⟩:=r.cons_inv;rw[h2.nil_inv];cases e;cases h1;exact⟨_,_,rfl,⟨by rw[gf];exact hl,rfl⟩,q _ .int⟩
  .cases e
 .cases e
theorem He:Nn K (fun xs H Q=>∃(a:Addr) (ns:List Int),xs=[.ref a]/\dP K H a (ns.map V.int)/\0<ns.length/\∀M,M∈ns->(∀x,x∈ns->M<=x)->Q (.int M) H) DX:=by
 intro vs H Q ds d r e q;unfold DX at e;split at e
 .obtain ⟨v,ws,rfl,h1,h2⟩:=r.cons_inv;rw[h2.nil_inv];obtain⟨ns,e1,e⟩:=oBq.mp e;obtain⟨m,e2,e⟩:=oMq.mp e;cases e;rw[jf e1]at h1;obtain⟨p,us,rfl,h3,h4⟩:=h1.list_inv;rw[eA h4]at h3;cases ns with
  |nil=>cases e2
  |cons n ns =>
   cases e2;refine⟨p,_,rfl,dP.of h3,by simp,fun M hM hm=>?_⟩
   have e3:M=ns.foldl min n:=by
    have a1:=hm _ (ki ns n);have a2:=iU ns n;have a3:ns.foldl min n<=M:=by
     rcases Si.mp hM with z|z
     .subst z;exact a2.1
     .exact a2.2 M z
    lia
   rw[e3];exact q _ .int
 .cases e
theorem EG:Nn K (fun xs H Q=>∃x T b,xs=[x,.ty T]/\MM K x H T b/\Q (.bl b) H) mL:=by
 intro vs H Q ds d r e q;unfold mL at e;split at e
 all_goals first|(exact absurd e (fun z=>by cases z))|skip
 all_goals
  obtain⟨v,ws,rfl,h1,h2⟩:=r.cons_inv;obtain⟨u,zs,rfl,h3,h4⟩:=h2.cons_inv;rw[h4.nil_inv];cases h3
 .cases h1;split at e
  .rename_i hT;cases e;exact⟨_,_,_,rfl,.inl ⟨hT,rfl⟩,q _ .bl⟩
  .split at e
   .rename_i hT;cases e;exact⟨_,_,_,rfl,.inr ⟨hT,rfl⟩,q _ .bl⟩
   .cases e
 .cases h1;split at e
  .rename_i hT;cases e;rcases hT with hT|hT
   .exact ⟨_,_,_,rfl,.inl ⟨hT,rfl⟩,q _ .bl⟩
   .exact ⟨_,_,_,rfl,.inr ⟨hT,rfl⟩,q _ .bl⟩
  .cases e
 .cases h1;split at e
  .rename_i hT;cases e;exact⟨_,_,_,rfl,⟨hT,rfl⟩,q _ .bl⟩
  .cases e
 .obtain ⟨p,us,rfl,g3,g4⟩:=h1.list_inv;split at e
  .rename_i hT;cases e;exact⟨_,_,_,rfl,.inl ⟨hT,rfl,us,dP.of g3⟩,q _ .bl⟩
  .cases e
 .obtain ⟨p,us,rfl,g3,g4⟩:=h1.tup_inv;split at e
  .rename_i hT;cases e;exact⟨_,_,_,rfl,.inr (.inr ⟨hT,rfl,us,rF.of g3⟩),q _ .bl⟩
  .cases e
 .obtain ⟨p,us,rfl,g3,g4⟩:=h1.dict_inv;split at e
  .rename_i hT;cases e;exact⟨_,_,_,rfl,.inr (.inl ⟨hT,rfl,us,g3⟩),q _ .bl⟩
  .cases e
end
abbrev MF:=List D->Option AV
def bL(K:W.Frag) (f:MF):Sp:=fun vs H Q _=>∃(Hf:Hp) (ds:List D) (a:AV),bW Hf H/\bY K Hf ds vs/\f ds=some a /\
 ∀Hf' H' v F,bW Hf Hf'->bW H H'->bW Hf' H'->(∀b,Hf b=none->H b≠none->Hf' b=none)->bC K Hf' H' a v F->F.Nodup->(∀q∈F,H q=none)->Q v H'
noncomputable def bj(f:MF) (a:MA):MK:=fun S=>(a S).bind fun x=>(f (x.1.map aH)).map fun r=>(r,x.2)
theorem bw{K:W.Frag}{f:MF}{ta:TA}{a:MA}(ha:SA K ta a):SK K (zp (bL K f) [] E0 ta) (bj f a):=by
 intro H₀ Hf₀ Hf S σ H Fs av S' R e Q q;obtain⟨x,e1,e⟩:=oBq.mp e;obtain⟨z,e3,e⟩:=oMq.mp e;cases e;refine ha R (as:=x.1) (S':=x.2) e1 _ fun Hf1 H1 Fs1 vs Gs t1 R1 r1 o1=>?_
 obtain⟨R2,r2,t2⟩:=R1.gives t1 r1 o1;rw[aNq];refine⟨_,_,av,R2.sub,r2,e3,fun Hf' H' v F s1 s2 s3 l r nd fr=>?_⟩
 have t3:mO (Z.frz Hf1 H1 Gs.flatten) H1 Fs1 Hf' H' Fs1:=⟨s1,s2,fun _ h=>h,fun b h g=>.inl (by
  by_cases e:H1 b=none
  .exact e
  .exact absurd (l b h e) g)⟩
 have hn:∀q∈Fs1.flatten,Hf' q=none:=fun q hq=>l q (R2.mem hq).2 (R2.mem hq).1
 have R3:bP K H₀ Hf₀ Hf' x.2 σ H' Fs1:=R2.more s2 s1 s3 hn fun b h1 h2=>l b (R2.lim b h1 h2) (IS R2.fr h2)
 refine q _ _ _ v F (t2.trans t3) R3 r ⟨nd,fun q hq=>R2.fr.free (fr q hq),fun q hq m=>(R2.mem m).1 (fr q hq),fun q hq=>.inl (t1.sh.free (fr q hq))⟩
inductive By where
 |nx (S:AS)|rt (a:AV)|bk (S:AS)|ct (S:AS)
abbrev MS:=AS->Option By
def wy(K:W.Frag) (H₀ Hf₀ Hf:Hp) (D:nY):By->Prop
 | .nx S=>∀Hf' σ' H' Fs',bW Hf Hf'->bP K H₀ Hf₀ Hf' S σ' H' Fs'->D.nx σ' H'
 | .bk S=>∀Hf' σ' H' Fs',bW Hf Hf'->bP K H₀ Hf₀ Hf' S σ' H' Fs'->D.bk σ' H'
 | .ct S=>∀Hf' σ' H' Fs',bW Hf Hf'->bP K H₀ Hf₀ Hf' S σ' H' Fs'->D.ct σ' H'
 | .rt a=>∀Hf' H' v F,bW Hf₀ Hf'->bW H₀ H'->bW Hf' H'->(∀b,Hf₀ b=none->H₀ b≠none->Hf' b=none)->bC K Hf' H' a v F->F.Nodup->(∀q∈F,H₀ q=none)->D.rt v H'
def SS(K:W.Frag) (t:TS) (m:MS):Prop:=∀{H₀ Hf₀ Hf:Hp}{S:AS}{σ:St}{H:Hp}{Fs:List (List Addr)}{o:By},bP K H₀ Hf₀ Hf S σ H Fs->m S=some o->∀D:nY,wy K H₀ Hf₀ Hf D o->t D σ H
theorem wy.mono{K:W.Frag}{H₀ Hf₀ Hf Hf':Hp}{D:nY}{o:By}(s:bW Hf Hf') (h:wy K H₀ Hf₀ Hf D o):wy K H₀ Hf₀ Hf' D o:=by
 cases o with
 |nx S=>exact fun Hf2 σ' H' Fs' s2 R=>h Hf2 σ' H' Fs' (s.trans s2) R
 |bk S=>exact fun Hf2 σ' H' Fs' s2 R=>h Hf2 σ' H' Fs' (s.trans s2) R
 |ct S=>exact fun Hf2 σ' H' Fs' s2 R=>h Hf2 σ' H' Fs' (s.trans s2) R
 |rt a=>exact h
def bD:MS:=fun S=>some (.nx S)
noncomputable def Qg:MS:=fun S=>some (.bk S)
noncomputable def Rp:MS:=fun S=>some (.ct S)
noncomputable def Qe:MS:=fun _=>none
def aC(a b:MS):MS:=fun S=>(a S).bind fun o=>match o with
 | .nx S'=>b S'
 |o=>some o
def aO(i:Nat) (k:MK):MS:=fun S=>(k S).map fun x=>.nx (x.2.set i (some x.1))
def Q8(k:MK):MS:=fun S=>(k S).map fun x=>.nx x.2
noncomputable def cI(k:MK):MS:=fun S=>(k S).map fun x=>.rt x.1
noncomputable def jM(c:MT) (a b:MS):MS:=fun S=>(c S).bind fun x=>if x.1=true then a x.2 else b x.2
section
variable {K:W.Frag}{t u:TS}{a b:MS}{te:TE}{k:MK}
theorem bK:SS K KH bD:=by
 intro H₀ Hf₀ Hf S σ H Fs o R e D h;cases e;exact h _ _ _ _ (.refl _) R
theorem ak(ha:SS K t a) (hb:SS K u b):SS K (Hb t u) (aC a b):=by
 intro H₀ Hf₀ Hf S σ H Fs o R e D h;obtain⟨x,e1,e⟩:=oBq.mp e;refine ha R e1 _ ?_;cases x with
 |nx S'=>exact fun Hf' σ' H' Fs' s R'=>hb R' e D (h.mono s)
 |rt a=>cases e;exact h
 |bk a=>cases e;exact h
 |ct a=>cases e;exact h
theorem az{i:Nat}(hk:SK K te k):SS K (Ao te (eD i)) (aO i k):=by
 intro H₀ Hf₀ Hf S σ H Fs o R e D h;obtain⟨x,e1,e⟩:=oMq.mp e;cases e;refine hk R (a:=x.1) (S':=x.2) e1 _ fun Hf1 H1 Fs1 v F t1 R1 r1 o1=>?_
 exact h _ _ _ _ t1.sf (R1.set i r1 o1.nd fun q hq=>⟨o1.fr q hq,o1.out q hq⟩)
theorem aV(hk:SK K te k):SS K (OF te) (cI k):=by
 intro H₀ Hf₀ Hf S σ H Fs o R e D h;obtain⟨x,e1,e⟩:=oMq.mp e;cases e;exact hk R (a:=x.1) (S':=x.2) e1 _ fun Hf1 H1 Fs1 v F t1 R1 r1 o1=>h _ _ v F R1.sf R1.fr R1.sub R1.lim r1 o1.nd o1.fr
theorem dU{c:TT}{m:MT}(hc:zO K c m) (ha:SS K t a) (hb:SS K u b):SS K (Ka c t u) (jM m a b):=by
 intro H₀ Hf₀ Hf S σ H Fs o R e D h;obtain⟨x,e1,e⟩:=oBq.mp e;refine hc R (b:=x.1) (S':=x.2) e1 _ fun Hf1 H1 Fs1 t1 R1=>?_
 split at e
 .rename_i hx;rw[hx];exact Bb (ha R1 e D (h.mono t1.sf))
 .rename_i hx;rw[UX]at hx;rw[hx];exact Aa (hb R1 e D (h.mono t1.sf))
end
noncomputable def cL(S:AS) (i:Nat):Option (List AV):=match S[i]?.join with
 |some (.ow avs)=>some avs
 |_=>none
noncomputable def iM(S:AS) (i:Nat):Option (List (aX×D)):=match S[i]?.join with
 |some (.owd kvs)=>some kvs
 |_=>none
def kJ(i:Nat) (k:MK):MS:=fun S=>(cL S i).bind fun _=>(k S).bind fun x=>(cL x.2 i).bind fun avs =>
 iR (avs.length<cX) (some (.nx (x.2.set i (some (.ow (avs++[x.1]))))))
def Bn(i:Nat) (l:ML):MS:=fun S=>(cL S i).bind fun _=>(l S).bind fun x=>(cL x.2 i).bind fun avs =>
 iR (avs.length+x.1.length<=cX) (some (.nx (x.2.set i (some (.ow (avs++x.1.map .sh))))))
noncomputable def intOf:D->Option Int
 | .int i=>some i
 |_=>none
def RM(i:Nat) (b:ME) (k:MK):MS:=fun S=>(gK k S).bind fun x=>(cL x.2 i).bind fun _=>(b x.2).bind fun y=>(cL y.2 i).bind fun avs=>(intOf y.1).bind fun j=>(xf avs.length j).map fun n =>
 .nx (y.2.set i (some (.ow (((avs.map aH).set n (aH x.1)).map .sh))))
noncomputable def iz:D->Option aX
 | .int i=>some (.inl i)
 | .str x=>some (.inr x)
 |_=>none
noncomputable def mN(kvs:List (aX×D)) (k:aX) (d:D):List (aX×D):=if kvs.any (fun kv=>decide (kv.1=k)) then kvs.map (fun kv=>if kv.1=k then (kv.1,d) else kv) else kvs++[(k,d)]
noncomputable def getD(kvs:List (aX×D)) (k:aX):Option D:=(kvs.find? fun kv=>decide (kv.1=k)).map (·.2)
def kQ(i:Nat) (b:ME) (k:MK):MS:=fun S=>(gK k S).bind fun x=>(iM x.2 i).bind fun _=>(b x.2).bind fun y=>(iM y.2 i).bind fun kvs=>(iz y.1).bind fun key =>
 iR (kvs.length<cX) (some (.nx (y.2.set i (some (.owd (mN kvs key (aH x.1)))))))
section
variable {K:W.Frag}{H₀ Hf₀ Hf H:Hp}{S:AS}{σ:St}{Fs:List (List Addr)}
theorem bP.turn(R:bP K H₀ Hf₀ Hf S σ H Fs) {i:Nat}{av:AV}{p:Addr}{o:HO}{F F':List Addr}(s1:σ[i]?=some (some (.ref p))) (s2:Fs[i]?=some F) (hp:p∈F) (r:bC K Hf (cW H p o) av (.ref p) F') (nd:F'.Nodup)
  (hf:∀q∈F',H₀ q=none/\q∉(Fs.set i []).flatten):bP K H₀ Hf₀ Hf (S.set i (some av)) σ (cW H p o) (Fs.set i F'):=by
 have hin:p∈Fs.flatten:=mFq.mpr ⟨F,mGq s2,hp⟩;have pn:Hf p=none:=(R.mem hin).2;have p0:H₀ p=none:=R.fresh p hin;have out:=fW R.nd s2 hp;have R1:bP K H₀ Hf₀ Hf (S.set i none) σ (cW H p o) (Fs.set i []):=by
  refine⟨by simp[R.len],by simp[R.lenF],fun j a ej=>?_,fun j ej=>?_,dS i R.nd Tc (fun p hp=>by cases hp),fun p hp=>R.fresh p (cY hp),fun b u e=>?_,fun b u e=>?_,R.lim,R.sf⟩
  .rw [TB]at ej
   by_cases hij:i=j
   .subst hij;rw[if_pos rfl]at ej;split at ej <;> cases ej
   .rw [if_neg hij]at ej;obtain⟨w,G,f1,f2,q⟩:=R.rep j a ej;refine⟨w,G,f1,by rw[SI hij];exact f2,q.keep (.refl _) (fun c hc=>aL fun e=>out ?_) fun c hc=>(q.owned c hc).2⟩
    subst e;exact mFq.mpr ⟨G,mGq (i:=j) (by rw[SI hij];exact f2),hc⟩
  .rw [TB]at ej
   by_cases hij:i=j
   .subst hij;rw[if_pos rfl]at ej;split at ej
    .rename_i hi;rw[S6 (R.lenF.symm ▸ hi)]
    .cases ej
   .rw [if_neg hij]at ej;rw[SI hij];exact R.emp j ej
  .rw [aL fun z=>by rw[z,pn]at e;cases e]
   exact R.sub b u e
  .rw [aL fun z=>by rw[z,p0]at e;cases e]
   exact R.fr b u e
 exact R1.again (F:=F) s1 r nd hf
theorem cu{i:Nat}{F:List Addr}{q:Addr}(s2:Fs[i]?=some F) (h:q∈F):q∈Fs.flatten:=mFq.mpr ⟨F,mGq s2,h⟩
theorem bE.snoc{as:List AV}{vs:List V}{Gs:List (List Addr)}{a:AV}{v:V}{F:List Addr}(r:bE K Hf H as vs Gs) (s:bC K Hf H a v F):bE K Hf H (as++[a]) (vs++[v]) (Gs++[F]):=by
 obtain⟨h1,h2,h3⟩:=r;refine⟨by simp[h1],by simp[h2],fun i b w G e1 e2 e3=>?_⟩
 by_cases hi:i<as.length
 .rw [gZq hi]at e1;rw[gZq (h1 ▸ hi)]at e2;rw[gZq (h2 ▸ hi)]at e3;exact h3 i b w G e1 e2 e3
 .have hi':i=as.length:=by
   have:=(gSq.mp e1).1;rw[lAq,lSq]at this;lia
  subst hi';rw[gYq (Sg _),T2]at e1;rw[h1,gYq (Sg _),T2]at e2;rw[h2,gYq (Sg _),T2]at e3;cases e1;cases e2;cases e3;exact s
theorem bE.keepUpd{as:List AV}{vs:List V}{Gs:List (List Addr)}{p:Addr}{o:HO}(r:bE K Hf H as vs Gs) (hp:p∉Gs.flatten):bE K Hf (cW H p o) as vs Gs :=
 ⟨r.1,r.2.1,fun i a v F h1 h2 h3=>by
  have q:=r.2.2 i a v F h1 h2 h3;refine q.keep (.refl _) (fun c hc=>aL fun e=>hp ?_) fun c hc=>(q.owned c hc).2
  subst e;exact mFq.mpr ⟨F,mGq h3,hc⟩⟩
theorem bC.keepUpd{a:AV}{v:V}{F:List Addr}{p:Addr}{o:HO}(q:bC K Hf H a v F) (hp:p∉F):bC K Hf (cW H p o) a v F :=
 q.keep (.refl _) (fun c hc=>aL fun e=>hp (e ▸ hc)) fun c hc=>(q.owned c hc).2
theorem xj{ds:List D}{vs:List V}(r:bY K Hf ds vs):bE K Hf H (ds.map .sh) vs (S9 ds.length []) :=
 ⟨by simp[r.1],by simp,fun i a v F h1 h2 h3=>by
  rw[gMq]at h1;cases q:ds[i]? with
  |none=>rw[q]at h1;cases h1
  |some d =>
   rw[q]at h1;cases h1;have:F=[]:=UQ (mGq h3);subst this;exact .sh (r.2 i d v q h2)⟩
theorem bE.append{as bs:List AV}{vs ws:List V}{Gs Es:List (List Addr)}(r:bE K Hf H as vs Gs) (s:bE K Hf H bs ws Es):bE K Hf H (as++bs) (vs++ws) (Gs++Es):=by
 obtain⟨h1,h2,h3⟩:=r;refine⟨by simp[h1,s.1],by simp[h2,s.2.1],fun i b w G e1 e2 e3=>?_⟩
 by_cases hi:i<as.length
 .rw [gZq hi]at e1;rw[gZq (h1 ▸ hi)]at e2;rw[gZq (h2 ▸ hi)]at e3;exact h3 i b w G e1 e2 e3
 .rw [gYq (by lia)]at e1
  rw[gYq (by lia),←h1]at e2
  rw[gYq (by lia),←h2]at e3
  exact s.2.2 _ b w G e1 e2 e3
end
section
variable {K:W.Frag}{te ta tb:TE}{k:MK}{b:ME}{l:ML}
theorem bf{S:AS}{i:Nat}{avs:List AV}(h:cL S i=some avs):S[i]?=some (some (.ow avs)):=by
 unfold cL at h;split at h
 .rename_i z e;cases h;exact bN e
 .cases h
theorem jG{S:AS}{i:Nat}{kvs:List (aX×D)}(h:iM S i=some kvs):S[i]?=some (some (.owd kvs)):=by
 unfold iM at h;split at h
 .rename_i z e;cases h;exact bN e
 .cases h
theorem bP.ow{H₀ Hf₀ Hf H:Hp}{S:AS}{σ:St}{Fs:List (List Addr)}(R:bP K H₀ Hf₀ Hf S σ H Fs) {i:Nat}{avs:List AV}(h:S[i]?=some (some (.ow avs))):∃p vs Gs,σ[i]?=some (some (.ref p))/\Fs[i]?=some (p::Gs.flatten)/\H p=some (.lst vs)/\Hf p=none/\bE K Hf H avs vs Gs /\
  p∉Gs.flatten/\Gs.flatten.Nodup/\∀q∈p::Gs.flatten,H₀ q=none/\q∉(Fs.set i []).flatten:=by
 obtain⟨v,F,s1,s2,r,nd,o,_⟩:=R.move h;obtain⟨p,vs,Gs,rfl,rfl,h1,h2,h3⟩:=r.ow_inv;exact⟨p,vs,Gs,s1,s2,h1,h2,h3,(Sm.mp nd).1,(Sm.mp nd).2,o⟩
theorem gc{i:Nat}(hk:SK K te k):SS K (oh (Ep K "list" qk (kz i) (fk te kq))) (kJ i k):=by
 intro H₀ Hf₀ Hf S σ H Fs o R e D h;obtain⟨a0,e0,e⟩:=oBq.mp e;obtain⟨x,e1,e⟩:=oBq.mp e;obtain⟨avs,e2,e⟩:=oBq.mp e;rcases bp e with ⟨hl,e⟩|e
 .skip
  cases e;obtain⟨p,vs,Gs,s1,_,h1,_⟩:=R.ow (bf e0);refine⟨.ref p,s1,.inl ⟨rfl,vs,dP.of h1⟩,hk R (a:=x.1) (S':=x.2) e1 _ fun Hf1 H1 Fs1 v F t1 R1 r1 o1=>?_⟩
  obtain⟨p',vs',Gs',s1',s2',h1',h2',h3',h4',h5',h6'⟩:=R1.ow (bf e2);rw[s1]at s1';cases s1';have pF:p∉F:=fun m=>o1.out p m (cu s2' (by simp))
  refine⟨p,vs',v,rfl,rfl,h1',by rw[gf,←h3'.1];exact hl,h _ _ _ _ t1.sf (R1.turn s1 s2' (by simp) (F':=p::(Gs'++[F]).flatten) (bC.news aR h2' ((h3'.keepUpd h4').snoc (r1.keepUpd pF))) ?_ fun q hq=>?_)⟩
  .rw [fAq,SZ];refine Sm.mpr ⟨fun m=>(mAq.mp m).elim h4' pF,nAq.mpr ⟨h5',o1.nd,fun a ha b hb e=>o1.out b hb (cu s2' (mCo _ (e ▸ ha)))⟩⟩
  .rw [fAq,SZ]at hq;rcases Si.mp hq with z|z
   .exact h6' q (by rw[z];simp)
   .rcases mAq.mp z with z|z
    .exact h6' q (mCo _ z)
    .exact ⟨o1.fr q z,fun m=>o1.out q z (cY m)⟩
 .cases e
theorem Be{i:Nat}(hl:SL K te l):SS K (oh (Ep K "list" sI (kz i) (fk te kq))) (Bn i l):=by
 intro H₀ Hf₀ Hf S σ H Fs o R e D h;obtain⟨a0,e0,e⟩:=oBq.mp e;obtain⟨x,e1,e⟩:=oBq.mp e;obtain⟨avs,e2,e⟩:=oBq.mp e;rcases bp e with ⟨hle,e⟩|e
 .skip
  cases e;obtain⟨p,vs,Gs,s1,_,h1,_⟩:=R.ow (bf e0);refine⟨.ref p,s1,.inl ⟨rfl,vs,dP.of h1⟩,hl R (ds:=x.1) (S':=x.2) e1 _ fun Hf1 H1 Fs1 b ws t1 R1 hb r1=>?_⟩
  obtain⟨p',vs',Gs',s1',s2',h1',h2',h3',h4',h5',h6'⟩:=R1.ow (bf e2);rw[s1]at s1';cases s1';refine⟨p,b,vs',ws,rfl,rfl,h1',hb,by rw[gf,←h3'.1,←r1.1];exact hle,h _ _ _ _ t1.sf (R1.turn s1 s2' (by simp) (F':=p::(Gs'++S9 x.1.length []).flatten) (bC.news aR h2' ((h3'.keepUpd h4').append (xj r1))) ?_ fun q hq=>?_)⟩
  .rw [fAq,eB,aNq];exact Sm.mpr ⟨h4',h5'⟩
  .rw [fAq,eB,aNq]at hq;exact h6' q hq
 .cases e
theorem pJ{H:Hp}:∀{ds:List (aX×D)}{kvs:List (aX×V)}{key:aX},gL K H ds kvs->match getD ds key with
  |some d=>∃v,pU kvs key=some v/\dt K H d v
  |none=>pU kvs key=none
 | [],kvs,key,h=>by
  have:kvs=[]:=by
   have:=congrArg TJ h.1;simpa using this.symm
  subst this;rfl
 |d::ds,[],key,h=>by
  have:=congrArg TJ h.1;simp at this
 |d::ds,v::kvs,key,h=>by
  have h1:d.1=v.1/\ds.map (·.1)=kvs.map (·.1):=by
   have:=h.1;simpa using this
  have h2:dt K H d.2 v.2:=h.2 0 d v rfl rfl;have ht:gL K H ds kvs:=⟨h1.2,fun i a b e1 e2=>h.2 (i+1) a b (by simpa using e1) (by simpa using e2)⟩
  unfold getD pU
  by_cases c:d.1=key
  .rw [U6 (by simp[c]),U6 (by simp[←h1.1,c])]
   exact⟨v.2,rfl,h2⟩
  .rw [UB (by simp[c]),UB (by simp[←h1.1,c])]
   exact pJ ht
theorem jj{H:Hp}{d:D}{v:V}{key:aX}(h:iz d=some key) (r:dt K H d v):v=kV key:=by
 cases r <;> simp only[iz]at h
 all_goals first|(exfalso;simp at h;done)|skip
 all_goals (cases h;rfl)
theorem gL.key{H:Hp}{ds:List (aX×D)}{kvs:List (aX×V)}(h:gL K H ds kvs) {i:Nat}{d:aX×D}{v:aX×V}(e1:ds[i]?=some d) (e2:kvs[i]?=some v):d.1=v.1:=by
 have:=congrArg (fun l=>l[i]?) h.1
 simp only[gMq,e1,e2,Uh]at this;exact Sz.inj this
theorem gL.len{H:Hp}{ds:List (aX×D)}{kvs:List (aX×V)}(h:gL K H ds kvs):ds.length=kvs.length:=by
 have:=congrArg TJ h.1;simpa using this
theorem ze{H:Hp}{ds:List (aX×D)}{kvs:List (aX×V)}{key:aX}{d:D}{v:V}(h:gL K H ds kvs) (r:dt K H d v):gL K H (mN ds key d) (nj kvs key v):=by
 have ha:(ds.any fun kv=>decide (kv.1=key))=kvs.any fun kv=>decide (kv.1=key):=by
  have e1:(ds.any fun kv=>decide (kv.1=key))=(ds.map (·.1)).any fun k=>decide (k=key):=by rw[Xi];rfl
  have e2:(kvs.any fun kv=>decide (kv.1=key))=(kvs.map (·.1)).any fun k=>decide (k=key):=by rw[Xi];rfl
  rw[e1,e2,h.1]
 unfold mN nj;rw[ha];split
 .refine ⟨?_,fun i a b e1 e2=>?_⟩
  .rw [mPq,mPq];have e1:((fun kv:aX×D=>kv.1)∘fun kv:aX×D=>if kv.1=key then (kv.1,d) else kv)=fun kv=>kv.1:=by
    funext kv;show (if kv.1=key then (kv.1,d) else kv).1=kv.1
    split <;> rfl
   have e2:((fun kv:aX×V=>kv.1)∘fun kv:aX×V=>if kv.1=key then (kv.1,v) else kv)=fun kv=>kv.1:=by
    funext kv;show (if kv.1=key then (kv.1,v) else kv).1=kv.1
    split <;> rfl
   rw[e1,e2];exact h.1
  .rw [gMq]at e1 e2;obtain⟨a',f1,rfl⟩:=oMq.mp e1;obtain⟨b',f2,rfl⟩:=oMq.mp e2;have hk:=h.key f1 f2
   by_cases c:a'.1=key
   .rw [if_pos c,if_pos (hk ▸ c)];exact r
   .rw [if_neg c,if_neg (hk ▸ c)];exact h.2 i a' b' f1 f2
 .refine ⟨by rw[mBq,mBq,h.1];rfl,fun i a b e1 e2=>?_⟩
  by_cases hi:i<ds.length
  .rw [gZq hi]at e1;rw[gZq (h.len ▸ hi)]at e2;exact h.2 i a b e1 e2
  .have hi':i=ds.length:=by
    have:=(gSq.mp e1).1;rw[lAq,lSq]at this;lia
   subst hi';rw[gYq (Sg _),T2]at e1;rw[h.len,gYq (Sg _),T2]at e2;cases e1;cases e2;exact r
noncomputable def kG:MK:=fun S=>some (.owd [],S)
theorem iO:SK K EJ kG:=by
 intro H₀ Hf₀ Hf S σ H Fs av S' R e Q q;cases e;intro p hp;obtain⟨t,R2,n1,n2,n3⟩:=R.new (o:=.dK []) hp;exact q _ _ _ (.ref p) [p] t R2 (.owd aR n1 ⟨rfl,fun i d v h=>by simp at h⟩) (mP.one R hp)
theorem bP.owd{H₀ Hf₀ Hf H:Hp}{S:AS}{σ:St}{Fs:List (List Addr)}(R:bP K H₀ Hf₀ Hf S σ H Fs) {i:Nat}{ds:List (aX×D)}(h:S[i]?=some (some (.owd ds))):∃p kvs,σ[i]?=some (some (.ref p))/\Fs[i]?=some [p]/\H p=some (.dK kvs)/\Hf p=none/\gL K Hf ds kvs /\
  H₀ p=none/\p∉(Fs.set i []).flatten:=by
 obtain⟨v,F,s1,s2,r,nd,o,_⟩:=R.move h;obtain⟨p,kvs,rfl,rfl,h1,h2,h3⟩:=r.owd_inv;exact⟨p,kvs,s1,s2,h1,h2,h3,(o p (by simp)).1,(o p (by simp)).2⟩
theorem iQ{i:Nat}(hk:SK K te k) (hb:SR K tb b):SS K (Gg (kz i) tb te) (kQ i b k):=by
 intro H₀ Hf₀ Hf S σ H Fs o R e D h;obtain⟨x,e1,e⟩:=oBq.mp e;obtain⟨a0,e0,e⟩:=oBq.mp e;obtain⟨y,e2,e⟩:=oBq.mp e;obtain⟨kvs,e3,e⟩:=oBq.mp e;obtain⟨key,e4,e⟩:=oBq.mp e;rcases bp e with ⟨hl,e⟩|e
 .skip
  cases e;have hk':SK K te (gK k):=SK.frz hk;refine hk' R (a:=x.1) (S':=x.2) e1 _ fun Hf1 H1 Fs1 v F t1 R1 r1 o1=>?_
  obtain⟨p',_,s1,_⟩:=R1.owd (jG e0);refine⟨_,s1,hb R1 (d:=y.1) (S':=y.2) e2 _ fun Hf2 H2 Fs2 w t2 R2 r2=>?_⟩
  obtain⟨q',kv,s1',s2',h1',h2',h3',h4',h5'⟩:=R2.owd (jG e3);rw[s1]at s1';cases s1';obtain⟨x1,hx1⟩:∃d,x.1 = .sh d:=by
   obtain⟨w,_,e⟩:=oMq.mp e1;rw[←e];exact⟨_,rfl⟩
  rw[hx1]at r1;have rv:=(r1.sh_inv.2).mono t2.sf;have hw:=jj e4 r2;subst hw;refine⟨p',_,rfl,C1.k h1' (by rw[gf,←h3'.len];exact hl),h _ _ _ _ (t1.sf.trans t2.sf) (R2.turn s1 s2' (by simp) (F':=[p']) (.owd aR h2' ?_) (by simp) fun q hq=>by rw[mSq.mp hq];exact⟨h4',h5'⟩)⟩
  rw[hx1,ef];exact ze h3' rv
 .cases e
def Qh(a b:ME):ME:=fun S=>(a S).bind fun x=>(b x.2).bind fun y=>match y.1 with
 | .dict kvs=>(iz x.1).map fun key=>(.bl (getD kvs key).isSome,y.2)
 |_=>none
def eI(a b:ME):ME:=fun S=>(a S).bind fun x=>(b x.2).bind fun y=>match y.1 with
 | .dict kvs=>(iz x.1).map fun key=>(.bl (!(getD kvs key).isSome),y.2)
 |_=>none
def vY(a b:ME):ME:=fun S=>(a S).bind fun x=>(b x.2).bind fun y=>match x.1 with
 | .dict kvs=>(iz y.1).bind fun key=>(getD kvs key).map fun d=>(d,y.2)
 |_=>none
theorem DF{H:Hp}{kvs:List (aX×D)}{x:V}{key:aX}{d:D}(r:dt K H (.dict kvs) x) (e:getD kvs key=some d):∃a v,x = .ref a/\vc H a (kV key) (some v)/\dt K H d v:=by
 obtain⟨p,vs,rfl,h1,h2⟩:=r.dict_inv;have g:=pJ (key:=key) h2;rw[e]at g;obtain⟨v,g1,g2⟩:=g;exact⟨p,v,rfl,by rw[←g1];exact vc.k h1,g2⟩
theorem EX{H:Hp}{kvs:List (aX×D)}{x:V}{key:aX}(r:dt K H (.dict kvs) x):∃a o,x = .ref a/\vc H a (kV key) o/\o.isSome=(getD kvs key).isSome:=by
 obtain⟨p,vs,rfl,h1,h2⟩:=r.dict_inv;have g:=pJ (key:=key) h2;refine⟨p,_,rfl,vc.k h1,?_⟩;cases e:getD kvs key with
 |none=>rw[e]at g;rw[g];rfl
 |some d=>rw[e]at g;obtain⟨v,g1,_⟩:=g;rw[g1];rfl
theorem hU{a:ME}(ha:SR K ta a) (hb:SR K tb b):SR K (BM ta tb) (eI a b):=by
 intro H₀ Hf₀ Hf S σ H Fs d S' R e Q q;obtain⟨x,e1,e⟩:=oBq.mp e;obtain⟨y,e2,e⟩:=oBq.mp e;refine ha R (d:=x.1) (S':=x.2) e1 _ fun Hf1 H1 Fs1 v1 t1 R1 r1=>hb R1 (d:=y.1) (S':=y.2) e2 _ fun Hf2 H2 Fs2 v2 t2 R2 r2=>?_
 split at e
 .rename_i kvs hy;rw[hy]at r2;obtain⟨key,e3,e⟩:=oMq.mp e;cases e;obtain⟨p,o,rfl,g1,g2⟩:=EX (key:=key) r2;refine⟨p,o,rfl,by rw[jj e3 r1];exact g1,?_⟩
  rw[g2];exact q _ _ _ _ (t1.trans t2) R2 .bl
 .cases e
theorem si{a:ME}(ha:SR K ta a) (hb:SR K tb b):SR K (Et ta tb) (vY a b):=by
 intro H₀ Hf₀ Hf S σ H Fs d S' R e Q q;obtain⟨x,e1,e⟩:=oBq.mp e;obtain⟨y,e2,e⟩:=oBq.mp e;refine ha R (d:=x.1) (S':=x.2) e1 _ fun Hf1 H1 Fs1 v1 t1 R1 r1=>hb R1 (d:=y.1) (S':=y.2) e2 _ fun Hf2 H2 Fs2 v2 t2 R2 r2=>?_
 split at e
 .rename_i kvs hy;rw[hy]at r1;obtain⟨key,e3,e⟩:=oBq.mp e;obtain⟨d',e4,e⟩:=oMq.mp e;cases e;obtain⟨p,v,rfl,g1,g2⟩:=DF (r1.mono t2.sh) e4;exact⟨p,v,rfl,by rw[jj e3 r2];exact g1,q _ _ _ _ (t1.trans t2) R2 g2⟩
 .cases e
end
def dg(x:Nat) (body:MS):List D->AS->Option By
 | [],S=>some (.nx S)
 |d::ds,S=>(body (S.set x (some (.sh d)))).bind fun o=>match o with
  | .nx S'=>dg x body ds S'
  | .ct S'=>dg x body ds S'
  | .bk S'=>some (.nx S')
  | .rt a=>some (.rt a)
noncomputable def eG:D->Option (List D)
 | .list ds=>some ds
 | .scr ns=>some (ns.map .int)
 |_=>none
def ni(x:Nat) (k:MK) (body:MS):MS:=fun S=>(gK k S).bind fun y=>(eG (aH y.1)).bind fun ds=>dg x body ds y.2
noncomputable def cm(lo:Int) (n:Nat):List D:=(To n).map fun i:Nat=>.int (lo+i)
def vq:List D->Option (List D)
 | [.int j]=>iR (-(2 ^ 62)<=j/\j<2 ^ 62) (some (cm 0 j.toNat))
 |_=>none
def QU:List D->Option (List D)
 | [.int i,.int j]=>iR (-(2 ^ 62)<=i/\i<2 ^ 62/\-(2 ^ 62)<=j/\j<2 ^ 62) (some (cm i (j-i).toNat))
 |_=>none
def qL(x:Nat) (a:ML) (body:MS):MS:=fun S=>(a S).bind fun y=>(vq y.1).bind fun ds=>dg x body ds y.2
def QL(x:Nat) (a:ML) (body:MS):MS:=fun S=>(a S).bind fun y=>(QU y.1).bind fun ds=>dg x body ds y.2
def qG(x y:Nat) (body:MS):Nat->List D->AS->Option By
 |_,[],S=>some (.nx S)
 |i,d::ds,S=>(body ((S.set x (some (.sh (.int i)))).set y (some (.sh d)))).bind fun o=>match o with
  | .nx S'=>qG x y body (i+1) ds S'
  | .ct S'=>qG x y body (i+1) ds S'
  | .bk S'=>some (.nx S')
  | .rt a=>some (.rt a)
def FP(x y:Nat) (k:MK) (body:MS):MS:=fun S=>(gK k S).bind fun z=>(eG (aH z.1)).bind fun ds=>qG x y body 0 ds z.2
def oT(x y:Nat) (body:MS):List D->List D->AS->Option By
 |d::ds,e::es,S=>(body ((S.set x (some (.sh d))).set y (some (.sh e)))).bind fun o=>match o with
  | .nx S'=>oT x y body ds es S'
  | .ct S'=>oT x y body ds es S'
  | .bk S'=>some (.nx S')
  | .rt a=>some (.rt a)
 |_,_,S=>some (.nx S)
def Fl(x y:Nat) (k l:MK) (body:MS):MS:=fun S=>(gK k S).bind fun z=>(gK l z.2).bind fun w=>(eG (aH z.1)).bind fun ds=>(eG (aH w.1)).bind fun es =>
 if ds.length=es.length then oT x y body ds es w.2 else none
def dq(c:MT) (body:MS):Nat->MS
 |0,_=>none
 |n+1,S=>(c S).bind fun x=>if x.1=true then (body x.2).bind fun o=>match o with
   | .nx S'=>dq c body n S'
   | .ct S'=>dq c body n S'
   | .bk S'=>some (.nx S')
   | .rt a=>some (.rt a)
  else some (.nx x.2)
section
variable {K:W.Frag}{te tf:TE}{k l:MK}{tb:TS}{body:MS}{x y:Nat}
theorem kK{H:Hp}{d:D}{ds:List D}{v:V}(e:eG d=some ds) (r:dt K H d v):∃a vs,v = .ref a/\dP K H a vs/\bY K H ds vs:=by
 cases d with
 |list es =>
  cases e;obtain⟨p,vs,rfl,h1,h2⟩:=r.list_inv;exact⟨p,vs,rfl,dP.of h1,h2⟩
 |scr ns =>
  cases e;cases r with
  |scr h=>exact⟨_,_,rfl,h,gR ns⟩
 |_=>cases e
theorem mT{te:TE}{S:AS}{z:AV×AS}(e:gK k S=some z):∃d,z.1 = .sh d:=by
 obtain⟨w,_,e⟩:=oMq.mp e;rw[←e];exact⟨_,rfl⟩
theorem bP.setD{H₀ Hf₀ Hf H:Hp}{S:AS}{σ:St}{Fs:List (List Addr)}{d:D}{v:V}(R:bP K H₀ Hf₀ Hf S σ H Fs) (i:Nat) (r:dt K Hf d v):bP K H₀ Hf₀ Hf (S.set i (some (.sh d))) (σ.set i (some v)) H (Fs.set i []) :=
 R.set i (.sh r) Tc fun q h=>(by cases h)
theorem gH(hk:SK K te k) (hb:SS K tb body):SS K (DG (EI K te) (eD x) tb) (ni x k body):=by
 intro H₀ Hf₀ Hf S σ H Fs o R e D h;obtain⟨z,e1,e⟩:=oBq.mp e;obtain⟨ds,e2,e⟩:=oBq.mp e;have hk':SK K te (gK k):=SK.frz hk;refine hk' R (a:=z.1) (S':=z.2) e1 _ fun Hf1 H1 Fs1 v F t1 R1 r1 o1=>?_
 obtain⟨d,hd⟩:=mT (te:=te) e1;rw[hd]at r1;rw[hd,ef]at e2;obtain⟨a,vs,rfl,g1,g2⟩:=kK e2 r1.sh_inv.2;refine⟨a,rfl,⟨vs,R1.sub.seq g1⟩,GL (xs:=vs) (fun i σ' H'=>∃Hf' S' Fs',bP K H₀ Hf₀ Hf' S' σ' H' Fs'/\bW Hf1 Hf'/\dg x body (ds.drop i) S'=some o) ⟨Hf1,z.2,Fs1,R1,.refl _,e⟩
  (fun i σ' H' _ ⟨Hf',S',Fs',R',s',_⟩=>R'.sub.seq (s'.seq g1)) ?_ ?_⟩
 .rintro i w σ' H' hw ⟨Hf',S',Fs',R',s',e'⟩;obtain⟨di,hdi,rw'⟩:=g2.get' hw;have hlt:i<ds.length:=(gSq.mp hdi).1;rw[SW hlt]at e';have hdi':ds[i]=di:=(gSq.mp hdi).2;rw[hdi']at e';obtain⟨ob,e3,e4⟩:=oBq.mp e';refine hb (R'.setD x (rw'.mono s')) e3 _ ?_;cases ob with
  |nx S2=>exact fun Hf2 σ2 H2 Fs2 s2 R2=>⟨Hf2,S2,Fs2,R2,s'.trans s2,e4⟩
  |ct S2=>exact fun Hf2 σ2 H2 Fs2 s2 R2=>⟨Hf2,S2,Fs2,R2,s'.trans s2,e4⟩
  |bk S2=>cases e4;exact fun Hf2 σ2 H2 Fs2 s2 R2=>h _ _ _ _ ((t1.sf.trans s').trans s2) R2
  |rt a=>cases e4;exact h
 .rintro σ' H' ⟨Hf',S',Fs',R',s',e'⟩;rw[←g2.1,UA]at e';cases e';exact h _ _ _ _ (t1.sf.trans s') R'
theorem CT{H₀ Hf₀ Hf1 H1:Hp}{S1:AS}{σ:St}{Fs1:List (List Addr)}{o:By}{D:nY}{lo:Int}{n:Nat}(hb:SS K tb body) (R1:bP K H₀ Hf₀ Hf1 S1 σ H1 Fs1) (e:dg x body (cm lo n) S1=some o) (h:wy K H₀ Hf₀ Hf1 D o) :
  ∃W:Nat->Nat->St->Hp->Prop,(∃m,W 0 m σ H1)/\∀i m σ H,W i m σ H ->
   ((Ig lo n).stop i H/\D.nx σ H)∨((Ig lo n).go i H/\∃N:St->Hp->Prop,(∀σ' H',N σ' H'->∃m',m'<m/\W (i+1) m' σ' H')/\∀v H',(Ig lo n).yld i H v H'->eD x v σ H' fun σ2 H2=>tb { D with nx:=N,ct:=N,bk:=D.nx } σ2 H2):=by
 refine CU (fun i σ' H'=>∃Hf' S' Fs',bP K H₀ Hf₀ Hf' S' σ' H' Fs'/\bW Hf1 Hf'/\dg x body ((cm lo n).drop i) S'=some o) ⟨Hf1,S1,Fs1,R1,.refl _,e⟩ ?_ ?_
 .rintro i σ' H' hi ⟨Hf',S',Fs',R',s',e'⟩;have hlt:i<(cm lo n).length:=by unfold cm;rw[lMq,Te];exact hi
  rw[SW hlt]at e';have hdi:(cm lo n)[i] = .int (lo+i):=by simp[cm]
  rw[hdi]at e';obtain⟨ob,e3,e4⟩:=oBq.mp e';refine hb (R'.setD x .int) e3 _ ?_;cases ob with
  |nx S2=>exact fun Hf2 σ2 H2 Fs2 s2 R2=>⟨Hf2,S2,Fs2,R2,s'.trans s2,e4⟩
  |ct S2=>exact fun Hf2 σ2 H2 Fs2 s2 R2=>⟨Hf2,S2,Fs2,R2,s'.trans s2,e4⟩
  |bk S2=>cases e4;exact fun Hf2 σ2 H2 Fs2 s2 R2=>h _ _ _ _ (s'.trans s2) R2
  |rt a=>cases e4;exact h
 .rintro σ' H' ⟨Hf',S',Fs',R',s',e'⟩;have hl:(cm lo n).length=n:=by unfold cm;rw[lMq,Te]
  rw[Ud (VN hl)]at e';cases e';exact h _ _ _ _ s' R'
theorem pR{ta:TA}{a:ML}(ha:IE K ta a) (hb:SS K tb body):SS K (DG (EH ta) (eD x) tb) (qL x a body):=by
 intro H₀ Hf₀ Hf S σ H Fs o R e D h;obtain⟨z,e1,e⟩:=oBq.mp e;obtain⟨ds,e2,e⟩:=oBq.mp e;refine ha R (ds:=z.1) (S':=z.2) e1 _ fun Hf1 H1 Fs1 vs t1 R1 r1=>?_
 unfold vq at e2;split at e2
 .rename_i j hz;rcases bp e2 with ⟨hj,e2⟩|e2
  .skip
   cases e2;rw[hz]at r1;obtain⟨v,ws,rfl,h1,h2⟩:=r1.cons_inv;rw[h2.nil_inv];cases h1;exact⟨j,rfl,hj.1,hj.2,CT hb R1 e (h.mono t1.sf)⟩
  .cases e2
 .cases e2
theorem Iv(hk:SK K te k) (hb:SS K tb body):SS K (DG (Kp K (fk te kq)) (C8 K 2 (nB (eD x) (nB (eD y) Ds))) tb) (FP x y k body):=by
 intro H₀ Hf₀ Hf S σ H Fs o R e D h;obtain⟨z,e1,e⟩:=oBq.mp e;obtain⟨ds,e2,e⟩:=oBq.mp e;have hk':SK K te (gK k):=SK.frz hk;refine hk' R (a:=z.1) (S':=z.2) e1 _ fun Hf1 H1 Fs1 v F t1 R1 r1 o1=>?_
 obtain⟨d,hd⟩:=mT (te:=te) e1;rw[hd]at r1;rw[hd,ef]at e2;obtain⟨a,vs,rfl,g1,g2⟩:=kK e2 r1.sh_inv.2;refine⟨a,rfl,⟨vs,R1.sub.seq g1⟩,Hs (xs:=vs) (fun i σ' H'=>∃Hf' S' Fs',bP K H₀ Hf₀ Hf' S' σ' H' Fs'/\bW Hf1 Hf'/\qG x y body i (ds.drop i) S'=some o) ⟨Hf1,z.2,Fs1,R1,.refl _,e⟩
  (fun i σ' H' _ ⟨Hf',S',Fs',R',s',_⟩=>R'.sub.seq (s'.seq g1)) ?_ ?_⟩
 .rintro i w σ' H' T hw ⟨Hf',S',Fs',R',s',e'⟩ hT;obtain⟨di,hdi,rw'⟩:=g2.get' hw;have hlt:i<ds.length:=(gSq.mp hdi).1;rw[SW hlt]at e';have hdi':ds[i]=di:=(gSq.mp hdi).2;rw[hdi']at e';obtain⟨ob,e3,e4⟩:=oBq.mp e';have R2:=(R'.new (o:=.tup [.int i,w]) hT).2.1;refine hb ((R2.setD x .int).setD y (rw'.mono s')) e3 _ ?_;cases ob with
  |nx S2=>exact fun Hf2 σ2 H2 Fs2 s2 R2=>⟨Hf2,S2,Fs2,R2,s'.trans s2,e4⟩
  |ct S2=>exact fun Hf2 σ2 H2 Fs2 s2 R2=>⟨Hf2,S2,Fs2,R2,s'.trans s2,e4⟩
  |bk S2=>cases e4;exact fun Hf2 σ2 H2 Fs2 s2 R2=>h _ _ _ _ ((t1.sf.trans s').trans s2) R2
  |rt a=>cases e4;exact h
 .rintro σ' H' ⟨Hf',S',Fs',R',s',e'⟩;rw[←g2.1,UA]at e';cases e';exact h _ _ _ _ (t1.sf.trans s') R'
theorem JB(hk:SK K te k) (hl:SK K tf l) (hb:SS K tb body):SS K (DG (NL K (fk te (fk tf kq))) (C8 K 2 (nB (eD x) (nB (eD y) Ds))) tb) (Fl x y k l body):=by
 intro H₀ Hf₀ Hf S σ H Fs o R e D h;obtain⟨z,e1,e⟩:=oBq.mp e;obtain⟨w,e1',e⟩:=oBq.mp e;obtain⟨ds,e2,e⟩:=oBq.mp e;obtain⟨es,e2',e⟩:=oBq.mp e;split at e
 .rename_i hlen;have hk':SK K te (gK k):=SK.frz hk;have hl':SK K tf (gK l):=SK.frz hl;refine hk' R (a:=z.1) (S':=z.2) e1 _ fun Hf1 H1 Fs1 v F t1 R1 r1 o1=>hl' R1 (a:=w.1) (S':=w.2) e1' _ fun Hf2 H2 Fs2 v2 F2 t2 R2 r2 o2=>?_
  obtain⟨d,hd⟩:=mT (te:=te) e1;obtain⟨d2,hd2⟩:=mT (te:=te) e1';rw[hd]at r1;rw[hd,ef]at e2;rw[hd2]at r2;rw[hd2,ef]at e2';obtain⟨a,vs,rfl,g1,g2⟩:=kK e2 (r1.sh_inv.2.mono t2.sf);obtain⟨b,ws,rfl,g3,g4⟩:=kK e2' r2.sh_inv.2;refine⟨a,b,rfl,⟨vs,R2.sub.seq g1⟩,⟨ws,R2.sub.seq g3⟩,JK (xs:=vs) (ys:=ws) (fun i σ' H'=>∃Hf' S' Fs',bP K H₀ Hf₀ Hf' S' σ' H' Fs'/\bW Hf2 Hf'/\oT x y body (ds.drop i) (es.drop i) S'=some o) ⟨Hf2,w.2,Fs2,R2,.refl _,e⟩ (by rw[←g2.1,←g4.1,hlen])
   (fun i σ' H' _ ⟨Hf',S',Fs',R',s',_⟩=>⟨R'.sub.seq (s'.seq g1),R'.sub.seq (s'.seq g3)⟩) ?_ ?_⟩
  .rintro i u u' σ' H' T hu hu' ⟨Hf',S',Fs',R',s',e'⟩ hT;obtain⟨di,hdi,rw'⟩:=g2.get' hu;obtain⟨ei,hei,rw2⟩:=g4.get' hu';have hlt:i<ds.length:=(gSq.mp hdi).1;have hlt2:i<es.length:=(gSq.mp hei).1;rw[SW hlt,SW hlt2,(gSq.mp hdi).2,(gSq.mp hei).2]at e';obtain⟨ob,e3,e4⟩:=oBq.mp e';have R3:=(R'.new (o:=.tup [u,u']) hT).2.1;refine hb ((R3.setD x (rw'.mono s')).setD y (rw2.mono s')) e3 _ ?_;cases ob with
   |nx S2=>exact fun Hf2 σ2 H2 Fs2 s2 R2=>⟨Hf2,S2,Fs2,R2,s'.trans s2,e4⟩
   |ct S2=>exact fun Hf2 σ2 H2 Fs2 s2 R2=>⟨Hf2,S2,Fs2,R2,s'.trans s2,e4⟩
   |bk S2=>cases e4;exact fun Hf2 σ2 H2 Fs2 s2 R2=>h _ _ _ _ (((t1.sf.trans t2.sf).trans s').trans s2) R2
   |rt a=>cases e4;exact h
  .rintro σ' H' ⟨Hf',S',Fs',R',s',e'⟩;have e0:ds.drop vs.length=[]:=by rw[←g2.1,UA]
   rw[e0]at e';have e0':oT x y body [] (es.drop vs.length) S'=some (.nx S'):=by
    cases es.drop vs.length <;> rfl
   rw[e0']at e';cases e';exact h _ _ _ _ ((t1.sf.trans t2.sf).trans s') R'
 .cases e
theorem ju{c:TT}{m:MT}(n:Nat) (hc:zO K c m) (hb:SS K tb body):SS K (GK c tb) (dq m body n):=by
 intro H₀ Hf₀ Hf S σ H Fs o R e D h;refine⟨fun n σ' H'=>∃Hf' S' Fs',bP K H₀ Hf₀ Hf' S' σ' H' Fs'/\bW Hf Hf'/\dq m body n S'=some o,⟨n,Hf,S,Fs,R,.refl _,e⟩,?_⟩
 rintro n σ' H' ⟨Hf',S',Fs',R',s',e'⟩;cases n with
 |zero=>cases e'
 |succ n =>
  obtain⟨z,e1,e2⟩:=oBq.mp e';refine hc R' (b:=z.1) (S':=z.2) e1 _ fun Hf1 H1 Fs1 t1 R1=>?_
  split at e2
  .rename_i hz;rw[hz];refine Bb ⟨fun σ2 H2=>∃Hf' S' Fs',bP K H₀ Hf₀ Hf' S' σ2 H2 Fs'/\bW Hf Hf'/\dq m body n S'=some o,fun σ2 H2 w=>⟨n,Vx n,w⟩,?_⟩
   obtain⟨ob,e3,e4⟩:=oBq.mp e2;refine hb R1 e3 _ ?_;cases ob with
   |nx S2=>exact fun Hf2 σ2 H2 Fs2 s2 R2=>⟨Hf2,S2,Fs2,R2,(s'.trans t1.sf).trans s2,e4⟩
   |ct S2=>exact fun Hf2 σ2 H2 Fs2 s2 R2=>⟨Hf2,S2,Fs2,R2,(s'.trans t1.sf).trans s2,e4⟩
   |bk S2=>cases e4;exact fun Hf2 σ2 H2 Fs2 s2 R2=>h _ _ _ _ ((s'.trans t1.sf).trans s2) R2
   |rt a=>cases e4;exact h
  .rename_i hz;rw[UX]at hz;rw[hz];cases e2;exact Aa (h _ _ _ _ (s'.trans t1.sf) R1)
end
def fi(np n:Nat) (m:MS):MF:=fun ds=>if ds.length=np then (m (ds.map (fun d=>some (.sh d))++S9 (n-ds.length) none)).bind fun o=>match o with
  | .rt a=>some a
  | .nx _=>some (.sh .non)
  |_=>none
 else none
theorem Dy{K:W.Frag}{Hf H:Hp}{ds:List D}{vs:List V}(N:List Str) (s:bW Hf H) (r:bY K Hf ds vs) :
  bP K H Hf Hf (ds.map (fun d=>some (.sh d))++S9 (N.length-ds.length) none) (L2.mJ N vs) H (S9 (ds.length+(N.length-ds.length)) []):=by
 have fl:=eB (ds.length+(N.length-ds.length));refine⟨by simp[L2.mJ,r.1],by simp,fun i av e=>?_,fun i e=>?_,by rw[fl];exact Tc,fun p hp=>(by rw[fl]at hp;cases hp),s,bW.refl _,fun b h _=>h,bW.refl _⟩
 .by_cases hi:i<ds.length
  .rw [gZq (by simpa using hi),gMq]at e
   obtain⟨d,e1,e2⟩:=oMq.mp e;cases e2;obtain⟨v,e3,rv⟩:=r.get e1;refine⟨v,[],?_,?_,.sh rv⟩
   .unfold L2.mJ;rw[gZq (by simpa [←r.1] using hi),gMq,e3]
    rfl
   .rw [Ux,if_pos (by lia)]
  .rw [gYq (by simpa using hi)]at e
   have:=mGq e;rw[UQ this]at e;have h2:=UQ this;cases h2
 .rw [Ux];have hi:=(gSq.mp e).1;rw[lAq,lMq,U9]at hi;rw[if_pos hi]
theorem aZ{K:W.Frag}{t:TS}{m:MS}{np:Nat}(N:List Str) (h:SS K t m) {vs:List V}{H:Hp}{Q:VK}{E:XK}(hs:bL K (fi np N.length m) vs H Q E):t { nx:=fun _ H'=>Q .non H',rt:=Q } (L2.mJ N vs) H:=by
 obtain⟨Hf,ds,a,s,r,e,q⟩:=hs;unfold fi at e;split at e
 .obtain ⟨o,e1,e2⟩:=oBq.mp e;refine h (Dy N s r) e1 _ ?_;cases o with
  |rt a' =>
   cases e2;exact fun Hf' H' v F s1 s2 s3 l r nd fr=>q Hf' H' v F s1 s2 s3 l r nd fr
  |nx S' =>
   cases e2;exact fun Hf' σ' H' Fs' s1 R=>q Hf' H' .non [] R.sf R.fr R.sub R.lim (.sh .non) Tc fun q h=>(by cases h)
  |bk S'=>cases e2
  |ct S'=>cases e2
 .cases e
theorem cG{K:W.Frag}{m:MS}{np n:Nat}{vs:List V}{H:Hp}{Q:VK}{E:XK}(hs:bL K (fi np n m) vs H Q E):vs.length=np:=by
 obtain⟨Hf,ds,a,s,r,e,q⟩:=hs;unfold fi at e;split at e
 .rename_i h;rw[←r.1,h]
 .cases e
noncomputable def fzAll:List Nat->AS->Option AS
 | [],S=>some S
 |j::js,S=>(S[j]?.join).bind fun a=>fzAll js (S.set j (some (.sh (aH a))))
noncomputable def Nc:Option AV->Option AV
 |some (.sh d)=>some (.sh d)
 |_=>none
def wV(S:AS):List Nat->Option AS
 | []=>some []
 |j::js=>(Nc S[j]?.join).bind fun a=>(wV S js).map (some a :: ·)
noncomputable def dJ(tf:MT) (te:MK) (cap:AS):List D->Option (List AV)
 | []=>some []
 |d::ds=>(tf (some (.sh d)::cap)).bind fun b=>if b.1=true then (te b.2).bind fun a=>(dJ tf te cap ds).map (a.1 :: ·) else dJ tf te cap ds
abbrev MI:=AS->Option (List D×AS)
def oa(k:MK):MI:=fun S=>(gK k S).bind fun y=>(eG (aH y.1)).map fun ds=>(ds,y.2)
def PY(a:ML):MI:=fun S=>(a S).bind fun y=>(vq y.1).map fun ds=>(ds,y.2)
def gu(src:MI) (fr:List Nat) (tf:MT) (te:MK):MK:=fun S=>(src S).bind fun y=>(fzAll fr y.2).bind fun S2=>(wV S2 fr).bind fun cap=>iR (y.1.length<=cX) ((dJ tf te cap y.1).map fun avs=>(.ow avs,S2))
noncomputable def ft:MT:=fun S=>some (true,S)
section
variable {K:W.Frag}{H₀ Hf₀ Hf Hf' H H':Hp}{S S':AS}{σ:St}{Fs Fs':List (List Addr)}
theorem bP.fz(R:bP K H₀ Hf₀ Hf S σ H Fs) {j:Nat}{a:AV}(e:S[j]?.join=some a):∃Hf' Fs',mO Hf H Fs Hf' H Fs'/\bP K H₀ Hf₀ Hf' (S.set j (some (.sh (aH a)))) σ H Fs':=by
 obtain⟨v,F,s1,s2,r,nd,o,R1⟩:=R.move (bN e);have n:∀q∈F,Hf q=none:=fun q hq=>(r.owned q hq).2
 have R2:=R1.frz o n;have r2:=r.frozen (eV (H:=H) n) fun q hq=>qV hq
 have R3:=R2.again (F:=F) (G:=[]) s1 (.sh r2) Tc fun q h=>(by cases h)
 refine⟨_,_,⟨eV n,.refl _,fun p hp=>cY hp,fun b h g=>?_⟩,R3⟩
 by_cases m:b∈F
 .exact .inr (mFq.mpr ⟨F,mGq s2,m⟩)
 .rw [hZ m]at g;exact absurd h g
theorem bP.fzAll:∀{fr:List Nat}{Hf:Hp}{S S':AS}{Fs:List (List Addr)},bP K H₀ Hf₀ Hf S σ H Fs->fzAll fr S=some S'->∃Hf' Fs',mO Hf H Fs Hf' H Fs'/\bP K H₀ Hf₀ Hf' S' σ H Fs'
 | [],Hf,S,S',Fs,R,e=>by
  cases e;exact⟨Hf,Fs,.refl,R⟩
 |j::js,Hf,S,S',Fs,R,e=>by
  obtain⟨a,e1,e2⟩:=oBq.mp e;obtain⟨Hf1,Fs1,t1,R1⟩:=R.fz e1;obtain⟨Hf2,Fs2,t2,R2⟩:=bP.fzAll R1 e2;exact⟨Hf2,Fs2,t1.trans t2,R2⟩
theorem yN(R:bP K H₀ Hf₀ Hf S σ H Fs):∀{fr:List Nat}{cap:AS},wV S fr=some cap->cap.length=fr.length/\∀(k:Nat) (a:AV),cap[k]?=some (some a)->∃d v,a = .sh d/\(slots σ fr)[k]?=some (some v)/\dt K Hf d v
 | [],cap,e=>by
  cases e;exact⟨rfl,fun k a h=>by simp at h⟩
 |j::js,cap,e=>by
  obtain⟨a,e1,e2⟩:=oBq.mp e;obtain⟨cap',e3,e4⟩:=oMq.mp e2;subst e4;obtain⟨h1,h2⟩:=yN R e3;refine⟨by simp[h1],fun k b hk=>?_⟩
  cases k with
  |zero =>
   cases hk;cases ej:S[j]?.join with
   |none=>rw[ej]at e1;cases e1
   |some c =>
    rw[ej]at e1;cases c with
    |sh d =>
     cases e1;obtain⟨v,F,s1,s2,r⟩:=R.rep j _ (bN ej);refine⟨d,v,rfl,?_,r.sh_inv.2⟩;show some ((σ[j]?).join)=_;rw[s1];rfl
    |_=>cases e1
  |succ k=>exact h2 k b (by simpa using hk)
theorem C3(R:bP K H₀ Hf₀ Hf S σ H Fs) {fr:List Nat}{cap:AS}(e:wV S fr=some cap) {d:D}{x:V}(rx:dt K Hf d x) :
  bP K H₀ Hf₀ Hf (some (.sh d)::cap) (some x::slots σ fr) H (S9 (cap.length+1) []):=by
 obtain⟨h1,h2⟩:=yN R e;have fl:=eB (cap.length+1);refine⟨by simp[slots,h1],by simp,fun i av ei=>?_,fun i ei=>?_,by rw[fl];exact Tc,fun p hp=>(by rw[fl]at hp;cases hp),R.sub,R.fr,R.lim,R.sf⟩
 .cases i with
  |zero =>
   cases ei;exact⟨x,[],rfl,by simp,.sh rx⟩
  |succ k =>
   have hk:k<cap.length:=(gSq.mp (by simpa using ei)).1
   obtain⟨d',v,rfl,s1,r⟩:=h2 k av (by simpa using ei)
   exact⟨v,[],by simpa using s1,by rw[Ux,if_pos (by lia)],.sh r⟩
 .rw [Ux];have hi:=(gSq.mp ei).1;rw[if_pos (by simpa using hi)]
theorem bP.updOut(R:bP K H₀ Hf₀ Hf S σ H Fs) {p:Addr}{o:HO}(h1:p∉Fs.flatten) (h2:Hf p=none) (h3:H₀ p=none):bP K H₀ Hf₀ Hf S σ (cW H p o) Fs where
 len:=R.len
 lenF:=R.lenF
 rep:=fun i av e=>by
  obtain⟨v,F,s1,s2,r⟩:=R.rep i av e;exact⟨v,F,s1,s2,r.keepUpd fun m=>h1 (cu s2 m)⟩
 emp:=R.emp
 nd:=R.nd
 fresh:=R.fresh
 sub:=fun b u e=>by
  rw[aL fun z=>by rw[z,h2]at e;cases e]
  exact R.sub b u e
 fr:=fun b u e=>by
  rw[aL fun z=>by rw[z,h3]at e;cases e]
  exact R.fr b u e
 lim:=R.lim
 sf:=R.sf
theorem bP.outer{σ2:St}{Fs2 Fs3:List (List Addr)}{Hf3 H3:Hp}{S3:AS}(R:bP K H₀ Hf₀ Hf S σ H Fs) (R3:bP K H₀ Hf₀ Hf3 S3 σ2 H3 Fs3) (t:mO Hf H Fs2 Hf3 H3 Fs3) (h0:Fs2.flatten=[]):mO Hf H Fs Hf3 H3 Fs/\bP K H₀ Hf₀ Hf3 S σ H3 Fs:=by
 have g:∀b,Hf b=none->H b≠none->Hf3 b=none:=fun b h1 h2=>by
  by_cases e:Hf3 b=none
  .exact e
  .rcases t.gr b h1 e with z|z
   .exact absurd z h2
   .rw [h0]at z;cases z
 exact⟨⟨t.sf,t.sh,fun _ h=>h,fun b h1 h2=>.inl (by
  by_cases e:H b=none
  .exact e
  .exact absurd (g b h1 e) h2)⟩,R.more t.sh t.sf R3.sub (fun q hq=>g q (R.mem hq).2 (R.mem hq).1) R3.lim⟩
end
section
variable {K:W.Frag}{tf:TT}{te:TE}{mf:MT}{me:MK}{fr:List Nat}
theorem vz{H₀ Hf₀ Hf1 H1:Hp}{S1:AS}{σ:St}{Fs1:List (List Addr)}{cap:AS}{ds:List D}{avs:List AV}{J:It}{Q:VK}(hf:zO K tf mf) (he:SK K te me)
  (R1:bP K H₀ Hf₀ Hf1 S1 σ H1 Fs1) (ec:wV S1 fr=some cap) (hl:ds.length<=cX) (e:dJ mf me cap ds=some avs)
  (hgo:∀i H,bW Hf1 H->i<ds.length->J.go i H) (hst:∀H,bW Hf1 H->J.stop ds.length H) (hy:∀i H x H',bW Hf1 H->i<ds.length->J.yld i H x H'->H'=H/\∃d,ds[i]?=some d/\dt K Hf1 d x)
  (q:∀Hf' H' v F,mO Hf1 H1 Fs1 Hf' H' Fs1->bP K H₀ Hf₀ Hf' S1 σ H' Fs1->bC K Hf' H' (.ow avs) v F->mP H₀ H1 Fs1 Fs1 F->Q v H') :
  ∀acc,H1 acc=none->∃W:Nat->Nat->Hp->Prop,(∃m,W 0 m (cW H1 acc (.lst [])))/\∀i m H,W i m H ->
   (J.stop i H/\Q (.ref acc) H) ∨
   (J.go i H/\∃N:Hp->Prop,(∀H',N H'->∃m',m'<m/\W (i+1) m' H')/\∀x H',J.yld i H x H'->tf (some x::slots σ fr) H' fun b H2 =>
    if b=true then te (some x::slots σ fr) H2 fun y H3=>∃ys,H3 acc=some (.lst ys)/\ys.length<sizeLine/\N (cW H3 acc (.lst (ys++[y]))) else N H2):=by
 intro acc hacc;obtain⟨t0,R0,n1,n2,n3⟩:=R1.new (o:=.lst []) hacc
 let P:Nat->Hp->Prop:=fun i H=>∃Hf as vs Gs rest,bP K H₀ Hf₀ Hf S1 σ H Fs1/\mO Hf1 H1 Fs1 Hf H Fs1/\H acc=some (.lst vs)/\Hf acc=none/\bE K Hf H as vs Gs/\mP H₀ H1 Fs1 Fs1 (acc::Gs.flatten)/\as.length<=i /\
  dJ mf me cap (ds.drop i)=some rest/\avs=as++rest
 refine⟨fun i m H=>m=ds.length-i/\i<=ds.length/\P i H,⟨ds.length,by simp,Tf _,Hf1,[],[],[],avs,R0,t0,aR,n1,.nil,mP.one R1 hacc,Tf _,e,rfl⟩,?_⟩
 rintro i m H ⟨rfl,hi,Hf,as,vs,Gs,rest,R,t,ha,hfa,ra,ow,la,er,ea⟩;have hs:bW Hf1 H:=t.sf.trans R.sub
 by_cases hlt:i<ds.length
 .refine .inr ⟨hgo i H hs hlt,P (i+1),fun H' p=>⟨ds.length-(i+1),by lia,rfl,hlt,p⟩,fun x H' y=>?_⟩
  obtain⟨rfl,d,hd,rx⟩:=hy i H x H' hs hlt y;rw[SW hlt,(gSq.mp hd).2]at er;obtain⟨b,e1,e2⟩:=oBq.mp er;have fl:=eB (cap.length+1);refine hf (C3 R ec (rx.mono t.sf)) (b:=b.1) (S':=b.2) e1 _ fun Hf2 H2 Fs2 t2 R2=>?_
  obtain⟨t2',R2'⟩:=R.outer R2 t2 fl;have ha2:H2 acc=some (.lst vs):=t2.sh _ _ ha;have hfa2:Hf2 acc=none:=by
   by_cases z:Hf2 acc=none
   .exact z
   .rcases t2.gr acc hfa z with z|z
    .rw [ha]at z;cases z
    .rw [fl]at z;cases z
  have ra2:=ra.stp (fun q hq=>ow.out q (mCo _ hq)) t2'
  split at e2
  .rename_i hb;rw[hb];refine Bb ?_;obtain⟨a,e3,e4⟩:=oBq.mp e2;obtain⟨rest',e5,e6⟩:=oMq.mp e4;subst e6;refine he R2 (a:=a.1) (S':=a.2) e3 _ fun Hf3 H3 Fs3 v F t3 R3 r3 o3=>?_
   have fl2:Fs2.flatten=[]:=by
    cases hz:Fs2.flatten with
    |nil=>rfl
    |cons z zs =>
     have:=t2.own z (by rw[hz];simp)
     rw[fl]at this;cases this
   obtain⟨t3',R3'⟩:=R2'.outer R3 t3 fl2;have ha3:H3 acc=some (.lst vs):=t3.sh _ _ ha2;have hfa3:Hf3 acc=none:=by
    by_cases z:Hf3 acc=none
    .exact z
    .rcases t3.gr acc hfa2 z with z|z
     .rw [ha2]at z;cases z
     .rw [fl2]at z;cases z
   have ra3:=ra2.stp (fun q hq=>ow.out q (mCo _ hq)) t3'
   have newF:∀q∈F,H2 q=none:=fun q hq=>(o3.new q hq).elim id fun z=>by rw[fl2]at z;cases z
   have accF:acc∉F:=fun m=>by rw[newF acc m]at ha2;cases ha2
   have accG:acc∉Gs.flatten:=(Sm.mp ow.nd).1;have tt:=(t.trans t2').trans t3';refine⟨vs,ha3,?_,?_⟩
   .rw [gf,←ra.1];lia
   .refine ⟨Hf3,as++[a.1],vs++[v],Gs++[F],rest',R3'.updOut n3 hfa3 n2,⟨tt.sf,fun b o eb=>?_,fun _ h=>h,tt.gr⟩,aR,hfa3,(ra3.keepUpd accG).snoc (r3.keepUpd accF),?_,by rw[lAq,lSq];lia,e5,by rw[ea];simp⟩
    .rw [aL fun z=>by rw[z,hacc]at eb;cases eb]
     exact tt.sh b o eb
    .rw [fAq,SZ];have oF:mP H₀ H1 Fs1 Fs1 F:=⟨o3.nd,o3.fr,fun q hq m=>(R2'.mem m).1 (newF q hq),fun q hq=>.inl ((t.trans t2').sh.free (newF q hq))⟩
     refine(show mP H₀ H1 Fs1 Fs1 ((acc::Gs.flatten)++F) from ow.app oF fun q hq m=>?_)
     rcases Si.mp hq with z|z
     .rw [z]at m;exact accF m
     .exact (ra2.owned q z).1 (newF q m)
  .rename_i hb;rw[UX]at hb;rw[hb];exact Aa ⟨Hf2,as,vs,Gs,rest,R2',t.trans t2',ha2,hfa2,ra2,ow,by lia,e2,ea⟩
 .have e0:i=ds.length:=by lia
  subst e0;rw[UA]at er;cases er;rw[aNq]at ea;subst ea;exact .inl ⟨hst H hs,q Hf H (.ref acc) _ t R (bC.news ha hfa ra) ow⟩
theorem gD{tl:TE}{k:MK}(hk:SK K tl k) (hf:zO K tf mf) (he:SK K te me):SK K (B6 (EI K tl) fr tf te) (gu (oa k) fr mf me):=by
 intro H₀ Hf₀ Hf S σ H Fs av S' R e Q q;obtain⟨y,e1,e⟩:=oBq.mp e;obtain⟨z,e0,e1⟩:=oBq.mp e1;obtain⟨ds,e2,e1⟩:=oMq.mp e1;subst e1;obtain⟨S2,e3,e⟩:=oBq.mp e;obtain⟨cap,e4,e⟩:=oBq.mp e;rcases bp e with ⟨hl,e⟩|e
 .obtain ⟨avs,e5,e⟩:=oMq.mp e;cases e;have hk':SK K tl (gK k):=SK.frz hk;refine hk' R (a:=z.1) (S':=z.2) e0 _ fun Hf1 H1 Fs1 v F t1 R1 r1 o1=>?_
  obtain⟨d,hd⟩:=mT (te:=tl) e0;rw[hd]at r1;rw[hd,ef]at e2;obtain⟨Hf2,Fs2,t2,R2⟩:=R1.fzAll e3;obtain⟨a,vs,rfl,g1,g2⟩:=kK e2 (r1.sh_inv.2.mono t2.sf);refine⟨a,rfl,⟨vs,R2.sub.seq g1⟩,vz (K:=K) hf he R2 e4 hl e5 (fun i H s hi=>⟨vs,vs[i]'(g2.1 ▸ hi),s.seq g1,gEg (g2.1 ▸ hi)⟩) (fun H s=>⟨vs,s.seq g1,VN g2.1.symm⟩) (fun i H x H' s hi y=>?_) fun Hf' H' v F t R' r o=>q _ _ _ v F ((t1.trans t2).trans t) R' r (o.back (t1.trans t2))⟩
  obtain⟨y1,y2⟩:=y;obtain⟨di,h1,h2⟩:=g2.get' (y2 vs (s.seq g1));exact⟨y1,di,h1,h2⟩
 .cases e
theorem lW{lo:Int}{n i:Nat}(h:i<n):(cm lo n)[i]?=some (.int (lo+i)):=by
 unfold cm;rw[gMq,Ui h];rfl
theorem cV(lo:Int) (n:Nat):(cm lo n).length=n:=by unfold cm;rw[lMq,Te]
theorem wq{ta:TA}{a:ML}(ha:IE K ta a) (hf:zO K tf mf) (he:SK K te me):SK K (B6 (EH ta) fr tf te) (gu (PY a) fr mf me):=by
 intro H₀ Hf₀ Hf S σ H Fs av S' R e Q q;obtain⟨y,e1,e⟩:=oBq.mp e;obtain⟨z,e0,e1⟩:=oBq.mp e1;obtain⟨ds,e2,e1⟩:=oMq.mp e1;subst e1;obtain⟨S2,e3,e⟩:=oBq.mp e;obtain⟨cap,e4,e⟩:=oBq.mp e;rcases bp e with ⟨hl,e⟩|e
 .obtain ⟨avs,e5,e⟩:=oMq.mp e;cases e;refine ha R (ds:=z.1) (S':=z.2) e0 _ fun Hf1 H1 Fs1 vs t1 R1 r1=>?_
  unfold vq at e2;split at e2
  .rename_i j hz;rcases bp e2 with ⟨hj,e2⟩|e2
   .skip
    cases e2;rw[hz]at r1;obtain⟨v,ws,rfl,h1,h2⟩:=r1.cons_inv;rw[h2.nil_inv];cases h1;obtain⟨Hf2,Fs2,t2,R2⟩:=R1.fzAll e3;refine⟨j,rfl,hj.1,hj.2,vz (K:=K) hf he R2 e4 hl e5 (fun i H s hi=>(by rw[cV]at hi;exact hi)) (fun H s=>(by rw[cV];exact Sg _)) (fun i H x H' s hi y=>?_) fun Hf' H' v F t R' r o=>q _ _ _ v F ((t1.trans t2).trans t) R' r (o.back (t1.trans t2))⟩
    obtain⟨y1,y2⟩:=y;rw[cV]at hi;exact⟨y1,_,lW hi,by rw[y2];exact .int⟩
   .cases e2
  .cases e2
 .cases e
theorem pe:zO K O4 ft:=by
 intro H₀ Hf₀ Hf S σ H Fs b S' R e Q q;cases e;exact q _ _ _ .refl R
end
mutual
def py:D->Option PyData
 | .non=>some .none
 | .bl b=>some (.bool b)
 | .int i=>some (.int i)
 | .str x=>some (.str x)
 | .list ds=>(Do ds).map .list
 | .tup ds=>(Do ds).map .tuple
 |_=>none
def Do:List D->Option (List PyData)
 | []=>some []
 |d::ds=>(py d).bind fun x=>(Do ds).map (x :: ·)
end
section
variable {X:Cx}
theorem nI{h:Heap}:∀{ds:List D}{vs:List V}{its:List Value}{xs:List PyData},(∀(i:Nat) (d:D) (v:V),ds[i]?=some d->vs[i]?=some v->∀u x,cx v u->py d=some x->∃as,Reads h u x as)->ds.length=vs.length->bz vs its->Do ds=some xs->∃as,ReadsAll h its xs as
 | [],vs,its,xs,_,hl,hv,e=>by
  have:vs=[]:=TQ.mp hl.symm;subst this;cases hv;simp only[Do]at e;cases e;exact⟨_,.nil⟩
 |d::ds,vs,its,xs,ih,hl,hv,e=>by
  cases vs with
  |nil=>simp at hl
  |cons v vs =>
   cases hv with
   |cons r t =>
    simp only[Do]at e;obtain⟨x,e1,e2⟩:=oBq.mp e;obtain⟨ys,e3,e4⟩:=oMq.mp e2;subst e4;obtain⟨as,h1⟩:=ih 0 d v rfl rfl _ x r e1;obtain⟨bs,h2⟩:=nI (fun i d' v' q1 q2=>ih (i+1) d' v' (by simpa using q1) (by simpa using q2)) (by simpa using hl) t e3
    exact⟨_,.cons h1 h2⟩
theorem yp{ab:List (Addr×Obj)}{σ:St}{H:Hp}{s:Shared}(I:Inv X ab σ H s) {d:D}{v:V}(r:dt X.K H d v):∀(u:Value) (x:PyData),cx v u->py d=some x->∃as,Reads s.heap u x as:=by
 induction r with
 |non=>intro u x ru e;cases ru;simp only[py]at e;cases e;exact⟨_,.none⟩
 |bl=>intro u x ru e;cases ru;simp only[py]at e;cases e;exact⟨_,.bool _⟩
 |int=>intro u x ru e;obtain⟨t,rfl⟩:=ru;simp only[py]at e;cases e;exact⟨_,.int _ _⟩
 |str=>intro u x ru e;obtain⟨t,rfl⟩:=ru;simp only[py]at e;cases e;exact⟨_,.str _ _⟩
 |ty=>intro u x ru e;simp only[py]at e;cases e
 |list h l _ ih =>
  intro u x ru e;cases ru;simp only[py]at e;obtain⟨xs,e1,rfl⟩:=oMq.mp e;obtain⟨its,rv,hl,hz⟩:=I.list (dP.of h);obtain⟨o,ho,hc,n,hd⟩:=hl.isList;obtain⟨as,e2⟩:=nI ih l rv e1;exact⟨_,Reads.list ho hc hd (by simpa using e2)⟩
 |tup h l _ ih =>
  intro u x ru e;cases ru;simp only[py]at e;obtain⟨xs,e1,rfl⟩:=oMq.mp e;obtain⟨its,rv,⟨o,ho,hc,n,hd⟩,hz⟩:=I.tuple (rF.of h);obtain⟨as,e2⟩:=nI ih l rv e1;exact⟨_,Reads.tuple ho hc hd (by simpa using e2)⟩
 |dict h l _ ih=>intro u x ru e;simp only[py]at e;cases e
 |fd h l _ ih=>intro u x ru e;simp only[py]at e;cases e
 |scr h=>intro u x ru e;simp only[py]at e;cases e
 |exc rf nf h hx=>intro u x ru e;simp only[py]at e;cases e
 |exc0 rf h=>intro u x ru e;simp only[py]at e;cases e
 |cls h=>intro u x ru e;simp only[py]at e;cases e
 |ins rf h l _ ih=>intro u x ru e;simp only[py]at e;cases e
noncomputable def Pn(K:W.Frag) (neg:Bool):R2:=fun x y H Q=>∃(d e:D) (a b:PyData),dt K H d x/\dt K H e y/\py d=some a/\py e=some b/\SeqAt.shaped a=true/\SeqAt.shaped b=true/\SeqAt.noMix a b=true /\
 Q (.bl (if neg then !(PySem.Spec.same a b) else PySem.Spec.same a b)) H
theorem Lm(hu:X.A.units+64<cLine):vh X (compareOp .NotEq) (Pn X.K true):=by
 intro ab s σ H x y v u Q I rx ry h;obtain⟨d,e,a,b,h1,h2,p1,p2,s1,s2,nm,q⟩:=h;obtain⟨as,r1⟩:=yp I h1 _ _ rx p1;obtain⟨bs,r2⟩:=yp I h2 _ _ ry p2;exact Xc r1 r2 s1 s2 hu nm (bV I q rfl)
end
noncomputable def Gj(d e:D):Option D:=(py d).bind fun a=>(py e).bind fun b=>if SeqAt.shaped a=true/\SeqAt.shaped b=true/\SeqAt.noMix a b=true then some (.bl (PySem.Spec.same a b)) else none
def vm(d e:D):Option D:=(Gj d e).bind Ee
section
variable {K:W.Frag}
theorem LN:we K (Pn K true) vm:=by
 intro x y H Q dx dy d rx ry e q;obtain⟨c,e,e'⟩:=oBq.mp e;obtain⟨a,e1,e⟩:=oBq.mp e;obtain⟨b,e2,e⟩:=oBq.mp e;split at e
 .rename_i h;cases e;cases e';exact⟨dx,dy,a,b,rx,ry,e1,e2,h.1,h.2.1,h.2.2,q _ .bl⟩
 .cases e
end
noncomputable abbrev dI(ns:List Int):D:=.list (ns.map .int)
abbrev dM(rs:List (List Int)):D:=.list (rs.map dI)
theorem FB(ns:List Int):Do (ns.map .int)=some (ns.map PyData.int):=by
 induction ns with
 |nil=>simp[Do]
 |cons n ns ih=>simp[Do,py,ih]
theorem K6(ns:List Int):py (dI ns)=some (kj ns):=by
 show py (.list _)=_;simp only[py,FB];rfl
theorem EM(rs:List (List Int)):Do (rs.map dI)=some (rs.map kj):=by
 induction rs with
 |nil=>simp[Do]
 |cons r rs ih =>
  show Do (dI r::rs.map dI)=_;simp only[Do,K6,ih];rfl
theorem Pm(rs:List (List Int)):py (dM rs)=some (pX rs):=by
 show py (.list _)=_;simp only[py,EM];rfl
theorem uM(r:List Int):SeqAt.shaped (kj r)=true:=by
 have h2:=W.depthAll_ints r;have h3:PyData.depth (kj r)<=64:=by simp only[kj,PyData.depth];lia
 show (PyData.canLay0 (kj r) && decide (PyData.depth (kj r)<=64))=true;rw[Uk];exact⟨by simp only[kj,PyData.canLay0];exact W.canLayAll0_ints r,decide_eq_true h3⟩
@[simp] theorem QO (ns ms:List Int):Gj (dI ns) (dI ms)=some (.bl (decide (ns=ms))):=by
 unfold Gj;rw[K6,K6];show (if _ then _ else _)=_
 rw[if_pos ⟨uM ns,uM ms,by simp only[kj,SeqAt.noMix];exact W.noMix_ints ns ms⟩]
 simp only[kj,PySem.Spec.same,W.same_ints]
@[simp] theorem K3 (rs ts:List (List Int)):Gj (dM rs) (dM ts)=some (.bl (decide (rs=ts))):=by
 unfold Gj;rw[Pm,Pm];show (if _ then _ else _)=_
 rw[if_pos ⟨rD rs,rD ts,by simp only[pX,SeqAt.noMix];exact tq rs ts⟩]
 simp only[pX,PySem.Spec.same,wj]
@[simp] theorem MB (rs ts:List (List Int)):vm (dM rs) (dM ts)=some (.bl (!decide (rs=ts))):=by unfold vm;rw[K3];rfl
noncomputable def kM(l:ML):MK:=fun S=>(l S).map fun x=>(.ow (x.1.map .sh),x.2)
def AO(l:ML):MK:=fun S=>(l S).bind fun x=>(dG x.1).map fun ns=>(.ow ((ff ns).map fun n=>.sh (.int n)),x.2)
def kc:List D->Option (List (List Int))
 | []=>some []
 | .list ds::es=>(dG ds).bind fun r=>(kc es).map (r :: ·)
 |_=>none
theorem vV:∀{ds:List D}{rs:List (List Int)},kc ds=some rs->ds=rs.map dI
 | [],rs,h=>by cases h;rfl
 |d::ds,rs,h=>by
  cases d with
  |list es =>
   obtain⟨r,h1,h⟩:=oBq.mp (show (dG es).bind (fun r=>(kc ds).map (r :: ·))=some rs from h)
   obtain⟨ts,h2,h3⟩:=oMq.mp h;subst h3;rw[vV h2,jf h1];rfl
  |_=>cases h
@[simp] theorem AI (rs:List (List Int)):kc (rs.map dI)=some rs:=by
 induction rs with
 |nil=>rfl
 |cons r rs ih =>
  show (dG (r.map .int)).bind (fun r=>(kc (rs.map dI)).map (r :: ·))=_
  rw[eP,ih];rfl
def Qy(l:ML):MK:=fun S=>(l S).bind fun x=>(kc x.1).map fun rs=>(.ow ((eK rs).map fun r=>.sh (dI r)),x.2)
section
variable {K:W.Frag}{te:TE}{l:ML}
theorem pP(hl:SQ K te l):SK K (HW (fun xs H Q=>∃p ys,xs=[.ref p]/\(dP K H p ys∨rF K H p ys)/\∀l,H l=none->Q (.ref l) (cW H l (.lst ys))) (fk te kq)) (kM l):=by
 intro H₀ Hf₀ Hf S σ H Fs av S' R e Q q;obtain⟨x,e1,e⟩:=oMq.mp e;cases e;refine hl R (ds:=x.1) (S':=x.2) e1 _ fun Hf1 H1 Fs1 p1 vs1 t1 R1 h1 r1=>⟨p1,vs1,rfl,.inl h1,fun p hp=>?_⟩
 obtain⟨t4,R4,n1,n2,n3⟩:=R1.new (o:=.lst vs1) hp;exact q _ _ _ (.ref p) [p] (t1.trans t4) R4 (bC.new aR n1 r1) ((mP.one R1 hp).back t1)
theorem mS(ns:List Int):(ns.map fun n=>AV.sh (.int n))=(ns.map D.int).map .sh:=by rw[mPq];rfl
theorem Gk(hl:SQ K te l):SK K (HW (fun xs H Q=>∃(a:Addr) (ns:List Int),xs=[.ref a]/\dP K H a (ns.map V.int)/\∀p,H p=none->Q (.ref p) (cW H p (.lst ((ff ns).map V.int)))) (fk te kq)) (AO l):=by
 intro H₀ Hf₀ Hf S σ H Fs av S' R e Q q;obtain⟨x,e1,e⟩:=oBq.mp e;obtain⟨ns,e2,e⟩:=oMq.mp e;cases e;refine hl R (ds:=x.1) (S':=x.2) e1 _ fun Hf1 H1 Fs1 p1 vs1 t1 R1 h1 r1=>?_
 rw[jf e2]at r1;rw[eA r1]at h1;refine⟨p1,ns,rfl,h1,fun p hp=>?_⟩
 obtain⟨t4,R4,n1,n2,n3⟩:=R1.new (o:=.lst ((ff ns).map V.int)) hp;rw[mS]at q;exact q _ _ _ (.ref p) [p] (t1.trans t4) R4 (bC.new aR n1 (gR _)) ((mP.one R1 hp).back t1)
theorem oq{H:Hp}:∀{rs:List (List Int)}{vs:List V},bY K H (rs.map dI) vs->∃ps,vs=ps.map V.ref/\dh H ps rs
 | [],vs,h=>⟨[],h.nil_inv,.nil⟩
 |r::rs,vs,h=>by
  obtain⟨v,ws,rfl,h1,h2⟩:=bY.cons_inv (d:=dI r) (ds:=rs.map dI) h;obtain⟨p,us,rfl,h3,h4⟩:=h1.list_inv;rw[eA h4]at h3;obtain⟨ps,rfl,h5⟩:=oq h2;exact⟨p::ps,rfl,dh.cons_iff.mpr ⟨h3,h5⟩⟩
end
noncomputable def O7:String->D->Bool
 |T,.list _=>T == "list"
 |T,.scr _=>T == "list"
 |T,.str _=>T == "str"
 |_,_=>false
def PN(T:String) (f:D->List D->Option D) (a:ME) (as:ML):ME:=fun S=>(a S).bind fun x=>if O7 T x.1=true then (as x.2).bind fun y=>(f x.1 y.1).map fun d=>(d,y.2) else none
def RA(K:W.Frag) (r:V->List V->Hp->VK->Prop) (f:D->List D->Option D):Prop:=∀{x:V}{vs:List V}{H:Hp}{Q:VK}{dx:D}{ds:List D}{d:D},dt K H dx x->bY K H ds vs->f dx ds=some d->(∀v,dt K H d v->Q v H)->r x vs H Q
section
variable {K:W.Frag}{te:TE}{ta:TA}{a:ME}{as:ML}{r:V->List V->Hp->VK->Prop}{f:D->List D->Option D}{T:String}
theorem MQ{H:Hp}{d:D}{v:V}(h:O7 T d=true) (rv:dt K H d v):P3 K T v H:=by
 cases rv <;> simp only[O7]at h
 all_goals first|(exfalso;simp at h;done)|skip
 .exact eq_of_beq h
 .rename_i p vs ds h1 l e;exact .inl ⟨eq_of_beq h,vs,dP.of h1⟩
 .rename_i p ns h1;exact .inl ⟨eq_of_beq h,_,h1⟩
theorem Ki(hr:RA K r f) (ha:SR K te a) (hs:IE K ta as):SR K (Ep K T r te ta) (PN T f a as):=by
 intro H₀ Hf₀ Hf S σ H Fs d S' R e Q q;obtain⟨x,e1,e⟩:=oBq.mp e;split at e
 .rename_i hT;obtain⟨y,e2,e⟩:=oBq.mp e;obtain⟨z,e3,e⟩:=oMq.mp e;cases e;refine ha R (d:=x.1) (S':=x.2) e1 _ fun Hf1 H1 Fs1 v t1 R1 r1=>⟨MQ hT r1,hs R1 (ds:=y.1) (S':=y.2) e2 _ fun Hf2 H2 Fs2 vs t2 R2 r2=>?_⟩
  exact hr (r1.mono t2.sh) r2 e3 fun v rv=>q _ _ _ v (t1.trans t2) R2 rv
 .cases e
def qR:D->List D->Option D
 | .list ds,[.int k]=>(dG ds).bind fun ns=>if k∈ns then some (.int (ns.idxOf k:Nat)) else none
 |_,_=>none
theorem zj:RA K (Hi K) qR:=by
 intro x vs H Q dx ds d rx rs e q;unfold qR at e;split at e
 .rename_i es k;obtain⟨ns,e1,e⟩:=oBq.mp e;split at e
  .rename_i hk;cases e;obtain⟨v,ws,rfl,h1,h2⟩:=rs.cons_inv;rw[h2.nil_inv];cases h1;rw[jf e1]at rx;obtain⟨p,us,rfl,h3,h4⟩:=rx.list_inv;rw[eA h4]at h3;exact⟨p,ns,k,rfl,rfl,dP.of h3,hk,q _ .int⟩
  .cases e
 .cases e
def NJ(a:ME):ME:=fun S=>(a S).bind fun x=>match x.1 with
 | .list ds=>(kc ds).map fun rs=>(.int (rs.countP (·=([]:List Int)):Nat),x.2)
 |_=>none
noncomputable def qH:D->Option Bool
 | .non=>some false
 | .bl b=>some b
 | .int i=>some (i != 0)
 | .list ds=>some (!ds.isEmpty)
 | .tup ds=>some (!ds.isEmpty)
 | .dict ds=>some (!ds.isEmpty)
 |_=>none
def sX(a:ME):MT:=fun S=>(a S).bind fun x=>(qH x.1).map fun b=>(b,x.2)
theorem nJ{α β:Type}{xs:List α}{ys:List β}(h:xs.length=ys.length):(!xs.isEmpty) = !ys.isEmpty:=by
 cases xs <;> cases ys <;> simp at h ⊢
theorem uq(ha:SR K te a):zO K (fun σ H Q=>te σ H fun x H'=>∃k,MZ K x H' k/\Q k H') (sX a):=by
 intro H₀ Hf₀ Hf S σ H Fs b S' R e Q q;obtain⟨x,e1,e⟩:=oBq.mp e;obtain⟨c,e2,e⟩:=oMq.mp e;cases e;refine ha R (d:=x.1) (S':=x.2) e1 _ fun Hf1 H1 Fs1 v t1 R1 r1=>⟨_,?_,q _ _ _ t1 R1⟩
 cases hx:x.1 <;> rw[hx]at e2 r1 <;> simp only[qH]at e2
 all_goals first|(exfalso;simp at e2;done)|skip
 .cases r1;cases e2;rfl
 .cases r1;cases e2;rfl
 .cases r1;cases e2;rfl
 .obtain ⟨p,us,rfl,h3,h4⟩:=r1.list_inv;cases e2;exact .inl ⟨us,dP.of h3,nJ h4.1⟩
 .obtain ⟨p,us,rfl,h3,h4⟩:=r1.tup_inv;cases e2;exact .inr (.inl ⟨us,rF.of h3,nJ h4.1⟩)
 .obtain ⟨p,us,rfl,h3,h4⟩:=r1.dict_inv;cases e2;exact .inr (.inr ⟨us,h3,nJ h4.len⟩)
end
noncomputable def bO:AV->List Nat->Option (List AV)
 | .ow avs,[]=>some avs
 | .ow avs,j::js=>(avs[j]?).bind fun a=>bO a js
 |_,_=>none
noncomputable def putAt:AV->List Nat->List AV->AV
 | .ow _,[],as=>.ow as
 | .ow avs,j::js,as=>match avs[j]? with
  |some a=>.ow (avs.set j (putAt a js as))
  |none=>.ow avs
 |a,_,_=>a
def xD(H:Hp):V->List Nat->V->Prop
 |v,[],w=>v=w
 |v,j::js,w=>∃p vs u,v = .ref p/\H p=some (.lst vs)/\vs[j]?=some u/\xD H u js w
section
variable {K:W.Frag}{H₀ Hf₀ Hf Hf' H H':Hp}{S S':AS}{σ:St}{Fs Fs':List (List Addr)}
theorem mI:∀{Fs:List (List Addr)}{F G:List Addr}(i:Nat),Fs.flatten.Nodup->Fs[i]?=some G->F.Nodup->(∀p∈F,p∈G∨p∉Fs.flatten)->(Fs.set i F).flatten.Nodup
 | [],F,G,i,h,e,_,_=>by simp at e
 |E::Gs,F,G,0,h,e,hF,hd=>by
  simp at e;subst e;rw[U3,fCq,nAq];rw[fCq,nAq]at h;refine⟨hF,h.2.1,fun a ha b hb e=>?_⟩
  subst e;rcases hd a ha with z|z
  .exact h.2.2 a z a hb rfl
  .exact z (by rw[fCq];exact SB _ hb)
 |E::Gs,F,G,i+1,h,e,hF,hd=>by
  rw[Vl,fCq,nAq];rw[fCq,nAq]at h;have e':Gs[i]?=some G:=by simpa using e
  refine⟨h.1,mI i h.2.1 e' hF fun p hp=>(hd p hp).imp id fun z m=>z (by rw[fCq];exact SB _ m),fun a ha b hb e=>?_⟩
  subst e;rcases dZ hb with q|q
  .rcases hd a q with z|z
   .exact h.2.2 a ha a (mFq.mpr ⟨G,mGq e',z⟩) rfl
   .exact z (by rw[fCq];exact T7 _ ha)
  .exact h.2.2 a ha a q rfl
theorem ue:∀{Fs:List (List Addr)}{F G:List Addr}{i j:Nat}{p:Addr},Fs.flatten.Nodup->Fs[i]?=some F->Fs[j]?=some G->i≠j->p∈F->p∉G
 | [],F,G,i,j,p,_,e,_,_,_,_=>by simp at e
 |E::Es,F,G,0,0,p,h,e,f,n,_,_=>n rfl
 |E::Es,F,G,0,j+1,p,h,e,f,n,hp,m=>by
  simp at e;subst e;rw[fCq,nAq]at h;exact h.2.2 p hp p (mFq.mpr ⟨G,mGq (i:=j) (by simpa using f),m⟩) rfl
 |E::Es,F,G,i+1,0,p,h,e,f,n,hp,m=>by
  simp at f;subst f;rw[fCq,nAq]at h;exact h.2.2 p m p (mFq.mpr ⟨F,mGq (i:=i) (by simpa using e),hp⟩) rfl
 |E::Es,F,G,i+1,j+1,p,h,e,f,n,hp,m=>by
  rw[fCq,nAq]at h;exact ue h.2.1 (i:=i) (j:=j) (by simpa using e) (by simpa using f) (fun z=>n (by rw[z])) hp m
theorem bC.path:∀{path:List Nat}{av:AV}{v:V}{F:List Addr}{as:List AV},bC K Hf H av v F->F.Nodup->bO av path=some as->∃p vs Gs,xD H v path (.ref p)/\H p=some (.lst vs)/\Hf p=none/\bE K Hf H as vs Gs/\p∈F/\p∉Gs.flatten/\Gs.flatten.Nodup/\(∀q∈Gs.flatten,q∈F) /\
  ∀as' vs' Gs',bE K Hf (cW H p (.lst vs')) as' vs' Gs'->(p::Gs'.flatten).Nodup->(∀q∈Gs'.flatten,q∈Gs.flatten∨q∉F)->∃F',bC K Hf (cW H p (.lst vs')) (putAt av path as') v F'/\F'.Nodup/\∀q∈F',q∈F∨q∈Gs'.flatten
 | [],av,v,F,as,r,nd,e=>by
  cases av with
  |ow avs =>
   cases e;obtain⟨p,vs,Gs,rfl,rfl,h1,h2,h3⟩:=r.ow_inv;have n:=Sm.mp nd;refine⟨p,vs,Gs,rfl,h1,h2,h3,by simp,n.1,n.2,fun q hq=>mCo _ hq,fun as' vs' Gs' r' nd' _=>⟨p::Gs'.flatten,bC.news aR h2 r',nd',fun q hq=>?_⟩⟩
   rcases Si.mp hq with z|z
   .exact .inl (by rw[z];simp)
   .exact .inr z
  |_=>cases e
 |j::js,av,v,F,as,r,nd,e=>by
  cases av with
  |ow avs =>
   obtain⟨a,e1,e2⟩:=oBq.mp (show (avs[j]?).bind (fun a=>bO a js)=some as from e)
   obtain⟨p0,vs0,Gs0,rfl,rfl,h1,h2,h3⟩:=r.ow_inv;have n:=Sm.mp nd;have hj:j<avs.length:=(gSq.mp e1).1;have hv:vs0[j]?=some (vs0[j]'(h3.1 ▸ hj)):=gEg _;have hg:Gs0[j]?=some (Gs0[j]'(h3.2.1 ▸ hj)):=gEg _;generalize vs0[j]'(h3.1 ▸ hj)=vj at hv;generalize Gs0[j]'(h3.2.1 ▸ hj)=Fj at hg;have rj:=h3.2.2 j a vj Fj e1 hv hg;have ndj:Fj.Nodup:=Sy.sublist (SG (mGq hg)) n.2;have sub:∀q∈Fj,q∈Gs0.flatten:=fun q hq=>cu hg hq
   obtain⟨p,vs,Gs,g1,g2,g3,g4,g5,g6,g6',g7,g8⟩:=bC.path rj ndj e2;have pne:p0≠p:=fun z=>n.1 (z ▸ sub p g5)
   refine⟨p,vs,Gs,⟨p0,vs0,vj,rfl,h1,hv,g1⟩,g2,g3,g4,mCo _ (sub p g5),g6,g6',fun q hq=>mCo _ (sub q (g7 q hq)),fun as' vs' Gs' r' nd' hd=>?_⟩
   obtain⟨F',k1,k2,k3⟩:=g8 as' vs' Gs' r' nd' fun q hq=>(hd q hq).imp id fun z m=>z (mCo _ (sub q m))
   have hF':∀q∈F',q∈Fj∨q∉Gs0.flatten:=fun q hq=>by
    rcases k3 q hq with z|z
    .exact .inl z
    .rcases hd q z with y|y
     .exact .inl (g7 q y)
     .exact .inr fun m=>y (mCo _ m)
   refine⟨p0::(Gs0.set j F').flatten,?_,Sm.mpr ⟨fun m=>?_,mI j n.2 hg k2 hF'⟩,fun q hq=>?_⟩
   .show bC K Hf (cW H p (.lst vs')) (match avs[j]? with|some a=>.ow (avs.set j (putAt a js as'))|none=>.ow avs) (.ref p0) _
    rw[e1];refine .ow (vs:=vs0) (by rw[aL pne];exact h1) h2 (by rw[lZq];exact h3.1) (by rw[lZq,lZq];exact h3.2.1) fun i b w G q1 q2 q3=>?_
    rw[TB]at q1 q3
    by_cases hij:j=i
    .subst hij;rw[if_pos rfl,if_pos hj]at q1;rw[if_pos rfl,if_pos (h3.2.1 ▸ hj)]at q3;rw[hv]at q2;cases q1;cases q2;cases q3;exact k1
    .rw [if_neg hij]at q1 q3;exact(h3.2.2 i b w G q1 q2 q3).keepUpd fun m=>ue n.2 hg q3 hij g5 m
   .rcases dZ m with z|z
    .rcases k3 p0 z with y|y
     .exact n.1 (sub p0 y)
     .rcases hd p0 y with x|x
      .exact n.1 (sub p0 (g7 p0 x))
      .exact x (by simp)
    .exact n.1 z
   .rcases Si.mp hq with z|z
    .exact .inl (by rw[z];simp)
    .rcases dZ z with z|z
     .exact (k3 q z).imp (fun y=>mCo _ (sub q y)) id
     .exact .inl (mCo _ z)
  |_=>cases e
theorem bP.turnAny(R:bP K H₀ Hf₀ Hf S σ H Fs) {i:Nat}{av:AV}{p:Addr}{o:HO}{v:V}{F F':List Addr}(s1:σ[i]?=some (some v)) (s2:Fs[i]?=some F) (hp:p∈F) (r:bC K Hf (cW H p o) av v F') (nd:F'.Nodup)
  (hf:∀q∈F',H₀ q=none/\q∉(Fs.set i []).flatten):bP K H₀ Hf₀ Hf (S.set i (some av)) σ (cW H p o) (Fs.set i F'):=by
 have hin:p∈Fs.flatten:=mFq.mpr ⟨F,mGq s2,hp⟩;have pn:Hf p=none:=(R.mem hin).2;have p0:H₀ p=none:=R.fresh p hin;have out:=fW R.nd s2 hp;have R1:bP K H₀ Hf₀ Hf (S.set i none) σ (cW H p o) (Fs.set i []):=by
  refine⟨by simp[R.len],by simp[R.lenF],fun j a ej=>?_,fun j ej=>?_,dS i R.nd Tc (fun p hp=>by cases hp),fun p hp=>R.fresh p (cY hp),fun b u e=>?_,fun b u e=>?_,R.lim,R.sf⟩
  .rw [TB]at ej
   by_cases hij:i=j
   .subst hij;rw[if_pos rfl]at ej;split at ej <;> cases ej
   .rw [if_neg hij]at ej;obtain⟨w,G,f1,f2,q⟩:=R.rep j a ej;refine⟨w,G,f1,by rw[SI hij];exact f2,q.keep (.refl _) (fun c hc=>aL fun e=>out ?_) fun c hc=>(q.owned c hc).2⟩
    subst e;exact mFq.mpr ⟨G,mGq (i:=j) (by rw[SI hij];exact f2),hc⟩
  .rw [TB]at ej
   by_cases hij:i=j
   .subst hij;rw[if_pos rfl]at ej;split at ej
    .rename_i hi;rw[S6 (R.lenF.symm ▸ hi)]
    .cases ej
   .rw [if_neg hij]at ej;rw[SI hij];exact R.emp j ej
  .rw [aL fun z=>by rw[z,pn]at e;cases e]
   exact R.sub b u e
  .rw [aL fun z=>by rw[z,p0]at e;cases e]
   exact R.fr b u e
 exact R1.again (F:=F) s1 r nd hf
theorem bP.kill(R:bP K H₀ Hf₀ Hf S σ H Fs) (x:Nat):bP K H₀ Hf₀ Hf (S.set x none) σ H (Fs.set x []):=by
 refine⟨by simp[R.len],by simp[R.lenF],fun j a ej=>?_,fun j ej=>?_,dS x R.nd Tc (fun p hp=>by cases hp),fun p hp=>R.fresh p (cY hp),R.sub,R.fr,R.lim,R.sf⟩
 .rw [TB]at ej
  by_cases hij:x=j
  .subst hij;rw[if_pos rfl]at ej;split at ej <;> cases ej
  .rw [if_neg hij]at ej;obtain⟨w,G,f1,f2,q⟩:=R.rep j a ej;exact⟨w,G,f1,by rw[SI hij];exact f2,q⟩
 .rw [TB]at ej
  by_cases hij:x=j
  .subst hij;rw[if_pos rfl]at ej;split at ej
   .rename_i hi;rw[S6 (R.lenF.symm ▸ hi)]
   .cases ej
  .rw [if_neg hij]at ej;rw[SI hij];exact R.emp j ej
theorem bP.any(R:bP K H₀ Hf₀ Hf (S.set x none) σ H Fs) (v:V):bP K H₀ Hf₀ Hf (S.set x none) (σ.set x (some v)) H Fs where
 len:=by rw[R.len,lZq]
 lenF:=R.lenF
 rep:=fun i av e=>by
  by_cases hij:x=i
  .subst hij;rw[TB]at e;rw[if_pos rfl]at e;split at e <;> cases e
  .obtain ⟨w,G,f1,f2,q⟩:=R.rep i av e;exact⟨w,G,by rw[SI hij];exact f1,f2,q⟩
 emp:=R.emp
 nd:=R.nd
 fresh:=R.fresh
 sub:=R.sub
 fr:=R.fr
 lim:=R.lim
 sf:=R.sf
end
def FJ(d:D):List AV->Option (List AV)
 | []=>some []
 | .ow as::r=>iR (as.length<cX) ((FJ d r).map (.ow (as++[.sh d]) :: ·))
 |_=>none
def K8(i x:Nat) (d:D):MS:=fun S=>if i=x∨S.length<=x then none else if d.scal=true then (cL S i).bind fun avs=>(FJ d avs).map fun bs=>.nx ((S.set i (some (.ow bs))).set x none) else none
noncomputable abbrev aI(ns:List Int):AV:=.ow (ns.map fun n=>.sh (.int n))
noncomputable def rK:List AV->Option (List Int)
 | []=>some []
 | .sh (.int i)::r=>(rK r).map (i :: ·)
 |_=>none
def sW:List AV->Option (List (List Int))
 | []=>some []
 | .ow as::r=>(rK as).bind fun ns=>(sW r).map (ns :: ·)
 |_=>none
theorem zw:∀{as:List AV}{ns:List Int},rK as=some ns->as=ns.map fun n=>.sh (.int n)
 | [],ns,h=>by cases h;rfl
 |a::as,ns,h=>by
  cases a with
  |sh d =>
   cases d with
   |int i =>
    obtain⟨ms,h1,h2⟩:=oMq.mp (show (rK as).map (i :: ·)=some ns from h)
    subst h2;rw[zw h1];rfl
   |_=>cases h
  |_=>cases h
theorem zH:∀{as:List AV}{rs:List (List Int)},sW as=some rs->as=rs.map aI
 | [],rs,h=>by cases h;rfl
 |a::as,rs,h=>by
  cases a with
  |ow es =>
   obtain⟨r,h1,h⟩:=oBq.mp (show (rK es).bind (fun ns=>(sW as).map (ns :: ·))=some rs from h)
   obtain⟨ts,h2,h3⟩:=oMq.mp h;subst h3;rw[zH h2,zw h1];rfl
  |_=>cases h
@[simp] theorem Dg (ns:List Int):rK (ns.map fun n=>.sh (.int n))=some ns:=by
 induction ns with
 |nil=>rfl
 |cons n ns ih=>show (rK (ns.map fun n=>.sh (.int n))).map (n :: ·)=_;rw[ih];rfl
@[simp] theorem DK (rs:List (List Int)):sW (rs.map aI)=some rs:=by
 induction rs with
 |nil=>rfl
 |cons r rs ih=>show (rK (r.map fun n=>.sh (.int n))).bind (fun ns=>(sW (rs.map aI)).map (ns :: ·))=_;rw[Dg,ih];rfl
def sr(k:MK):MK:=fun S=>(k S).bind fun x=>match x.1 with
 | .ow avs=>(sW avs).map fun rs=>(.ow ((eK rs).map aI),x.2)
 |_=>none
section
variable {K:W.Frag}{Hf H:Hp}
theorem A4{ns:List Int}{v:V}{F:List Addr}(h:bC K Hf H (aI ns) v F):∃p,v = .ref p/\F=[p]/\H p=some (.lst (ns.map V.int))/\Hf p=none:=by
 obtain⟨p,vs,Gs,rfl,rfl,h1,h2,h3⟩:=h.ow_inv;have e:∀{ns:List Int}{vs:List V}{Gs:List (List Addr)},bE K Hf H (ns.map fun n=>AV.sh (.int n)) vs Gs->vs=ns.map V.int/\Gs.flatten=[]:=by
  intro ns
  induction ns with
  |nil =>
   intro vs Gs h;obtain⟨a,b⟩:=h.nil_inv;exact⟨a,by rw[b];rfl⟩
  |cons n ns ih =>
   intro vs Gs h;obtain⟨v,ws,F,Gs',rfl,rfl,r1,r2⟩:=bE.cons_inv (a:=.sh (.int n)) h;obtain⟨f1,f2⟩:=r1.sh_inv;subst f1;cases f2;obtain⟨g1,g2⟩:=ih r2;rw[g1];exact⟨rfl,by rw[fCq,g2];rfl⟩
 obtain⟨e1,e2⟩:=e h3;rw[e2];subst e1;exact⟨p,rfl,rfl,h1,h2⟩
theorem Mc{ns:List Int}{p:Addr}(h1:H p=some (.lst (ns.map V.int))) (h2:Hf p=none):bC K Hf H (aI ns) (.ref p) [p]:=by
 have:=bC.new (K:=K) (Hf:=Hf) (H:=H) (ds:=ns.map D.int) h1 h2 (gR ns);rw[←mS]at this;exact this
theorem mV:∀{rs:List (List Int)}{vs:List V}{Gs:List (List Addr)},bE K Hf H (rs.map aI) vs Gs->∃ps,vs=ps.map V.ref/\Gs=ps.map (fun p=>[p])/\dh H ps rs/\∀p∈ps,Hf p=none
 | [],vs,Gs,h=>by
  obtain⟨a,b⟩:=h.nil_inv;exact⟨[],a,b,.nil,fun p hp=>by cases hp⟩
 |r::rs,vs,Gs,h=>by
  obtain⟨v,ws,F,Gs',rfl,rfl,r1,r2⟩:=bE.cons_inv (a:=aI r) (as:=rs.map aI) h;obtain⟨p,rfl,rfl,h1,h2⟩:=A4 r1;obtain⟨ps,rfl,rfl,h3,h4⟩:=mV r2;exact⟨p::ps,rfl,rfl,dh.cons_iff.mpr ⟨h1,h3⟩,fun q hq=>(Si.mp hq).elim (fun e=>e ▸ h2) (h4 q)⟩
theorem tH:∀{rs:List (List Int)}{ps:List Addr},dh H ps rs->(∀p∈ps,Hf p=none)->bE K Hf H (rs.map aI) (ps.map V.ref) (ps.map fun p=>[p])
 | [],[],_,_=>.nil
 | [],_::_,h,_=>by have:=h.length;simp at this
 |_::_,[],h,_=>by have:=h.length;simp at this
 |r::rs,p::ps,h,n=>by
  obtain⟨h1,h2⟩:=dh.cons_iff.mp h;exact .cons (Mc h1 (n p (by simp))) (tH h2 fun q hq=>n q (mCo _ hq))
theorem yx(ps:List Addr):(ps.map fun p=>[p]).flatten=ps:=by
 induction ps with
 |nil=>rfl
 |cons p ps ih=>rw[Sq,fCq,ih];rfl
theorem wx{te:TE}{k:MK}(hk:SK K te k):SK K (HW (fun xs H Q=>∃(a:Addr) (ps:List Addr) (rs:List (List Int)),xs=[.ref a]/\dP K H a (ps.map V.ref)/\dh H ps rs /\
  ∀p qs,H p=none->qs.Perm ps->dh (cW H p (.lst (qs.map V.ref))) qs (eK rs)->Q (.ref p) (cW H p (.lst (qs.map V.ref)))) (fk te kq)) (sr k):=by
 intro H₀ Hf₀ Hf S σ H Fs av S' R e Q q;obtain⟨x,e1,e⟩:=oBq.mp e;refine hk R (a:=x.1) (S':=x.2) e1 _ fun Hf1 H1 Fs1 v F t1 R1 r1 o1=>?_
 split at e
 .rename_i avs hx;obtain⟨rs,e2,e⟩:=oMq.mp e;cases e;rw[hx,zH e2]at r1;obtain⟨p0,vs,Gs,rfl,rfl,h1,h2,h3⟩:=r1.ow_inv;obtain⟨ps,rfl,rfl,hE,hn⟩:=mV h3;rw[yx]at o1;refine⟨p0,ps,rs,rfl,dP.of h1,hE,fun p qs hp hq hE2=>?_⟩
  obtain⟨t4,R4,n1,n2,n3⟩:=R1.new (o:=.lst (qs.map V.ref)) hp;have pq:p∉qs:=fun m=>hE.free (H:=H1) hp (hq.mem_iff.mp m)
  have hm:∀z∈qs,z∈p0::ps:=fun z hz=>mCo _ (hq.mem_iff.mp hz)
  refine q _ _ _ (.ref p) (p::(qs.map fun p=>[p]).flatten) (t1.trans t4) R4 (bC.news aR n1 (tH hE2 fun z hz=>hn z (hq.mem_iff.mp hz))) ?_
  rw[yx];refine⟨Sm.mpr ⟨pq,hq.nodup_iff.mpr (Sm.mp o1.nd).2⟩,fun z hz=>?_,fun z hz=>?_,fun z hz=>?_⟩
  .rcases Si.mp hz with y|y
   .rw [y];exact n2
   .exact o1.fr z (hm z y)
  .rcases Si.mp hz with y|y
   .rw [y];exact n3
   .exact o1.out z (hm z y)
  .rcases Si.mp hz with y|y
   .rw [y];exact .inl (t1.sh.free hp)
   .exact o1.new z (hm z y)
 .cases e
def ET:AV->Option D
 | .sh d=>if d.scal=true then some d else none
 |_=>none
def cA(f:MF) (a:ML):ME:=fun S=>(a S).bind fun x=>(f x.1).bind fun r=>(ET r).map fun d=>(d,x.2)
theorem cK{f:MF}{ta:TA}{a:ML}(ha:IE K ta a):SR K (zp (bL K f) [] E0 ta) (cA f a):=by
 intro H₀ Hf₀ Hf S σ H Fs d S' R e Q q;obtain⟨x,e1,e⟩:=oBq.mp e;obtain⟨r,e2,e⟩:=oBq.mp e;obtain⟨z,e3,e⟩:=oMq.mp e;cases e;refine ha R (ds:=x.1) (S':=x.2) e1 _ fun Hf1 H1 Fs1 vs t1 R1 r1=>?_
 rw[aNq];refine⟨H1,x.1,r,.refl _,r1,e2,fun Hf' H' v F s1 s2 s3 l rv nd fr=>?_⟩
 have t2:mO Hf1 H1 Fs1 Hf1 H' Fs1:=⟨.refl _,s2,fun _ h=>h,fun b h g=>absurd h g⟩
 cases r with
 |sh d' =>
  simp only[ET]at e3;split at e3
  .rename_i hs;cases e3;exact q _ _ _ v (t1.trans t2) (R1.laid s2) (rv.sh_inv.2.scal hs)
  .cases e3
 |_=>cases e3
end
section
variable (S:AS)
@[simp] theorem Ol (i:Nat):aj i S=(S[i]?.join).map fun a=>(aH a,S):=rfl
@[simp] theorem OP (i:Nat):aK i S=(S[i]?.join).map fun a=>(.sh (aH a),S.set i (some (.sh (aH a)))):=rfl
@[simp] theorem Ph (i:Nat):tO i S=(S[i]?.join).map fun a=>(a,S.set i none):=rfl
@[simp] theorem Qc (k:MK):rOf k S=(k S).map fun x=>(aH x.1,x.2):=rfl
@[simp] theorem Qm (m:ME):kSc m S=(m S).bind fun x=>if x.1.scal then some (.sh x.1,x.2) else none:=rfl
@[simp] theorem Ow (k:MK):gK k S=(k S).map fun x=>(.sh (aH x.1),x.2):=rfl
@[simp] theorem RD (d:D):rC d S=if d.scal then some (d,S) else none:=rfl
@[simp] theorem QY (f:D->D->Option D) (a b:ME):bg f a b S=(a S).bind fun x=>(b x.2).bind fun y=>(f x.1 y.1).map fun d=>(d,y.2):=rfl
@[simp] theorem QS (f:D->Option D) (a:ME):rY f a S=(a S).bind fun x=>(f x.1).map fun d=>(d,x.2):=rfl
@[simp] theorem NQ (a:ME):Ni a S=(a S).bind fun x=>(Ee x.1).map fun d=>(d,x.2):=rfl
@[simp] theorem NY (a b:MT):rR a b S=(a S).bind fun x=>if x.1=true then some (true,x.2) else b x.2:=rfl
@[simp] theorem Ll (a:MT):eQ a S=(a S).map fun x=>(!x.1,x.2):=rfl
noncomputable def Mi:D->Option Bool
 | .bl b=>some b
 |_=>none
@[simp] theorem P5 (a:ME):dN a S=(a S).bind fun x=>(Mi x.1).map fun b=>(b,x.2):=by
 show (a S).bind _=_;congr 1;funext x;obtain⟨d,S'⟩:=x;cases d <;> rfl
@[simp] theorem OW (a b:ME):yi a b S=(a S).bind fun x=>(Mi x.1).bind fun c=>if c=true then b x.2 else some (.bl false,x.2):=by
 show (a S).bind _=_;congr 1;funext x;obtain⟨d,S'⟩:=x;cases d <;> try rfl
 rename_i c;cases c <;> rfl
@[simp] theorem Kc (b:Bool):Mi (.bl b)=some b:=rfl
@[simp] theorem NT:aN S=some ([],S):=rfl
@[simp] theorem Ly (k:MK) (r:MA):aB k r S=(k S).bind fun x=>(r x.2).map fun y=>(x.1::y.1,y.2):=rfl
@[simp] theorem L7:ax S=some ([],S):=rfl
@[simp] theorem Ij (k:ME) (r:ML):ah k r S=(k S).bind fun x=>(r x.2).map fun y=>(x.1::y.1,y.2):=rfl
@[simp] theorem NH (a:MA):dD a S=(a S).bind fun x=>iR (x.1.length<=cX) (some (.ow x.1,x.2)):=rfl
@[simp] theorem OB (a:MA):yk a S=(a S).bind fun x=>iR (x.1.length<=cX) (some (.sh (.tup (x.1.map aH)),x.2)):=rfl
@[simp] theorem NI (a b:ML):Dh a b S=(a S).bind fun x=>(b x.2).bind fun y=>iR (x.1.length+y.1.length<=cX) (some (.ow ((x.1++y.1).map .sh),y.2)):=rfl
@[simp] theorem Lb:og S=some (none,S):=rfl
@[simp] theorem MW (m:ME):jL m S=(m S).bind fun x=>(intOf x.1).map fun i=>(some i,x.2):=by
 show (m S).bind _=_;congr 1;funext x;obtain⟨d,S'⟩:=x;cases d <;> rfl
@[simp] theorem C9 (i:Int):intOf (.int i)=some i:=rfl
@[simp] theorem QV (l:ML) (lo hi:MO):HN l lo hi S=(l S).bind fun x=>(lo x.2).bind fun y=>(hi y.2).map fun z=>(.ow ((lD x.1 y.1 z.1).map .sh),z.2):=rfl
@[simp] theorem QF (l:ML) (b:ME):LI l b S=(l S).bind fun x=>(b x.2).bind fun y=>(intOf y.1).bind fun i=>(atI x.1 i).map fun d=>(.sh d,y.2):=by
 show (l S).bind _=_;congr 1;funext x;show (b x.2).bind _=_;congr 1;funext y;obtain⟨d,S'⟩:=y;cases d <;> rfl
@[simp] theorem P7 (f:List D->Option D) (a:ML):fA f a S=(a S).bind fun x=>(f x.1).map fun d=>(d,x.2):=rfl
@[simp] theorem MY (f:MF) (a:MA):bj f a S=(a S).bind fun x=>(f (x.1.map aH)).map fun r=>(r,x.2):=rfl
@[simp] theorem Lk (f:MF) (a:ML):cA f a S=(a S).bind fun x=>(f x.1).bind fun r=>(ET r).map fun d=>(d,x.2):=rfl
@[simp] theorem KW:bD S=some (.nx S):=rfl
def Gm(o:Option By) (b:MS):Option By:=o.bind fun o=>match o with
 | .nx S'=>b S'
 |o=>some o
@[simp] theorem Fh (b:MS):Gm (some (.nx S)) b=b S:=rfl
@[simp] theorem FX (a:AV) (b:MS):Gm (some (.rt a)) b=some (.rt a):=rfl
@[simp] theorem O0 (a b:MS):aC a b S=Gm (a S) b:=rfl
@[simp] theorem N8 (i:Nat) (k:MK):aO i k S=(k S).map fun x=>.nx (x.2.set i (some x.1)):=rfl
@[simp] theorem NZ (k:MK):cI k S=(k S).map fun x=>.rt x.1:=rfl
@[simp] theorem QG (c:MT) (a b:MS):jM c a b S=(c S).bind fun x=>if x.1=true then a x.2 else b x.2:=rfl
@[simp] theorem NS (i:Nat) (k:MK):kJ i k S=(cL S i).bind fun _=>(k S).bind fun x=>(cL x.2 i).bind fun avs=>iR (avs.length<cX) (some (.nx (x.2.set i (some (.ow (avs++[x.1])))))):=rfl
@[simp] theorem NB (i:Nat) (l:ML):Bn i l S=(cL S i).bind fun _=>(l S).bind fun x=>(cL x.2 i).bind fun avs=>iR (avs.length+x.1.length<=cX) (some (.nx (x.2.set i (some (.ow (avs++x.1.map .sh)))))):=rfl
@[simp] theorem Lg (i:Nat) (b:ME) (k:MK):kQ i b k S=(gK k S).bind fun x=>(iM x.2 i).bind fun _=>(b x.2).bind fun y=>(iM y.2 i).bind fun kvs=>(iz y.1).bind fun key =>
 iR (kvs.length<cX) (some (.nx (y.2.set i (some (.owd (mN kvs key (aH x.1))))))):=rfl
noncomputable def dictOf:D->Option (List (aX×D))
 | .dict kvs=>some kvs
 |_=>none
@[simp] theorem yy (kvs:List (aX×D)):dictOf (.dict kvs)=some kvs:=rfl
@[simp] theorem CL (i:Int):iz (.int i)=some (.inl i):=rfl
@[simp] theorem GJ (a b:ME):eI a b S=(a S).bind fun x=>(b x.2).bind fun y=>(dictOf y.1).bind fun kvs=>(iz x.1).map fun key=>(.bl (!(getD kvs key).isSome),y.2):=by
 show (a S).bind _=_;congr 1;funext x;show (b x.2).bind _=_;congr 1;funext y;obtain⟨d,S'⟩:=y;cases d <;> rfl
@[simp] theorem KS (a b:ME):vY a b S=(a S).bind fun x=>(b x.2).bind fun y=>(dictOf x.1).bind fun kvs=>(iz y.1).bind fun key=>(getD kvs key).map fun d=>(d,y.2):=by
 show (a S).bind _=_;congr 1;funext x;show (b x.2).bind _=_;congr 1;funext y;obtain⟨d,S'⟩:=x;cases d <;> rfl
@[simp] theorem Lx:kG S=some (.owd [],S):=rfl
@[simp] theorem O6 (x:Nat) (k:MK) (body:MS):ni x k body S=(gK k S).bind fun y=>(eG (aH y.1)).bind fun ds=>dg x body ds y.2:=rfl
@[simp] theorem HY (x:Nat) (a:ML) (body:MS):qL x a body S=(a S).bind fun y=>(vq y.1).bind fun ds=>dg x body ds y.2:=rfl
@[simp] theorem Mb (x y:Nat) (k:MK) (body:MS):FP x y k body S=(gK k S).bind fun z=>(eG (aH z.1)).bind fun ds=>qG x y body 0 ds z.2:=rfl
@[simp] theorem Mk (x y:Nat) (k l:MK) (body:MS):Fl x y k l body S=(gK k S).bind fun z=>(gK l z.2).bind fun w=>(eG (aH z.1)).bind fun ds=>(eG (aH w.1)).bind fun es =>
 if ds.length=es.length then oT x y body ds es w.2 else none:=rfl
@[simp] theorem M4 (src:MI) (fr:List Nat) (tf:MT) (te:MK):gu src fr tf te S=(src S).bind fun y=>(fzAll fr y.2).bind fun S2=>(wV S2 fr).bind fun cap=>iR (y.1.length<=cX) ((dJ tf te cap y.1).map fun avs=>(.ow avs,S2)):=rfl
@[simp] theorem O9 (k:MK):oa k S=(gK k S).bind fun y=>(eG (aH y.1)).map fun ds=>(ds,y.2):=rfl
@[simp] theorem Qv (a:ML):PY a S=(a S).bind fun y=>(vq y.1).map fun ds=>(ds,y.2):=rfl
@[simp] theorem Di:fzAll [] S=some S:=rfl
@[simp] theorem Bc (j:Nat) (js:List Nat):fzAll (j::js) S=(S[j]?.join).bind fun a=>fzAll js (S.set j (some (.sh (aH a)))):=rfl
@[simp] theorem Gw:wV S []=some []:=rfl
@[simp] theorem DJ (j:Nat) (js:List Nat):wV S (j::js)=(Nc S[j]?.join).bind fun a=>(wV S js).map (some a :: ·):=rfl
@[simp] theorem Mv (l:ML):kM l S=(l S).map fun x=>(.ow (x.1.map .sh),x.2):=rfl
@[simp] theorem IP (l:ML):AO l S=(l S).bind fun x=>(dG x.1).map fun ns=>(.ow ((ff ns).map fun n=>.sh (.int n)),x.2):=rfl
noncomputable def K1:AV->Option (List AV)
 | .ow avs=>some avs
 |_=>none
@[simp] theorem IB (avs:List AV):K1 (.ow avs)=some avs:=rfl
@[simp] theorem Gu (k:MK):sr k S=(k S).bind fun x=>(K1 x.1).bind fun avs=>(sW avs).map fun rs=>(.ow ((eK rs).map aI),x.2):=by
 show (k S).bind _=_;congr 1;funext x;obtain⟨d,S'⟩:=x;cases d <;> rfl
@[simp] theorem Qw (T:String) (f:D->List D->Option D) (a:ME) (as:ML):PN T f a as S=(a S).bind fun x=>if O7 T x.1=true then (as x.2).bind fun y=>(f x.1 y.1).map fun d=>(d,y.2) else none:=rfl
noncomputable def BG:D->Option (List D)
 | .list ds=>some ds
 |_=>none
@[simp] theorem Aq (ds:List D):BG (.list ds)=some ds:=rfl
@[simp] theorem Pi (a:ME):sX a S=(a S).bind fun x=>(qH x.1).map fun b=>(b,x.2):=rfl
noncomputable def Ov:AV->Option (List D)
 | .sh (.list ds)=>some ds
 | .ow avs=>some (avs.map aH)
 |_=>none
@[simp] theorem LJ (ds:List D):Ov (.sh (.list ds))=some ds:=rfl
@[simp] theorem LX (avs:List AV):Ov (.ow avs)=some (avs.map aH):=rfl
@[simp] theorem P4 (k:MK):lOf k S=(k S).bind fun x=>(Ov x.1).map fun ds=>(ds,x.2):=by
 show (k S).bind _=_;congr 1;funext x;obtain⟨a,S'⟩:=x;cases a with
 |sh d=>cases d <;> rfl
 |_=>rfl
end
noncomputable def PK:AV->AV
 | .ow avs=>.ow ((avs.map aH).map .sh)
 |a=>a
@[simp] theorem K2 (d:D):PK (.sh d) = .sh d:=rfl
@[simp] theorem Ml (avs:List AV):PK (.ow avs) = .ow ((avs.map aH).map .sh):=rfl
theorem tP{S:AS}{i:Nat}{a:AV}(h:S[i]?=some (some a)):S.set i (some a)=S:=by
 obtain⟨hk,ev⟩:=gSq.mp h;rw[←ev];exact VB hk
@[simp] theorem OH (S:AS) (i:Nat):qo i S=(S[i]?.join).bind fun a=>(Ov a).map fun ds=>(ds,S.set i (some (PK a))):=by
 unfold qo;cases e:S[i]?.join with
 |none=>rfl
 |some a =>
  cases a with
  |sh d =>
   cases d with
   |list ds =>
    show some (ds,S)=some (ds,S.set i (some (.sh (.list ds))));rw[tP (bN e)]
   |_=>rfl
  |ow avs=>rfl
  |owd kvs=>rfl
def PM:AV->Option (List D)
 | .sh (.scr ns)=>some (ns.map .int)
 |a=>Ov a
@[simp] theorem Ji (ns:List Int):PM (.sh (.scr ns))=some (ns.map .int):=rfl
@[simp] theorem MD (ds:List D):PM (.sh (.list ds))=some ds:=rfl
@[simp] theorem M3 (avs:List AV):PM (.ow avs)=some (avs.map aH):=rfl
@[simp] theorem OY (S:AS) (i:Nat):gY i S=(S[i]?.join).bind fun a=>(PM a).map fun ds=>(ds,S.set i (some (PK a))):=by
 unfold gY;cases e:S[i]?.join with
 |none=>rfl
 |some a =>
  cases a with
  |sh d =>
   cases d with
   |list ds =>
    show some (ds,S)=some (ds,S.set i (some (.sh (.list ds))));rw[tP (bN e)]
   |scr ns =>
    show some (ns.map D.int,S)=some (ns.map D.int,S.set i (some (.sh (.scr ns))));rw[tP (bN e)]
   |_=>rfl
  |ow avs=>rfl
  |owd kvs=>rfl
@[simp] theorem Fk (i:Int):(D.int i).scal=true:=rfl
@[simp] theorem Ia (i:Bool):(D.bl i).scal=true:=rfl
@[simp] theorem Ho:D.non.scal=true:=rfl
@[simp] theorem JU (i:String):(D.ty i).scal=true:=rfl
@[simp] theorem EV (i:Int):ET (.sh (.int i))=some (.int i):=rfl
@[simp] theorem Jh (i:Bool):ET (.sh (.bl i))=some (.bl i):=rfl
@[simp] theorem HX (i j:Int):xZ (.int i) (.int j)=some (.bl (decide (i=j))):=rfl
@[simp] theorem Iw (i j:Str):xZ (.str i) (.str j)=some (.bl (decide (i=j))):=rfl
@[simp] theorem JW (b:Bool):Ee (.bl b)=some (.bl (!b)):=rfl
@[simp] theorem J3 (i j:Int):Dr (.int i) (.int j)=some (.bl (!decide (i=j))):=rfl
@[simp] theorem Dw (ds:List D):cS [.list ds]=some (.int ds.length):=rfl
@[simp] theorem Hj (ns:List Int):cS [.scr ns]=some (.int ns.length):=rfl
@[simp] theorem Fx (ds:List D):cS [.tup ds]=some (.int ds.length):=rfl
@[simp] theorem wG (ds:List D):eG (.list ds)=some ds:=rfl
@[simp] theorem G7 (ds:List D) (i:Int):AX (.list ds) (.int i)=atI ds i:=rfl
@[simp] theorem IC (ns:List Int) (i:Int):AX (.scr ns) (.int i)=(atI ns i).map .int:=rfl
@[simp] theorem HZ (d:D):Nc (some (.sh d))=some (.sh d):=rfl
@[simp] theorem FH (ds:List D):O7 "list" (.list ds)=true:=rfl
theorem J8(S:AS) (i:Nat):cL S i=(S[i]?.join).bind K1:=by
 unfold cL;cases S[i]?.join with
 |none=>rfl
 |some a=>cases a <;> rfl
noncomputable def Kq:AV->Option (List (aX×D))
 | .owd kvs=>some kvs
 |_=>none
@[simp] theorem C0 (kvs:List (aX×D)):Kq (.owd kvs)=some kvs:=rfl
theorem Hn(S:AS) (i:Nat):iM S i=(S[i]?.join).bind Kq:=by
 unfold iM;cases S[i]?.join with
 |none=>rfl
 |some a=>cases a <;> rfl
theorem yq{x:Nat}{body:MS}(P:Nat->AS->Prop):∀{ds:List D}{S:AS}{k:Nat},P k S->(∀i d S,ds[i]?=some d->P (k+i) S->∃S',(body (S.set x (some (.sh d)))=some (.nx S')∨body (S.set x (some (.sh d)))=some (.ct S'))/\P (k+i+1) S')->∃S',dg x body ds S=some (.nx S')/\P (k+ds.length) S'
 | [],S,k,h0,_=>⟨S,rfl,h0⟩
 |d::ds,S,k,h0,hs=>by
  obtain⟨S',e,h1⟩:=hs 0 d S rfl h0;have hs':∀i d S,ds[i]?=some d->P (k+1+i) S->∃S',(body (S.set x (some (.sh d)))=some (.nx S')∨body (S.set x (some (.sh d)))=some (.ct S'))/\P (k+1+i+1) S':=fun i d S h p=>by
   have:=hs (i+1) d S (by simpa using h) (by rw[show k+(i+1)=k+1+i by lia];exact p)
   rw[show k+(i+1)=k+1+i by lia]at this
   exact this
  obtain⟨S2,e2,h2⟩:=yq P (k:=k+1) h1 hs';refine⟨S2,?_,by rw[lCq,show k+(ds.length+1)=k+1+ds.length by lia];exact h2⟩
  show (body _).bind _=_;rcases e with e|e <;> (rw[e];exact e2)
theorem fS{x:Nat}{body:MS}(P:Nat->AS->Prop) {ds:List D}{S:AS}(h0:P 0 S) (hs:∀i d S,ds[i]?=some d->P i S->∃S',body (S.set x (some (.sh d)))=some (.nx S')/\P (i+1) S'):∃S',dg x body ds S=some (.nx S')/\P ds.length S':=by
 have:=yq (x:=x) (body:=body) P (ds:=ds) (k:=0) h0 fun i d S h p=>by
  rw[T1]at p ⊢;obtain⟨S',e,q⟩:=hs i d S h p;exact⟨S',.inl e,q⟩
 rw[T1]at this;exact this
theorem KD{x y:Nat}{body:MS}(P:Nat->AS->Prop):∀{ds:List D}{S:AS}{k:Nat},P k S->(∀i d S,ds[i]?=some d->P (k+i) S->∃S',body ((S.set x (some (.sh (.int (k+i:Nat))))).set y (some (.sh d)))=some (.nx S')/\P (k+i+1) S')->∃S',qG x y body k ds S=some (.nx S')/\P (k+ds.length) S'
 | [],S,k,h0,_=>⟨S,rfl,h0⟩
 |d::ds,S,k,h0,hs=>by
  obtain⟨S',e,h1⟩:=hs 0 d S rfl h0;have hs':∀i d S,ds[i]?=some d->P (k+1+i) S->∃S',body ((S.set x (some (.sh (.int (k+1+i:Nat))))).set y (some (.sh d)))=some (.nx S')/\P (k+1+i+1) S':=fun i d S h p=>by
   have:=hs (i+1) d S (by simpa using h) (by rw[show k+(i+1)=k+1+i by lia];exact p)
   rw[show k+(i+1)=k+1+i by lia]at this
   exact this
  obtain⟨S2,e2,h2⟩:=KD P (k:=k+1) h1 hs';refine⟨S2,?_,by rw[lCq,show k+(ds.length+1)=k+1+ds.length by lia];exact h2⟩
  show (body ((S.set x (some (.sh (.int (k:Nat))))).set y (some (.sh d)))).bind _=_;rw[WK]at e;rw[e];exact e2
theorem KI{x y:Nat}{body:MS}(P:Nat->AS->Prop):∀{ds es:List D}{S:AS}{k:Nat},ds.length=es.length->P k S->(∀i d e S,ds[i]?=some d->es[i]?=some e->P (k+i) S->∃S',body ((S.set x (some (.sh d))).set y (some (.sh e)))=some (.nx S')/\P (k+i+1) S')->∃S',oT x y body ds es S=some (.nx S')/\P (k+ds.length) S'
 | [],[],S,k,_,h0,_=>⟨S,rfl,h0⟩
 | [],_::_,S,k,hl,_,_=>by simp at hl
 |_::_,[],S,k,hl,_,_=>by simp at hl
 |d::ds,b::es,S,k,hl,h0,hs=>by
  obtain⟨S',e,h1⟩:=hs 0 d b S rfl rfl h0;have hs':∀i d e S,ds[i]?=some d->es[i]?=some e->P (k+1+i) S->∃S',body ((S.set x (some (.sh d))).set y (some (.sh e)))=some (.nx S')/\P (k+1+i+1) S':=fun i d e S h h' p=>by
   have:=hs (i+1) d e S (by simpa using h) (by simpa using h') (by rw[show k+(i+1)=k+1+i by lia];exact p)
   rw[show k+(i+1)=k+1+i by lia]at this
   exact this
  obtain⟨S2,e2,h2⟩:=KI P (k:=k+1) (by simpa using hl) h1 hs'
  refine⟨S2,?_,by rw[lCq,show k+(ds.length+1)=k+1+ds.length by lia];exact h2⟩
  show (body _).bind _=_;rw[e];exact e2
theorem iw{te:MK}{cap:AS}(g:D->AV):∀{ds:List D},(∀d∈ds,∃S',te (some (.sh d)::cap)=some (g d,S'))->dJ ft te cap ds=some (ds.map g)
 | [],_=>rfl
 |d::ds,h=>by
  obtain⟨S',e⟩:=h d (by simp)
  show (te (some (.sh d)::cap)).bind (fun a=>(dJ ft te cap ds).map (a.1 :: ·))=_
  rw[e,iw g fun x hx=>h x (mCo _ hx)]
  rfl
theorem iD{tf:MT}{te:MK}{cap:AS}(p:D->Bool) (g:D->AV):∀{ds:List D},(∀d∈ds,∃S1,tf (some (.sh d)::cap)=some (p d,S1)/\(p d=true->∃S',te S1=some (g d,S')))->dJ tf te cap ds=some ((ds.filter p).map g)
 | [],_=>rfl
 |d::ds,h=>by
  obtain⟨S1,e1,e2⟩:=h d (by simp)
  have ih:=iD (tf:=tf) (te:=te) (cap:=cap) p g fun x hx=>h x (mCo _ hx)
  show (tf (some (.sh d)::cap)).bind _=_;rw[e1];show (if p d=true then _ else _)=_
  by_cases c:p d=true
  .obtain ⟨S',e3⟩:=e2 c;rw[if_pos c,e3,Tt c];show (dJ tf te cap ds).map _=_;rw[ih];rfl
  .rw [if_neg c,Tz c,ih]
theorem kL{α β:Type}(f:α->β) (xs:List α) (lo hi:Option Int):lD (xs.map f) lo hi=(lD xs lo hi).map f:=by
 unfold lD;rw[lMq,VY,Xg]
theorem qP{α:Type}(xs:List α) (i:Nat) (h:i<=xs.length):lD xs (some (i:Int)) none=xs.drop i:=by
 unfold lD;rw[HT.sU,HT.yI,U5 h,Ue (by rw[SE];exact Sg _)]
theorem xN{α:Type}(xs:List α) (i:Nat) (h:i<=xs.length):lD xs none (some (i:Int))=xs.take i:=by
 unfold lD;rw[HT.sU,HT.yI,U5 h,Vn,Nat.sub_zero]
theorem Gy{α:Type}(xs:List α) (i j:Nat):lD xs (some (i:Int)) (some (j:Int))=(xs.drop i).take (j-i):=by
 unfold lD;rw[HT.sU,HT.sU]
 by_cases h:i<=xs.length
 .rw [U5 h]
  by_cases h2:j<=xs.length
  .rw [U5 h2]
  .rw [WX (by lia),Ue (by rw[SE];exact Sg _),Ue (by rw[SE];lia)]
 .have e:min i xs.length=xs.length:=WX (by lia)
  rw[e,Vu (Sg xs.length),Vu (show xs.length<=i by lia)]
  simp
theorem xO{α:Type}{xs:List α}{i:Int}(h0:0<=i):atI xs i=xs[i.toNat]?:=by
 unfold atI xf;rw[if_pos h0]
 by_cases h:i<xs.length
 .rw [if_pos h];rfl
 .rw [if_neg h,S0 (by lia)]
  rfl
theorem Ie{α β:Type}(f:α->β) (xs:List α) (i:Int):atI (xs.map f) i=(atI xs i).map f:=by
 unfold atI;rw[lMq];cases xf xs.length i with
 |none=>rfl
 |some j=>show (xs.map f)[j]?=_;rw[gMq];rfl
theorem BA{n:Nat}{i:Nat}(h:i<n):xf n (i:Int)=some i:=by
 unfold xf;rw[if_pos (by lia),if_pos (by lia)]
 simp
theorem sS(ns:List Int):(ns.map D.int).map AV.sh=ns.map fun n=>AV.sh (.int n):=by rw[mPq];rfl
theorem xo(ns:List Int):(ns.map fun n=>AV.sh (.int n)).map aH=ns.map D.int:=by rw[mPq];exact mCq fun n _=>by simp
theorem JE(rs:List (List Int)):(rs.map aI).map aH=rs.map dI:=by
 rw[mPq];refine mCq fun r _=>?_
 show aH (.ow (r.map fun n=>AV.sh (.int n)))=_
 rw[dR,xo]
theorem B9(rs:List (List Int)):(rs.map dI).map AV.sh=rs.map fun r=>AV.sh (dI r):=by rw[mPq];rfl
theorem BX(rs:List (List Int)):(rs.map fun r=>AV.sh (dI r)).map aH=rs.map dI:=by rw[mPq];exact mCq fun n _=>by simp
theorem bu(ns:List Int):aH (aI ns)=dI ns:=by
 show aH (.ow (ns.map fun n=>AV.sh (.int n)))=_
 rw[dR,xo]
theorem JQ(i j:Int):gW (.int i) (.int j)=some (.int (i+j)):=kS _
theorem Jc(i j:Int):rV (.int i) (.int j)=some (.int (i-j)):=kS _
theorem MV(i j:Int):zz (.int i) (.int j)=some (.bl (decide (i<j))):=kS _
theorem Mt(i j:Int):Er (.int i) (.int j)=some (.bl (decide (j<i))):=kS _
theorem Lv(i:Int):jb (.int i)=some (.int (-i)):=rfl
theorem Rf:rX (.int 10) (.int 58)=some (.int (10 ^ 58)):=hX ⟨by decide,by decide,by decide⟩ _
theorem P9:rX (.int 10) (.int 59)=some (.int (10 ^ 59)):=hX ⟨by decide,by decide,by decide⟩ _
theorem RT:rX (.int 10) (.int 57)=some (.int (10 ^ 57)):=hX ⟨by decide,by decide,by decide⟩ _
theorem EU{i j:Int}(h1:-(2 ^ 64)<i) (h2:i<2 ^ 64):mM (.int i) (.int j)=some (.int (i*j)):=hX (.inl ⟨h1,h2⟩) _
theorem OV{i j:Int}(h1:-(2 ^ 64)<j) (h2:j<2 ^ 64):mM (.int i) (.int j)=some (.int (i*j)):=hX (.inr ⟨h1,h2⟩) _
theorem fe{i j:Int}(h:0<j):iE (.int i) (.int j)=some (.int (i % j)):=hX h _
theorem mG{i j:Int}(h:0<j) (h2:j<1073741824):nh (.int i) (.int j)=some (.int (i / j)):=hX ⟨h,h2⟩ _
theorem NC:(0:Nat)<=cX:=by decide
theorem N7:(1:Nat)<=cX:=by decide
theorem Oh:(2:Nat)<=cX:=by decide
theorem N0:(4:Nat)<=cX:=by decide
theorem Pd:(5:Nat)<=cX:=by decide
theorem mU{n:Nat}(h:n<=16777216):n<=cX:=h
theorem E5{n:Nat}(h:n<16777216):n<cX:=h
theorem mC{n:Nat}(h:n<1000000):vq [.int (n:Int)]=some (cm 0 n):=by
 have e:vq [.int (n:Int)]=some (cm 0 (n:Int).toNat):=hX ⟨by lia,by lia⟩ _
 rw[e,Ub]
theorem rM(n:Nat):cm 0 n=(To n).map fun i:Nat=>D.int i:=by
 unfold cm;exact mCq fun i _=>by rw[WM]
theorem OM(np n:Nat) (m:MS) (ds:List D):fi np n m ds=if ds.length=np then (m (ds.map (fun d=>some (.sh d))++S9 (n-ds.length) none)).bind fun o=>match o with
  | .rt a=>some a
  | .nx _=>some (.sh .non)
  |_=>none
 else none:=rfl
def zq:=Sf @Z.kS (Sf @Z.NC (Sf @Z.N7 (Sf @Z.Oh (Sf @Z.N0 (Sf @Z.Pd (Sf @Z.Ol (Sf @Z.OP (Sf @Z.Ph (Sf @Z.Qc (Sf @Z.Qm (Sf @Z.Ow (Sf @Z.RD (Sf @Z.QY (Sf @Z.QS (Sf @Z.NQ (Sf @Z.NY (Sf @Z.Ll (Sf @Z.P5 (Sf @Z.OW (Sf @Z.Kc (Sf @Z.NT (Sf @Z.Ly (Sf @Z.L7 (Sf @Z.Ij (Sf @Z.NH (Sf @Z.OB (Sf @Z.NI (Sf @Z.Lb (Sf @Z.MW (Sf @Z.C9 (Sf @Z.QV (Sf @Z.QF (Sf @Z.P7 (Sf @Z.MY (Sf @Z.Lk (Sf @Z.KW (Sf @Z.Fh (Sf @Z.FX (Sf @Z.O0 (Sf @Z.N8 (Sf @Z.NZ (Sf @Z.QG (Sf @Z.NS (Sf @Z.NB (Sf @Z.Lg (Sf @Z.yy (Sf @Z.CL (Sf @Z.GJ (Sf @Z.KS (Sf @Z.Lx (Sf @Z.O6 (Sf @Z.HY (Sf @Z.Mb (Sf @Z.Mk (Sf @Z.M4 (Sf @Z.O9 (Sf @Z.Qv (Sf @Z.Di (Sf @Z.Bc (Sf @Z.Gw (Sf @Z.DJ (Sf @Z.Mv (Sf @Z.IP (Sf @Z.IB (Sf @Z.Gu (Sf @Z.Qw (Sf @Z.Aq (Sf @Z.Pi (Sf @Z.LJ (Sf @Z.LX (Sf @Z.P4 (Sf @Z.K2 (Sf @Z.Ml (Sf @Z.OH (Sf @Z.Ji (Sf @Z.MD (Sf @Z.M3 (Sf @Z.OY (Sf @Z.Fk (Sf @Z.Ia (Sf @Z.Ho (Sf @Z.JU (Sf @Z.EV (Sf @Z.Jh (Sf @Z.JQ (Sf @Z.Jc (Sf @Z.MV (Sf @Z.Mt (Sf @Z.Lv (Sf @Z.RT (Sf @Z.Rf (Sf @Z.P9 (Sf @Z.sS (Sf @Z.xo (Sf @Z.JE (Sf @Z.B9 (Sf @Z.BX (Sf @Z.HX (Sf @Z.Iw (Sf @Z.JW (Sf @Z.J3 (Sf @Z.Dw (Sf @Z.Hj (Sf @Z.Fx (Sf @Z.wG (Sf @Z.G7 (Sf @Z.IC (Sf @Z.HZ (Sf @Z.FH (Sf @Z.J8 (Sf @Z.Hn (Sf @Z.C0 (Sf @Z.ef (Sf @Z.dR (Sf @Z.qK (Sf @Z.OM (Sf @Z.eP (Sf @Z.DK (Sf @List.getElem?_cons_zero.{0} (Sf @List.getElem?_cons_succ.{0} (Sf @List.set_cons_zero.{0} (Sf @List.set_cons_succ.{0} (Sf @Option.join_some.{0} (Sf @Option.map_some.{0, 0} (Sf @Option.bind_some.{0, 0} (Sf @List.length_cons.{0} (Sf @List.length_nil.{0} (Sf @List.map_cons.{0, 0} (Sf @List.map_nil.{0, 0} (Sf @List.nil_append.{0} (Sf @List.cons_append.{0} (Sf @List.length_map.{0, 0} (Sf @Bool.not_true (Sf @Bool.not_false (Sf @Bool.false_eq_true (Sf @decide_true (Sf @decide_false (Sf @Nat.zero_add (Sf @List.replicate_zero.{0} @List.append_nil.{0})))))))))))))))))))))))))))))))))))))))))))))))))))))))))))))))))))))))))))))))))))))))))))))))))))))))))))))))))))))))))))))))))))))))))))
theorem Jm{K:W.Frag}{f:MF}(h:∀ns:List Int,ns.length<=63->f [.scr ns]=some (.sh (.bl true))):∀vs H Q E,CB K vs H Q E->bL K f vs H Q E:=by
 rintro vs H Q E ⟨a,ns,rfl,hS,hl,q⟩;refine⟨H,[.scr ns],_,.refl _,.cons (.scr hS) .nil,h ns hl,fun Hf' H' v F _ _ _ _ r _ _=>?_⟩
 cases r.sh_inv.2;exact q H'
end Z
namespace Mr
open PySem PySem.Spec PyProof.Rows L2
section
variable {X:Cx}{tg:Expr}
def zU{α:Type}(P:α->Prop):List α->Prop
 | []=>True
 |a::l=>P a/\zU P l
theorem zU.mem{α:Type}{P:α->Prop}:∀{l:List α},zU P l->∀a∈l,P a
 | [],_,a,h=>by cases h
 |b::l,hp,a,h=>(Si.mp h).elim (fun e=>e ▸ hp.1) (zU.mem hp.2 a)
theorem gM.of{scope:Scope}{cl:List (Str×Addr)}{x:Str}{N:List Str}{fr:List Nat}(h1:N.Nodup) (h2:N[0]?=some x) (h3:N.length=fr.length+1)
  (h4:zU (fun p=>X.env.cells.lookup p.1=some p.2) cl) (h5:zU (fun p=>(p.2 = .cell∨p.2 = .free)->∃c,cl.lookup p.1=some c) (relabel scope X.env).names)
  (h6:zU (fun p=>X.N[p.1]?=some p.2/\X.env.scope.names.lookup p.2=some .cell/\(relabel scope X.env).names.lookup p.2=some .cell) (fr.zip (N.drop 1))):gM X scope cl x N fr where
 names:=h1
 own:=h2
 len:=h3
 sub:=fun y c e=>h4.mem (y,c) (PySem.mem_of_lookup e)
 has:=fun y e=>by
  rcases e with e|e
  .exact h5.mem _ (PySem.mem_of_lookup e) (.inl rfl)
  .exact h5.mem _ (PySem.mem_of_lookup e) (.inr rfl)
 get:=fun k j y e1 e2=>by
  have hm:(j,y)∈fr.zip (N.drop 1):=by
   refine mGq (i:=k) ?_;rw[VZ];exact⟨e1,by rw[U2,Wb];exact e2⟩
  exact h6.mem _ hm
end
end Mr
namespace Z
open PySem L2 Mr
end Z
namespace Mr
open PySem PySem.W PySem.Spec PyProof.Rows L2
abbrev g2(K:W.Frag):TG:=C8 K 2 (nB (eD 0) (nB (eD 1) Ds))
end Mr
namespace Mr
open PySem L2
end Mr
namespace Xe
open PySem PySem.Spec PySem.W PyProof.Rows L2 Mr
section
variable {X:Cx}
def OE(o:Obj) (d:Addr) (kvs:List (aX×V)):It :=
  ⟨fun i H=>H d=some (.frz o (.dK kvs))/\∃p,kvs[i]?=some p,
   fun i H x H'=>H'=H/\∃p,kvs[i]?=some p/\x=kV p.1,
   fun i H=>H d=some (.frz o (.dK kvs))/\kvs.length<=i⟩
theorem El{P:Program}{w:World}{K:Frag}{tg:Expr}(o:Obj) (d it:Addr) (kvs:List (aX×V)) (vs:List (aX×Value)) (ep:Nat) (hne:d≠it)
  (ho:∀h:Heap,h.get? d=some o->h.DictAt (cT P w) d vs ep) (kv:KV kvs vs):Ag P w K tg (OE o d kvs) [it] it (fun i h=>h.IsKeyIter it d i vs.length ep) where
 mem:=by simp
 obj:=fun i h st b hb=>by
  have e:b=it:=by simpa using hb
  subst e;obtain⟨o',e,c,dd⟩:=st;exact⟨o',e,fun v z=>by rw[dd]at z;cases z⟩
 keep:=fun i h h' st k=>by
  obtain⟨o',e,c,dd⟩:=st;exact⟨o',k it (by simp) _ e,c,dd⟩
 item:=by
  intro X hP hw hK hc i ab s σ H E I hf st hg;subst hP hw hK;obtain⟨hd,p,hp⟩:=hg;have e1:s.heap.get? d=some o:=(show dA X.prog X.w H s.heap d (.frz o (.dK kvs)) from I.hok d _ hd).1
  obtain⟨u,hx,ru⟩:=kv_get kv hp;obtain⟨f0,f1,f2,f3,f4,f5⟩:=hf it (by simp)
  refine wpAny_pyNext_dict_item st (ho _ e1) hx fun key h' hkey st' sb=>?_
  have I1:L2.Inv X ab σ H { s with heap:=h' }:=I.turned (t':=s.toks) (fun b o hb e=>(sb.2 b hb).trans e) f0 f1 f3 f4 f5
  have rk:cx (kV p.1) key:=by
   rcases cR hkey with ⟨j,t,e,rfl⟩|⟨z,t,e,rfl⟩
   .rw [e];exact⟨t,rfl⟩
   .rw [e];exact⟨t,rfl⟩
  obtain⟨o',e,c,dd⟩:=id st';exact⟨key,rfl,HF (s:={ s with heap:=h' }) e c dd (by decide) ⟨_,H,I1,rk,⟨rfl,p,hp,rfl⟩,st',fun b hb=>(hf b hb).1⟩⟩
 done:=by
  intro X hP hw hK hc i ab s σ H E I hf st hg;subst hP hw hK;obtain⟨hd,hl⟩:=hg;have e1:s.heap.get? d=some o:=(show dA X.prog X.w H s.heap d (.frz o (.dK kvs)) from I.hok d _ hd).1
  have l:=Paired.length kv;obtain⟨f0,f1,f2,f3,f4,f5⟩:=hf it (by simp)
  exact wpAny_pyNext_dict_end (I.ok.hd hc) st (ho _ e1) (S0 (by lia)) fun h' eb=>⟨rfl,I.turned (t':=s.toks) (fun b o hb e=>eb b o hb e) f0 f1 f3 f4 f5⟩
 self:=fun _ _ _ _ _ st h=>wpAny_pyIter_keyiter st h
def Ky(te:TE):TI:=fun σ H R=>te σ H fun x H1=>∃d kvs,x = .ref d/\H1 d=some (.dK kvs)/\∀o,R (OE o d kvs) (cW H1 d (.frz o (.dK kvs)))
theorem BL{tg o:Expr}{te:TE}(ho:PE X o te):PI X tg o (Ky te):=by
 intro ab s σ H R I h;refine eE (ho ab s σ H _ I h) fun v s1 ⟨x,H1,I1,r1,d,kvs,ex,ha,q⟩=>?_
 subst ex;obtain rfl:=(show v=TY d from r1)
 obtain⟨hz,sa,vs,kv,dd⟩:=(show dA X.prog X.w H1 s1.heap d (.dK kvs) from I1.hok d _ ha)
 obtain⟨ep,ob,es,hob,rest⟩:=dd.dictAt;have da:∀h:Heap,h.get? d=some ob->h.DictAt (cT X.prog X.w) d vs ep:=fun h e=>⟨ob,es,e,rest⟩
 have hlt:d<s1.heap.objs.size:=Sl hob;refine wpAny_pyIter_dict sa (da _ hob) ?_;have kp:∀b u,s1.heap.get? b=some u->(s1.heap.push { cls:=.type "dict_keyiterator", data:=.fields #[.ref d,.int 0 0,.int vs.length 0,.int ep 0] }).get? b=some u:=fun b u e=>Sn _ e
 have I2:L2.Inv X ab σ (cW H1 d (.frz ob (.dK kvs))) { s1 with heap:=s1.heap.push { cls:=.type "dict_keyiterator", data:=.fields #[.ref d,.int 0 0,.int vs.length 0,.int ep 0] } } :=
  (I1.kept (t':=s1.toks) kp).write (x:=d) (e:=d) (o:=.frz ob (.dK kvs)) (t':=s1.toks) (by rw[ha];trivial) (.inl rfl) (fun b u _ e=>e) ⟨_,kp _ _ hob⟩ ⟨kp _ _ hob,hz,sa,vs,kv,(da _ (kp _ _ hob)).dictOf⟩
 refine⟨s1.heap.objs.size,[s1.heap.objs.size],_,_,_,rfl,I2,El ob d _ kvs vs ep (SU hlt) da kv,?_,fun b hb=>?_,q ob⟩
 .exact ⟨_,Tp _ rfl,rfl,rfl⟩
 .have e:b=s1.heap.objs.size:=by simpa using hb
  subst e;exact I1.fpOk (Sg _) (by rw[aL (UY hlt)];exact I1.hok.fresh (Sg _))
end
end Xe
namespace Mr
open PySem PySem.Spec PyProof.Rows L2
end Mr
namespace Z
open PySem L2 Mr
theorem Im(c:MT) (body:MS) (n:Nat) (S:AS):dq c body (n+1) S=(c S).bind fun x=>if x.1=true then (body x.2).bind fun o=>match o with
   | .nx S'=>dq c body n S'
   | .ct S'=>dq c body n S'
   | .bk S'=>some (.nx S')
   | .rt a=>some (.rt a)
  else some (.nx x.2):=rfl
end Z
namespace Z
open PySem L2 Mr Xe
inductive Qb where
 |ok (a:AV)|ex (c:Str) (fs:List (Str×Int))
abbrev HR:=List D->Option Qb
noncomputable def RN:Qb->Option AV
 | .ok a=>some a
 |_=>none
def QW(f:HR):MF:=fun ds=>(f ds).bind RN
inductive HG where
 |ok (o:By)|ex (c:Str) (fs:List (Str×Int))
abbrev MX:=AS->Option HG
noncomputable def CP(m:MS):MX:=fun S=>(m S).map .ok
def rZ(a b:MX):MX:=fun S=>(a S).bind fun o=>match o with
 | .ok (.nx S')=>b S'
 |o=>some o
noncomputable def Oc(c:MT) (a b:MX):MX:=fun S=>(c S).bind fun x=>if x.1=true then a x.2 else b x.2
noncomputable def Ab(c fld:Str) (a:ML):MX:=fun S=>(a S).bind fun x=>match x.1 with
 | [.int n]=>some (.ex c [(fld,n)])
 |_=>none
def Em(np n:Nat) (m:MX):HR:=fun ds=>if ds.length=np then (m (ds.map (fun d=>some (.sh d))++S9 (n-ds.length) none)).bind fun o=>match o with
  | .ok (.rt a)=>some (.ok a)
  | .ok (.nx _)=>some (.ok (.sh .non))
  | .ex c fs=>some (.ex c fs)
  |_=>none
 else none
section
variable {K:W.Frag}{te:TE}{m:ME}{f:Str}
end
noncomputable def kD:aX->D
 | .inl i=>.int i
 | .inr x=>.str x
theorem IV{K:W.Frag}{H:Hp}(k:aX):dt K H (kD k) (kV k):=by
 cases k with
 |inl i=>exact .int
 |inr x=>exact .str
section
variable {K:W.Frag}{te tf:TE}{k:MK}{tb:TS}{body:MS}{x y:Nat}
theorem bP.fix{H₀ Hf₀ Hf H:Hp}{S:AS}{σ:St}{Fs:List (List Addr)}(R:bP K H₀ Hf₀ Hf S σ H Fs) {p:Addr}{o:HO}(h1:p∉Fs.flatten) (h2:Hf p=none) (h3:H₀ p=none):bP K H₀ Hf₀ (cW Hf p o) S σ (cW H p o) Fs:=by
 have s:bW Hf (cW Hf p o):=gw h2;refine⟨R.len,R.lenF,fun i av e=>?_,R.emp,R.nd,R.fresh,fun b u z=>?_,fun b u z=>?_,fun b z1 z2=>?_,R.sf.trans s⟩
 .obtain ⟨v,F,e1,e2,r⟩:=R.rep i av e;have hne:∀q∈F,q≠p:=fun q hq z=>h1 (by rw[←z];exact mFq.mpr ⟨F,mGq e2,hq⟩)
  exact⟨v,F,e1,e2,r.keep s (fun q hq=>aL (hne q hq)) fun q hq=>by rw[aL (hne q hq)];exact(r.owned q hq).2⟩
 .by_cases hb:b=p
  .subst hb;rw[aR]at z ⊢;exact z
  .rw [aL hb]at z ⊢;exact R.sub b u z
 .have hb:b≠p:=fun q=>by rw[q,h3]at z;cases z
  rw[aL hb];exact R.fr b u z
 .have hb:b≠p:=fun q=>z2 (by rw[q];exact h3)
  rw[aL hb];exact R.lim b z1 z2
end
variable (S:AS)
def FQ(x:Nat) (body:MX):List D->AS->Option HG
 | [],S=>some (.ok (.nx S))
 |d::ds,S=>(body (S.set x (some (.sh d)))).bind fun o=>match o with
  | .ok (.nx S')=>FQ x body ds S'
  | .ok (.ct S')=>FQ x body ds S'
  | .ok (.bk S')=>some (.ok (.nx S'))
  | .ok (.rt a)=>some (.ok (.rt a))
  | .ex c fs=>some (.ex c fs)
def Nb(x:Nat) (k:MK) (body:MX):MX:=fun S=>(gK k S).bind fun y=>(eG (aH y.1)).bind fun ds=>FQ x body ds y.2
def Kw(f:AV->Option HG):Qb->Option HG
 | .ok r=>f r
 | .ex c fs=>some (.ex c fs)
def Cq(f:HR) (a:MA):MX:=fun S=>(a S).bind fun x=>(f (x.1.map aH)).bind (Kw fun _=>some (.ok (.nx x.2)))
def QA(f:HR) (a:MA):MX:=fun S=>(a S).bind fun x=>(f (x.1.map aH)).bind (Kw fun r=>some (.ok (.rt r)))
noncomputable def CC(c:Str):MX:=fun _=>some (.ex c [])
noncomputable def Gz:D->Option Str
 | .str x=>some x
 |_=>none
noncomputable def Pz:D->List D->Option D
 | .str a,[.str b]=>some (.bl (Txt.startswith a b))
 |_,_=>none
noncomputable def RY:D->D->Option D
 | .str i,.str j=>some (.bl (!(Builtin.Str.occurrences j i 0 j.length 1).isEmpty))
 |_,_=>none
noncomputable def P2:D->D->Option D
 | .str i,.str j=>some (.bl (!(!(Builtin.Str.occurrences j i 0 j.length 1).isEmpty)))
 |_,_=>none
noncomputable def Dx:D->D->Option D
 | .non,.non=>some (.bl true)
 | .int _,.non=>some (.bl false)
 | .str _,.non=>some (.bl false)
 | .bl _,.non=>some (.bl false)
 | .list _,.non=>some (.bl false)
 | .tup _,.non=>some (.bl false)
 |_,_=>none
def Rb:List D->Option D
 | [.str x]=>(intText? x).bind fun n=>iR (x.length<=640) (some (.int n))
 |_=>none
noncomputable def PP:D->List D->Option D
 | .str a,[.str b]=>((Builtin.Str.occurrences a b 0 a.length 1).head?).map fun i=>.int (i:Nat)
 |_,_=>none
noncomputable def Bs:List D->Option (List Bool)
 | []=>some []
 | .bl b::ds=>(Bs ds).map (b :: ·)
 |_=>none
def RV:List D->Option D
 | [.list ds]=>(Bs ds).map fun bs=>.bl (bs.all id)
 |_=>none
section
variable {K:W.Frag}
theorem FC:we K (fun x y H Q=>y = .non/\Q (.bl (decide (x = .non))) H) Dx:=by
 intro x y H Q dx dy d rx ry e q;unfold Dx at e;split at e
 all_goals first|(cases e;done)|skip
 .cases e;cases rx;cases ry;exact⟨rfl,q _ (by simpa using dt.bl)⟩
 .cases e;cases rx;cases ry;exact⟨rfl,q _ (by simpa using dt.bl)⟩
 .cases e;cases rx;cases ry;exact⟨rfl,q _ (by simpa using dt.bl)⟩
 .cases e;cases rx;cases ry;exact⟨rfl,q _ (by simpa using dt.bl)⟩
 .cases e;cases ry;obtain⟨p,vs,rfl,_⟩:=rx.list_inv;exact⟨rfl,q _ (by simpa using dt.bl)⟩
 .cases e;cases ry;obtain⟨p,vs,rfl,_⟩:=rx.tup_inv;exact⟨rfl,q _ (by simpa using dt.bl)⟩
def RE(a:ME) (lo hi:MO):ME:=fun S=>(a S).bind fun x=>(lo x.2).bind fun y=>(hi y.2).bind fun z=>(Gz x.1).bind fun t=>iR (t.length<=cX) (some (.str (Txt.slice t y.1 z.1),z.2))
def IW:D->List D->Option (List Str)
 | .str a,[.str b]=>iR ((b.length == 0)=false/\a.length<=cX/\(Builtin.Str.partsBetween a (Builtin.Str.occurrences a b 0 a.length (a.length+1)) b.length).length<=cX/\(Txt.split a b).length<=cX) (some (Txt.split a b))
 |_,_=>none
def Qx(a:ME) (as:ML):MK:=fun S=>(a S).bind fun x=>(as x.2).bind fun y=>(IW x.1 y.1).map fun ws=>(.ow (ws.map fun w=>.sh (.str w)),y.2)
noncomputable def KC(x:Str):List D:=x.cps.toList.map fun c=>.str ⟨#[c]⟩
def Se(a:ME):MI:=fun S=>(a S).bind fun x=>(Gz x.1).map fun t=>(KC t,x.2)
def Q5(x:Nat) (a:ME) (body:MS):MS:=fun S=>(a S).bind fun y=>(Gz y.1).bind fun t=>dg x body (KC t) y.2
def Bf(x y:Nat) (body:MX):Nat->List D->AS->Option HG
 |_,[],S=>some (.ok (.nx S))
 |i,d::ds,S=>(body ((S.set x (some (.sh (.int i)))).set y (some (.sh d)))).bind fun o=>match o with
  | .ok (.nx S')=>Bf x y body (i+1) ds S'
  | .ok (.ct S')=>Bf x y body (i+1) ds S'
  | .ok (.bk S')=>some (.ok (.nx S'))
  | .ok (.rt a)=>some (.ok (.rt a))
  | .ex c fs=>some (.ex c fs)
def RB(x y:Nat) (k:MK) (body:MX):MX:=fun S=>(gK k S).bind fun z=>(eG (aH z.1)).bind fun ds=>Bf x y body 0 ds z.2
end
theorem zI(i:Int):Dx (.int i) .non=some (.bl false):=rfl
theorem yg(x:Str):Dx (.str x) .non=some (.bl false):=rfl
def RH:=Sf @zI @yg
abbrev FI:=zS Ff fun i j=>.int (i / j)
def SM(K:W.Frag) (te:TE) (m:ME):Prop:=∀{H₀ Hf₀ Hf:Hp}{S:AS}{σ:St}{H:Hp}{Fs:List (List Addr)}{d:D}{S':AS},bP K H₀ Hf₀ Hf S σ H Fs->m S=some (d,S')->∀Q:VK,
 (∀Hf' H' Fs' v,bW Hf Hf'->bP K H₀ Hf₀ Hf' S' σ H' Fs'->dt K Hf' d v->Q v H')->te σ H Q
noncomputable def HQ:AV->Option D
 | .sh d=>some d
 |_=>none
theorem AR{a:AV}{d:D}(h:HQ a=some d):a = .sh d:=by
 unfold HQ at h;split at h <;> cases h
 rfl
def nQ(i:Nat) (b:ME):ME:=fun S=>(cL S i).bind fun _=>(b S).bind fun y=>(intOf y.1).bind fun z=>(cL y.2 i).bind fun avs=>iR (0<=z/\z<avs.length/\avs.length<=cX) ((avs[z.toNat]?.bind HQ).map fun d=>(d,y.2.set i (some (.ow (avs.eraseIdx z.toNat)))))
def vy(i:Nat):ME:=fun S=>(cL S i).bind fun avs=>(avs[avs.length-1]?.bind HQ).map fun d=>(d,S.set i (some (.ow avs.dropLast)))
noncomputable def Pj(kvs:List (aX×D)) (k:aX):List (aX×D):=kvs.filter fun kv=>decide (kv.1≠k)
def Rl(i:Nat) (b:ME):ME:=fun S=>(iM S i).bind fun _=>(b S).bind fun y=>(iz y.1).bind fun key=>(iM y.2 i).bind fun kvs=>(getD kvs key).map fun d=>(d,y.2.set i (some (.owd (Pj kvs key))))
section
variable {K:W.Frag}
theorem II:we K (rI Ff fun i j=>.int (i / j)) FI:=ya fun _ _ _=>.int
theorem bE.erase{Hf H:Hp}{as:List AV}{vs:List V}{Gs:List (List Addr)}(r:bE K Hf H as vs Gs) (k:Nat):bE K Hf H (as.eraseIdx k) (vs.eraseIdx k) (Gs.eraseIdx k):=by
 obtain⟨h1,h2,h3⟩:=r;refine⟨by rw[UK,UK,h1],by rw[UK,UK,h2],fun i b w G e1 e2 e3=>?_⟩
 rw[List.getElem?_eraseIdx]at e1 e2 e3;split at e1
 .rename_i q;rw[if_pos q]at e2 e3;exact h3 i b w G e1 e2 e3
 .rename_i q;rw[if_neg q]at e2 e3;exact h3 (i+1) b w G e1 e2 e3
theorem AK{Gs:List (List Addr)}{k:Nat}(h:Gs[k]?=some []):(Gs.eraseIdx k).flatten=Gs.flatten:=by
 induction Gs generalizing k with
 |nil=>cases h
 |cons g r ih =>
  cases k with
  |zero =>
   simp at h;subst h;rfl
  |succ k =>
   rw[TX,fCq,fCq,ih (by simpa using h)]
theorem bP.lose{H₀ Hf₀ Hf H:Hp}{S:AS}{σ:St}{Fs:List (List Addr)}(R:bP K H₀ Hf₀ Hf S σ H Fs) {i k:Nat}{avs:List AV}{d:D}(h:S[i]?=some (some (.ow avs))) (hk:avs[k]?=some (.sh d)) :
  ∃p vs y F',σ[i]?=some (some (.ref p))/\H p=some (.lst vs)/\avs.length=vs.length/\vs[k]?=some y/\dt K Hf d y/\bP K H₀ Hf₀ Hf (S.set i (some (.ow (avs.eraseIdx k)))) σ (cW H p (.lst (vs.eraseIdx k))) (Fs.set i F'):=by
 obtain⟨p,vs,Gs,s1,s2,h1,h2,h3,h4,h5,h6⟩:=R.ow h;have lk:k<avs.length:=(gSq.mp hk).1;obtain⟨y,hy⟩:∃y,vs[k]?=some y:=⟨_,gEg (by rw[←h3.1];exact lk)⟩
 obtain⟨G,hG⟩:∃G,Gs[k]?=some G:=⟨_,gEg (by rw[←h3.2.1];exact lk)⟩
 obtain⟨hG0,ry⟩:=(h3.2.2 k _ _ _ hk hy hG).sh_inv;subst hG0;have hf:=AK hG;refine⟨p,vs,y,p::(Gs.eraseIdx k).flatten,s1,h1,h3.1,hy,ry,R.turn s1 s2 (by simp) (bC.news aR h2 ((h3.keepUpd h4).erase k)) ?_ ?_⟩
 .rw [hf];exact Sm.mpr ⟨h4,h5⟩
 .rw [hf];exact h6
theorem tF{i:Nat}{tb:TE}{b:ME}(hb:SR K tb b):SM K (Ep K "list" Hc (kz i) (fk tb kq)) (nQ i b):=by
 intro H₀ Hf₀ Hf S σ H Fs d S' R e Q q;obtain⟨a0,e0,e⟩:=oBq.mp e;obtain⟨y,e1,e⟩:=oBq.mp e;obtain⟨z,e2,e⟩:=oBq.mp e;obtain⟨avs,e3,e⟩:=oBq.mp e;rcases bp e with ⟨⟨z0,z1,z2⟩,e⟩|e
 .obtain ⟨d',e4,e⟩:=oMq.mp e;cases e;obtain⟨a,e4,e5⟩:=oBq.mp e4;have e5:=AR e5;subst e5;obtain⟨p,vs,Gs,s1,_,h1,_⟩:=R.ow (bf e0);refine⟨.ref p,s1,.inl ⟨rfl,vs,dP.of h1⟩,hb R (d:=y.1) (S':=y.2) e1 _ fun Hf1 H1 Fs1 v t1 R1 r1=>?_⟩
  obtain⟨p',vs',w,F',s1',hp,hl,hw,rw',R2⟩:=R1.lose (bf e3) e4;rw[s1]at s1';cases s1';have hv:v = .int z:=by
   have:y.1 = .int z:=by
    revert e2
    unfold intOf;split <;> intro e2 <;> cases e2
    assumption
   rw[this]at r1;cases r1;rfl
  subst hv;have hz:(avs.length:Int)<=16777216:=by
   have:avs.length<=16777216:=z2;lia
  refine⟨p,vs',z,z.toNat,w,rfl,rfl,hp,by lia,by lia,?_,hw,q _ _ _ _ t1.sf R2 rw'⟩
  rw[←hl];unfold seqIndex?;have n1:¬ z<0:=by lia
  have n2:(decide (0<=z) && decide (z<(avs.length:Int)))=true:=by
   rw[decide_eq_true z0,decide_eq_true z1];rfl
  simp only[n1,if_false];exact if_pos n2
 .cases e
theorem M7{i:Nat}:SM K (Ep K "list" Ng (kz i) kq) (vy i):=by
 intro H₀ Hf₀ Hf S σ H Fs d S' R e Q q;obtain⟨avs,e0,e⟩:=oBq.mp e;obtain⟨d',e4,e⟩:=oMq.mp e;cases e;obtain⟨a,e4,e5⟩:=oBq.mp e4;have e5:=AR e5;subst e5;obtain⟨p,vs,w,F',s1,hp,hl,hw,rw',R2⟩:=R.lose (bf e0) e4;refine⟨.ref p,s1,.inl ⟨rfl,vs,dP.of hp⟩,p,vs,w,rfl,rfl,hp,by rw[←hl];exact hw,?_⟩
 rw[oD,hl,oD]at R2;exact q _ _ _ _ (.refl _) R2 rw'
def EC(i:Nat) (m:ME):MS:=fun S=>(m S).map fun x=>.nx (x.2.set i (some (.sh x.1)))
theorem Ih{i:Nat}{te:TE}{m:ME}(h:SM K te m):SS K (Ao te (eD i)) (EC i m):=by
 intro H₀ Hf₀ Hf S σ H Fs o R e D hd;obtain⟨x,e1,e⟩:=oMq.mp e;cases e;refine h R (d:=x.1) (S':=x.2) e1 _ fun Hf1 H1 Fs1 v t1 R1 r1=>?_
 exact hd _ _ _ _ t1 (R1.setD i r1)
def Ra(i:Nat) (m:ME):MS:=fun S=>(cL S i).bind fun _=>(m S).bind fun x=>(cL x.2 i).bind fun avs=>iR (avs.length<cX) (some (.nx (x.2.set i (some (.ow (avs++[.sh x.1]))))))
def AC(i:Nat) (b:ME) (m:ME):MS:=fun S=>(m S).bind fun x=>(iM x.2 i).bind fun _=>(b x.2).bind fun y=>(iM y.2 i).bind fun kvs=>(iz y.1).bind fun key =>
 iR (kvs.length<cX) (some (.nx (y.2.set i (some (.owd (mN kvs key x.1))))))
theorem GI{i:Nat}{te tb:TE}{m b:ME}(hk:SM K te m) (hb:SR K tb b):SS K (Gg (kz i) tb te) (AC i b m):=by
 intro H₀ Hf₀ Hf S σ H Fs o R e D h;obtain⟨x,e1,e⟩:=oBq.mp e;obtain⟨a0,e0,e⟩:=oBq.mp e;obtain⟨y,e2,e⟩:=oBq.mp e;obtain⟨kvs,e3,e⟩:=oBq.mp e;obtain⟨key,e4,e⟩:=oBq.mp e;rcases bp e with ⟨hl,e⟩|e
 .cases e;refine hk R (d:=x.1) (S':=x.2) e1 _ fun Hf1 H1 Fs1 v t1 R1 r1=>?_
  obtain⟨p',_,s1,_⟩:=R1.owd (jG e0);refine⟨_,s1,hb R1 (d:=y.1) (S':=y.2) e2 _ fun Hf2 H2 Fs2 w t2 R2 r2=>?_⟩
  obtain⟨q',kv,s1',s2',h1',h2',h3',h4',h5'⟩:=R2.owd (jG e3);rw[s1]at s1';cases s1';have rv:=r1.mono t2.sf;have hw:=jj e4 r2;subst hw;refine⟨p',_,rfl,C1.k h1' (by rw[gf,←h3'.len];exact hl),h _ _ _ _ (t1.trans t2.sf) (R2.turn s1 s2' (by simp) (F':=[p']) (.owd aR h2' (ze h3' rv)) (by simp) fun q hq=>by rw[mSq.mp hq];exact⟨h4',h5'⟩)⟩
 .cases e
end
theorem Mo(d:D):HQ (.sh d)=some d:=rfl
theorem Hq(S:AS) (i:Nat) (b:ME):nQ i b S=(cL S i).bind fun _=>(b S).bind fun y=>(intOf y.1).bind fun z=>(cL y.2 i).bind fun avs=>iR (0<=z/\z<avs.length/\avs.length<=cX) ((avs[z.toNat]?.bind HQ).map fun d=>(d,y.2.set i (some (.ow (avs.eraseIdx z.toNat))))):=rfl
theorem Me(S:AS) (i:Nat):vy i S=(cL S i).bind fun avs=>(avs[avs.length-1]?.bind HQ).map fun d=>(d,S.set i (some (.ow avs.dropLast))):=rfl
theorem MU(S:AS) (i:Nat) (m:ME):EC i m S=(m S).map fun x=>.nx (x.2.set i (some (.sh x.1))):=rfl
theorem JN(S:AS) (i:Nat) (b m:ME):AC i b m S=(m S).bind fun x=>(iM x.2 i).bind fun _=>(b x.2).bind fun y=>(iM y.2 i).bind fun kvs=>(iz y.1).bind fun key =>
 iR (kvs.length<cX) (some (.nx (y.2.set i (some (.owd (mN kvs key x.1)))))):=rfl
def RU:=Sf @Mo (Sf @Hq (Sf @Me (Sf @MU @JN)))
def CY(x y:D):Option D:=match x with
 | .tup _=>Bi x y
 |_=>AX x y
noncomputable def Ex:MF:=fun _=>none
def RF(i:Nat) (b:ME) (k:MK):MS:=fun S=>(cL S i).bind fun _=>(b S).bind fun y=>(intOf y.1).bind fun z=>(gK k y.2).bind fun x=>(cL x.2 i).bind fun avs=>iR (0<=z/\z<=avs.length/\avs.length<cX) (some (.nx (x.2.set i (some (.ow (avs.take z.toNat++x.1::avs.drop z.toNat))))))
section
variable {K:W.Frag}
theorem Eu:we K (fun x y H Q=>FZ K x y H Q∨JY K x y H Q) CY:=by
 intro x y H Q dx dy d rx ry e q;unfold CY at e;split at e
 .exact .inr (Af rx ry e q)
 .exact .inl (rE rx ry e q)
theorem IH{P:Program}{w:World}{mg:Str->Option Value}{base:Heap}{k:Nat}{x:Str}{st:Stmt}{ps:List Str}{f:Addr}{fd:FuncData}(D:gJ K mg x st ps f fd):Fn P w K mg base k x st ps (bL K Ex) f fd :=
 ⟨D,⟨fun vs H Q E h=>(by obtain⟨Hf,ds,a,s,r,e,q⟩:=h;cases e),fun A outer s H args us vs Q E _ _ _ _ h=>(by obtain⟨Hf,ds,a,s,r,e,q⟩:=h;cases e)⟩⟩
end
theorem Dn(ds:List D) (i:Int):CY (.list ds) (.int i)=atI ds i:=rfl
theorem EL(ds:List D) (i:Int):CY (.tup ds) (.int i)=atI ds i:=rfl
def RO:=Sf @Dn @EL
noncomputable def vg:List D->Option D
 | [.int _,.ty T]=>if T = "list" ∨ T = "tuple" ∨ T = "str" then some (.bl false) else none
 | [.str _,.ty T]=>if T = "list" ∨ T = "tuple" then some (.bl false) else none
 | [.non,.ty T]=>if T = "list" ∨ T = "tuple" then some (.bl false) else none
 | [.list _,.ty T]=>if T = "tuple" then some (.bl false) else none
 | [.tup _,.ty T]=>if T = "list" then some (.bl false) else none
 |_=>none
def eJ(ds:List D):Option D:=match mL ds with
 |some d=>some d
 |none=>vg ds
section
variable {K:W.Frag}
theorem La:Nn K (fun xs H Q=>∃x T,xs=[x,.ty T]/\Mj K x H T/\Q (.bl false) H) vg:=by
 intro vs H Q ds d r e q;unfold vg at e;split at e
 all_goals first|(exact absurd e (fun z=>by cases z))|skip
 all_goals
  obtain⟨v,ws,rfl,h1,h2⟩:=r.cons_inv;obtain⟨u,zs,rfl,h3,h4⟩:=h2.cons_inv;rw[h4.nil_inv];cases h3;split at e
 all_goals first|(cases e;done)|skip
 all_goals
  rename_i hT;cases e
 .cases h1;exact⟨_,_,rfl,hT,q _ .bl⟩
 .cases h1;exact⟨_,_,rfl,hT,q _ .bl⟩
 .cases h1;exact⟨_,_,rfl,hT,q _ .bl⟩
 .obtain ⟨p,xs,rfl,h,_⟩:=h1.list_inv;exact⟨_,_,rfl,.inl ⟨hT,xs,dP.of h⟩,q _ .bl⟩
 .obtain ⟨p,xs,rfl,h,_⟩:=h1.tup_inv;exact⟨_,_,rfl,.inr ⟨hT,xs,rF.of h⟩,q _ .bl⟩
theorem km:Nn K (fun xs H Q=>(∃x T b,xs=[x,.ty T]/\MM K x H T b/\Q (.bl b) H)∨∃x T,xs=[x,.ty T]/\Mj K x H T/\Q (.bl false) H) eJ:=by
 intro vs H Q ds d r e q;unfold eJ at e;split at e
 .rename_i e';cases e;exact .inl (EG r e' q)
 .exact .inr (La r e q)
end
theorem LD(ds:List D):eJ [.list ds,.ty "list"]=some (.bl true):=by simp[eJ,mL]
theorem LK(ds:List D):eJ [.list ds,.ty "tuple"]=some (.bl false):=by simp[eJ,mL,vg]
theorem L3(ds:List D):eJ [.tup ds,.ty "list"]=some (.bl false):=by simp[eJ,mL,vg]
theorem Mf(ds:List D):eJ [.tup ds,.ty "tuple"]=some (.bl true):=by simp[eJ,mL]
theorem K9(x:Str):eJ [.str x,.ty "list"]=some (.bl false):=by simp[eJ,mL,vg]
theorem M0(x:Str):eJ [.str x,.ty "tuple"]=some (.bl false):=by simp[eJ,mL,vg]
theorem M6(x:Str):eJ [.str x,.ty "str"]=some (.bl true):=by simp[eJ,mL]
theorem MC(i:Int):eJ [.int i,.ty "list"]=some (.bl false):=by simp[eJ,mL,vg]
theorem M8(i:Int):eJ [.int i,.ty "tuple"]=some (.bl false):=by simp[eJ,mL,vg]
theorem Lz(i:Int):eJ [.int i,.ty "str"]=some (.bl false):=by simp[eJ,mL,vg]
theorem MR(i:Int):eJ [.int i,.ty "int"]=some (.bl true):=by simp[eJ,mL]
theorem Nh(i:Int):eJ [.int i,.ty "bool"]=some (.bl false):=by simp[eJ,mL]
def RL:=Sf @LD (Sf @LK (Sf @L3 (Sf @Mf (Sf @K9 (Sf @M0 (Sf @M6 (Sf @MC (Sf @M8 (Sf @Lz (Sf @MR @Nh))))))))))
section
variable {K:W.Frag}{H₀ Hf₀ Hf H:Hp}{S:AS}{σ:St}{Fs:List (List Addr)}{te tb:TE}{k:MK}{b:ME}
theorem bP.poke(R:bP K H₀ Hf₀ Hf S σ H Fs) {p:Addr}{o:HO}(pn:Hf p=none) (p0:H₀ p=none) (pf:p∉Fs.flatten):bP K H₀ Hf₀ Hf S σ (cW H p o) Fs:=by
 refine⟨R.len,R.lenF,fun j a ej=>?_,R.emp,R.nd,R.fresh,fun b u e=>?_,fun b u e=>?_,R.lim,R.sf⟩
 .obtain ⟨w,G,f1,f2,q⟩:=R.rep j a ej;refine⟨w,G,f1,f2,q.keep (.refl _) (fun c hc=>aL fun e=>pf ?_) fun c hc=>(q.owned c hc).2⟩
  subst e;exact cu f2 hc
 .rw [aL fun z=>by rw[z,pn]at e;cases e]
  exact R.sub b u e
 .rw [aL fun z=>by rw[z,p0]at e;cases e]
  exact R.fr b u e
theorem mO.stays{Hf' H':Hp}{Fs':List (List Addr)}(t:mO Hf H Fs Hf' H' Fs') {p:Addr}(pn:Hf p=none) (ph:H p≠none) (pf:p∉Fs.flatten):Hf' p=none/\p∉Fs'.flatten:=by
 refine⟨?_,fun m=>pf (t.own p m)⟩
 by_cases h:Hf' p=none
 .exact h
 .exact ((t.gr p pn h).elim (fun e=>absurd e ph) fun m=>absurd m pf)
def A2(b:ME) (k:MK):MK:=fun S=>(b S).bind fun y=>(gK k y.2).bind fun x=>(iz y.1).map fun key=>(.owd [(key,aH x.1)],x.2)
theorem E1(hb:SR K tb b) (hk:SK K te k):SK K (Kj [(tb,te)]) (A2 b k):=by
 intro H₀ Hf₀ Hf S σ H Fs av S' R e Q q;obtain⟨y,e1,e⟩:=oBq.mp e;obtain⟨x,e2,e⟩:=oBq.mp e;obtain⟨key,e3,e⟩:=oMq.mp e;cases e;have hk':SK K te (gK k):=SK.frz hk;intro p hp;obtain⟨t0,R0,n1,n2,n3⟩:=R.new (o:=.dK []) hp;have own0:=mP.one R hp;refine hb R0 (d:=y.1) (S':=y.2) e1 _ fun Hf1 H1 Fs1 w t1 R1 r1=>?_
 have p0:cW H p (HO.dK []) p=some (.dK []):=aR;have p1:H1 p=some (.dK []):=t1.sh p _ p0;obtain⟨a1,a2⟩:=t1.stays n1 (by rw[p0];simp) n3
 refine hk' R1 (a:=x.1) (S':=x.2) e2 _ fun Hf2 H2 Fs2 v F t2 R2 r2 o2=>?_
 have p2:H2 p=some (.dK []):=t2.sh p _ p1;obtain⟨b1,b2⟩:=t2.stays a1 (by rw[p1];simp) a2
 obtain⟨x1,hx1⟩:∃d,x.1 = .sh d:=by
  obtain⟨w,_,e⟩:=oMq.mp e2;rw[←e];exact⟨_,rfl⟩
 rw[hx1]at r2;have rv:=r2.sh_inv.2;have hw:=jj e3 r1;subst hw;refine⟨p2,[(key,v)],rfl,by simp,?_⟩
 have t12:=(t0.trans t1).trans t2;have hs:bW H (cW H2 p (HO.dK (qS [] [(key,v)]))):=fun c u e=>by
  rw[aL fun z=>by rw[z,hp]at e;cases e]
  exact t12.sh c u e
 refine q Hf2 _ Fs2 (.ref p) [p] ⟨t12.sf,hs,t12.own,t12.gr⟩ (R2.poke b1 n2 b2) (.owd aR b1 ⟨rfl,fun i d u h1 h2=>?_⟩) ⟨by simp,fun c h=>by rw[mSq.mp h];exact n2,fun c h=>by rw[mSq.mp h];exact b2,fun c h=>by rw[mSq.mp h];exact .inl hp⟩
 match i,h1,h2 with
 |0,h1,h2 =>
  cases h1;cases h2;rw[hx1,ef];exact rv
 |i+1,h1,_=>simp at h1
theorem Cd{i:Nat}:SM K (Og K "list" Ng (kz i)) (vy i):=M7
noncomputable def ou:List (aX×D)->Option (List Int)
 | []=>some []
 | (.inl i,_)::r=>(ou r).map (i :: ·)
 |_=>none
theorem yu:∀{kvs:List (aX×D)}{ns:List Int},ou kvs=some ns->kvs.map (·.1)=ns.map SY
 | [],ns,h=>by cases h;rfl
 | (.inl i,d)::r,ns,h=>by
  obtain⟨ms,h1,h2⟩:=oMq.mp (show (ou r).map (i :: ·)=some ns from h)
  subst h2;rw[Sq,Sq,yu h1]
 | (.inr _,_)::_,_,h=>by cases h
def wJ(a:ME):MK:=fun S=>(a S).bind fun x=>match x.1 with
 | .dict kvs=>(ou kvs).map fun ns=>(.ow ((ff ns).map fun n=>.sh (.int n)),x.2)
 |_=>none
theorem Gc(hb:SR K te b):SK K (HW (fun xs H Q=>∃(a:Addr) (kvs:List (aX×V)) (ns:List Int),xs=[.ref a]/\H a=some (.dK kvs)/\kvs.map (·.1)=ns.map SY/\∀p,H p=none->Q (.ref p) (cW H p (.lst ((ff ns).map V.int)))) (fk te kq)) (wJ b):=by
 intro H₀ Hf₀ Hf S σ H Fs av S' R e Q q;obtain⟨x,e1,e⟩:=oBq.mp e;obtain⟨x1,x2⟩:=x;cases x1 with
 |dict kvs =>
  obtain⟨ns,e2,e⟩:=oMq.mp (show (ou kvs).map (fun ns=>(AV.ow ((ff ns).map fun n=>.sh (.int n)),x2))=some (av,S') from e)
  cases e;refine hb R (d:=.dict kvs) (S':=S') e1 _ fun Hf1 H1 Fs1 w t1 R1 r1=>?_
  obtain⟨p1,vs,rfl,h1,h2⟩:=r1.dict_inv;refine⟨p1,vs,ns,rfl,h1,by rw[←h2.1];exact yu e2,fun p hp=>?_⟩
  obtain⟨t4,R4,n1,n2,n3⟩:=R1.new (o:=.lst ((ff ns).map V.int)) hp;rw[mS]at q;exact q _ _ _ (.ref p) [p] (t1.trans t4) R4 (bC.new aR n1 (gR _)) ((mP.one R1 hp).back t1)
 |_=>cases e
end
theorem JS(S:AS) (b:ME) (k:MK):A2 b k S=(b S).bind fun y=>(gK k y.2).bind fun x=>(iz y.1).map fun key=>(.owd [(key,aH x.1)],x.2):=rfl
def Kv:D->AS->Option (AV×AS)
 | .dict kvs,S=>(ou kvs).map fun ns=>(.ow ((ff ns).map fun n=>.sh (.int n)),S)
 |_,_=>none
theorem JA(S:AS) (a:ME):wJ a S=(a S).bind fun x=>Kv x.1 x.2:=by
 unfold wJ;congr 1;funext x;obtain⟨x1,x2⟩:=x;cases x1 <;> rfl
theorem Na(kvs:List (aX×D)) (S:AS):Kv (.dict kvs) S=(ou kvs).map fun ns=>(.ow ((ff ns).map fun n=>.sh (.int n)),S):=rfl
theorem vO{α:Type}(f:α->Int) (g:α->D):∀l:List α,ou (l.map fun x=>(SY (f x),g x))=some (l.map f)
 | []=>rfl
 |x::l=>by
  show (ou (l.map fun x=>(SY (f x),g x))).map (f x :: ·)=_
  rw[vO f g l];rfl
def RW:=Sf @JS (Sf @JA @Na)
noncomputable def Hx:D->Option V
 | .non=>some .non
 | .bl b=>some (.bl b)
 | .int i=>some (.int i)
 | .str s=>some (.str s)
 |_=>none
def qF:List D->Option (List V)
 | []=>some []
 |d::ds=>(Hx d).bind fun v=>(qF ds).map (v :: ·)
noncomputable def Lc:D->Option (List D)
 | .list ds=>some ds
 | .tup ds=>some ds
 |_=>none
def LU(neg:Bool) (x y:D):Option D:=(Hx x).bind fun v=>(Lc y).bind fun ds=>(qF ds).map fun vs=>.bl (if neg then !Np v vs else Np v vs)
section
variable {K:W.Frag}{te:TE}
theorem vF{H:Hp}{d:D}{v w:V}(e:Hx d=some v) (r:dt K H d w):w=v/\om v=true:=by
 cases d <;> first|(cases e;cases r;exact⟨rfl,rfl⟩)|cases e
theorem mR{H:Hp}:∀{ds:List D}{vs ws:List V},qF ds=some vs->bY K H ds ws->ws=vs/\vs.all om=true
 | [],vs,ws,e,r=>by
  cases e;exact⟨r.nil_inv,rfl⟩
 |d::ds,vs,ws,e,r=>by
  obtain⟨v,e1,e⟩:=oBq.mp e;obtain⟨us,e2,rfl⟩:=oMq.mp e;obtain⟨w,ws',rfl,r1,r2⟩:=r.cons_inv;obtain⟨rfl,f1⟩:=vF e1 r1;obtain⟨rfl,f2⟩:=mR e2 r2;exact⟨rfl,by rw[Wy,f1,f2];rfl⟩
theorem M5(neg:Bool):we K (Rv K neg) (LU neg):=by
 intro x y H Q dx dy d rx ry e q;obtain⟨v,e1,e⟩:=oBq.mp e;obtain⟨ds,e2,e⟩:=oBq.mp e;obtain⟨vs,e3,e⟩:=oMq.mp e;subst e;obtain⟨rfl,f1⟩:=vF e1 rx;cases dy with
 |list xs =>
  cases e2;obtain⟨p,us,rfl,h1,h2⟩:=ry.list_inv;obtain⟨rfl,f2⟩:=mR e3 h2;exact⟨p,us,rfl,.inl (dP.of h1),f1,f2,q _ .bl⟩
 |tup xs =>
  cases e2;obtain⟨p,us,rfl,h1,h2⟩:=ry.tup_inv;obtain⟨rfl,f2⟩:=mR e3 h2;exact⟨p,us,rfl,.inr (rF.of h1),f1,f2,q _ .bl⟩
 |_=>cases e2
end
theorem yH(ns:List Int):qF (ns.map D.int)=some (ns.map V.int):=by
 induction ns with
 |nil=>rfl
 |cons n ns ih=>rw[Sq,qF,ih];rfl
theorem GV(i:Int) (ns:List Int):Np (.int i) (ns.map V.int)=decide (i∈ns):=by
 unfold Np
 induction ns with
 |nil=>rfl
 |cons n ns ih =>
  rw[Sq,UH,ih];show (n == i || decide (i∈ns))=_
  by_cases h:i=n
  .subst h;simp
  .have h':¬ n=i:=fun z=>h z.symm
   simp[h,h']
theorem Hz(neg:Bool) (i:Int) (ns:List Int):LU neg (.int i) (.list (ns.map D.int))=some (.bl (if neg then !decide (i∈ns) else decide (i∈ns))):=by
 show (qF (ns.map D.int)).map _=_;rw[yH,Uh,GV]
section
variable {K:W.Frag}{H₀ Hf₀ Hf Hf' H H':Hp}{S S':AS}{σ σ':St}{Fs Fs':List (List Addr)}
theorem xD.same(s:bW H H'):∀{path:List Nat}{v w:V},xD H v path w->xD H' v path w
 | [],v,w,h=>h
 |j::js,v,w,⟨p,vs,u,h1,h2,h3,h4⟩=>⟨p,vs,u,h1,s _ _ h2,h3,xD.same s h4⟩
theorem xD.one:∀{path:List Nat}{v w w':V},xD H v path w->xD H v path w'->w=w'
 | [],v,w,w',h,h'=>h.symm.trans h'
 |j::js,v,w,w',⟨p,vs,u,h1,h2,h3,h4⟩,⟨p',vs',u',g1,g2,g3,g4⟩=>by
  rw[h1]at g1;cases g1;rw[h2]at g2;cases g2;rw[h3]at g3;cases g3;exact h4.one g4
theorem xD.snoc:∀{path:List Nat}{v:V}{p:Addr}{vs:List V}{n:Nat}{u:V},xD H v path (.ref p)->H p=some (.lst vs)->vs[n]?=some u->xD H v (path++[n]) u
 | [],v,p,vs,n,u,h,h1,h2=>⟨p,vs,u,h,h1,h2,rfl⟩
 |j::js,v,p,vs,n,u,⟨p',vs',u',g1,g2,g3,g4⟩,h1,h2=>⟨p',vs',u',g1,g2,g3,g4.snoc h1 h2⟩
theorem xD.kept:∀{path:List Nat}{av:AV}{v w:V}{F:List Addr}{as:List AV},bC K Hf H av v F->bO av path=some as->xD H v path w->(∀q∈F,H' q=H q)->xD H' v path w
 | [],av,v,w,F,as,_,_,h,_=>h
 |j::js,av,v,w,F,as,r,e,⟨p,vs,u,h1,h2,h3,h4⟩,hk=>by
  cases av with
  |ow avs =>
   obtain⟨p',vs',Gs,e1,e2,e3,e4,e5⟩:=r.ow_inv;rw[h1]at e1;cases e1;rw[h2]at e3;cases e3;obtain⟨a,ea,e⟩:=oBq.mp (show (avs[j]?).bind (fun a=>bO a js)=some as from e)
   have hj:j<avs.length:=(gSq.mp ea).1;have hG:=gEg (e5.2.1 ▸ hj);have rj:=e5.2.2 j a u _ ea h3 hG;refine⟨p,vs,u,h1,by rw[hk p (by rw[e2];simp)];exact h2,h3,h4.kept rj e fun q hq=>hk q ?_⟩
   rw[e2];exact mCo _ (cu hG hq)
  |_=>cases e
noncomputable def PU(H₀ H:Hp) (F:List Addr):Hp:=fun b=>if b∈F then H b else H₀ b
theorem xY{F:List Addr}{b:Addr}(h:b∈F):PU H₀ H F b=H b:=if_pos h
theorem nT{F:List Addr}{b:Addr}(h:b∉F):PU H₀ H F b=H₀ b:=if_neg h
theorem bP.frame(R:bP K H₀ Hf₀ Hf S σ H Fs) {i:Nat}{F:List Addr}(s2:Fs[i]?=some F):bP K (PU H₀ H F) Hf₀ Hf (S.set i none) σ H (Fs.set i []):=by
 have R1:=R.kill i;have hF:∀q∈F,q∈Fs.flatten:=fun q hq=>cu s2 hq
 refine⟨R1.len,R1.lenF,R1.rep,R1.emp,R1.nd,fun p hp=>?_,R1.sub,fun b u e=>?_,fun b h1 h2=>?_,R1.sf⟩
 .have hn:p∉F:=fun z=>fW R.nd s2 z hp
  rw[nT hn];exact R1.fresh p hp
 .by_cases hb:b∈F
  .rw [xY hb]at e;exact e
  .rw [nT hb]at e;exact R.fr b u e
 .by_cases hb:b∈F
  .exact (R.mem (hF b hb)).2
  .rw [nT hb]at h2;exact R.lim b h1 h2
theorem Ar{α:Type}{l:List α}{i:Nat}{a:α}(h:l[i]?=some a):l.set i a=l:=by
 obtain⟨hk,ev⟩:=gSq.mp h;rw[←ev];exact VB hk
theorem bP.unframe(R:bP K H₀ Hf₀ Hf S σ H Fs) {i:Nat}{av:AV}{v:V}{F:List Addr}(s2:Fs[i]?=some F) (r:bC K Hf H av v F) (nd:F.Nodup) (h0:∀q∈F,H₀ q=none)
  (R':bP K (PU H₀ H F) Hf₀ Hf' S' σ' H' Fs') (e':S'[i]?=some none) (s1:σ'[i]?=some (some v)) (sf:bW Hf Hf') :
  (∀q∈F,H' q=H q)/\bC K Hf' H' av v F/\bP K H₀ Hf₀ Hf' (S'.set i (some av)) σ' H' (Fs'.set i F):=by
 have hk:∀q∈F,H' q=H q:=fun q hq=>by
  have hn:=(R.mem (cu s2 hq)).1;cases hu:H q with
  |none=>exact absurd hu hn
  |some u=>exact R'.fr q u (by rw[xY hq];exact hu)
 have hf:∀q∈F,Hf' q=none:=fun q hq=>by
  have hm:=R.mem (cu s2 hq);refine R'.lim q ?_ (by rw[xY hq];exact hm.1)
  cases hz:Hf₀ q with
  |none=>rfl
  |some u=>rw[R.sf q u hz]at hm;exact absurd hm.2 (by simp)
 have r':=r.keep sf hk hf;refine⟨hk,r',?_⟩;have R1:bP K H₀ Hf₀ Hf' (S'.set i none) σ' H' (Fs'.set i []):=by
  rw[Ar e',Ar (R'.emp i e')];refine⟨R'.len,R'.lenF,R'.rep,R'.emp,R'.nd,fun p hp=>?_,R'.sub,fun b u e=>?_,fun b h1 h2=>?_,R'.sf⟩
  .have:=R'.fresh p hp
   by_cases hb:p∈F
   .exact h0 p hb
   .rwa [nT hb]at this
  .refine R'.fr b u ?_;rw[nT fun z=>by rw[h0 b z]at e;cases e]
   exact e
  .refine R'.lim b h1 ?_;rw[nT fun z=>h2 (h0 b z)]
   exact h2
 refine R1.again (F:=F) s1 r' nd fun q hq=>⟨h0 q hq,fun m=>?_⟩
 rw[Ar (R'.emp i e')]at m;have:=R'.fresh q m;rw[xY hq]at this;exact(R.mem (cu s2 hq)).1 this
end
abbrev MP:=AS->Option (List Nat×AS)
def Ax(i:Nat):MP:=fun S=>(cL S i).map fun _=>([],S)
def HM(i:Nat) (pf:MP) (b:ME):MP:=fun S=>(pf S).bind fun x=>(b x.2).bind fun y=>(intOf y.1).bind fun j=>(cL y.2 i).bind fun avs=>(bO (.ow avs) x.1).bind fun as=>(xf as.length j).map fun n=>(x.1++[n],y.2)
def Nu(K:W.Frag) (i:Nat) (te:TE) (pf:MP):Prop:=∀{H₀ Hf₀ Hf:Hp}{S:AS}{σ:St}{H:Hp}{Fs:List (List Addr)}{path:List Nat}{S':AS},bP K H₀ Hf₀ Hf S σ H Fs->pf S=some (path,S')->∀Q:VK,
 (∀Hf' H' Fs' v w,mO Hf H Fs Hf' H' Fs'->bP K H₀ Hf₀ Hf' S' σ H' Fs'->σ[i]?=some (some v)->xD H' v path w->Q w H')->te σ H Q
section
variable {K:W.Frag}
theorem xA(i:Nat):Nu K i (kz i) (Ax i):=by
 intro H₀ Hf₀ Hf S σ H Fs path S' R e Q q;obtain⟨avs,e1,e⟩:=oMq.mp e;cases e;obtain⟨p,vs,Gs,s1,_⟩:=R.ow (bf e1);exact⟨_,s1,q _ _ _ _ _ .refl R s1 rfl⟩
theorem lu{H₀ Hf₀ Hf H:Hp}{S:AS}{σ:St}{Fs:List (List Addr)}{i:Nat}{avs as:List AV}{path:List Nat}{v w:V}(R:bP K H₀ Hf₀ Hf S σ H Fs) (e:S[i]?=some (some (.ow avs))) (s1:σ[i]?=some (some v)) (en:bO (.ow avs) path=some as) (h:xD H v path w) :
  ∃p vs,w = .ref p/\H p=some (.lst vs)/\vs.length=as.length:=by
 obtain⟨v',F,t1,t2,r,nd,_⟩:=R.move e;rw[s1]at t1;cases t1;obtain⟨p,vs,Gs,g1,g2,g3,g4,_⟩:=r.path nd en;exact⟨p,vs,h.one g1,g2,g4.1.symm⟩
theorem va{i:Nat}{te tb:TE}{pf:MP}{b:ME}(hp:Nu K i te pf) (hb:SR K tb b):Nu K i (J1 (FZ K) te tb) (HM i pf b):=by
 intro H₀ Hf₀ Hf S σ H Fs path S' R e Q q;obtain⟨x,e1,e⟩:=oBq.mp e;obtain⟨y,e2,e⟩:=oBq.mp e;obtain⟨j,e3,e⟩:=oBq.mp e;obtain⟨avs,e4,e⟩:=oBq.mp e;obtain⟨as,e5,e⟩:=oBq.mp e;obtain⟨n,e6,e⟩:=oMq.mp e;cases e;refine hp R (path:=x.1) (S':=x.2) e1 _ fun Hf1 H1 Fs1 v w t1 R1 s1 a1=>hb R1 (d:=y.1) (S':=y.2) e2 _ fun Hf2 H2 Fs2 u t2 R2 r2=>?_
 have hy:y.1 = .int j:=by
  cases hx:y.1 <;> rw[hx]at e3 <;> first|(cases e3;rfl)|cases e3
 rw[hy]at r2;cases r2;have a2:=a1.same t2.sh;obtain⟨p,vs,rfl,h1,h2⟩:=lu R2 (bf e4) s1 e5 a2;have hix:=e6;obtain⟨_,hn,_⟩:=Bw e6;have hn':n<vs.length:=by rw[h2];exact hn
 obtain⟨u,hv⟩:∃u,vs[n]?=some u:=⟨_,gEg hn'⟩;refine⟨p,vs,j,u,rfl,rfl,dP.of h1,?_,q _ _ _ v _ (t1.trans t2) R2 s1 (a2.snoc h1 hv)⟩;unfold atI;rw[h2,e6];exact hv
end
section
variable {K:W.Frag}
theorem bP.grow{H₀ Hf₀ Hf H:Hp}{S:AS}{σ:St}{Fs:List (List Addr)}{i:Nat}{avs as:List AV}{path:List Nat}{v:V}{p:Addr}(R:bP K H₀ Hf₀ Hf S σ H Fs) (e:S[i]?=some (some (.ow avs))) (s1:σ[i]?=some (some v)) (en:bO (.ow avs) path=some as) (h:xD H v path (.ref p)) :
  ∃vs,H p=some (.lst vs)/\as.length=vs.length/\∀(bs:List AV) (ws:List V) (Gs:List (List Addr)),bE K Hf H bs ws Gs->Gs.flatten.Nodup->(∀q∈Gs.flatten,H₀ q=none/\q∉Fs.flatten) ->
   ∃Fs',bP K H₀ Hf₀ Hf (S.set i (some (putAt (.ow avs) path (as++bs)))) σ (cW H p (.lst (vs++ws))) Fs':=by
 obtain⟨v',F,t1,t2,r,nd,oo,_⟩:=R.move e;rw[s1]at t1;cases t1;obtain⟨p',vs,Es,g1,g2,g3,g4,g5,g6,g6',g7,g8⟩:=r.path nd en;have hpp:V.ref p=V.ref p':=h.one g1;cases hpp;refine⟨vs,g2,g4.1,fun bs ws Gs rb nG oG=>?_⟩
 have pG:p∉Gs.flatten:=fun m=>(oG p m).2 (cu t2 g5)
 have hfl:(Es++Gs).flatten=Es.flatten++Gs.flatten:=fAq;obtain⟨F',k1,k2,k3⟩:=g8 (as++bs) (vs++ws) (Es++Gs) ((g4.keepUpd g6).append (rb.keepUpd pG)) (by
  rw[hfl];refine Sm.mpr ⟨fun m=>(mAq.mp m).elim g6 pG,nAq.mpr ⟨g6',nG,fun a ha b hb z=>(oG b hb).2 (cu t2 (g7 b (z ▸ ha)))⟩⟩) (fun q hq=>by
  rw[hfl]at hq;exact(mAq.mp hq).imp id fun m z=>(oG q m).2 (cu t2 z))
 refine⟨_,R.turnAny s1 t2 g5 k1 k2 fun q hq=>?_⟩
 rcases k3 q hq with z|z
 .exact oo q z
 .rw [hfl]at z;rcases mAq.mp z with z|z
  .exact oo q (g7 q z)
  .exact ⟨(oG q z).1,fun m=>(oG q z).2 (cY m)⟩
def Cs(i:Nat) (pf:MP) (k:MK):MS:=fun S=>(pf S).bind fun x=>(cL x.2 i).bind fun a0=>(bO (.ow a0) x.1).bind fun _=>(k x.2).bind fun y=>(cL y.2 i).bind fun avs=>(bO (.ow avs) x.1).bind fun as=>iR (as.length<cX) (some (.nx (y.2.set i (some (putAt (.ow avs) x.1 (as++[y.1]))))))
theorem J7{i:Nat}{tp te:TE}{pf:MP}{k:MK}(hp:Nu K i tp pf) (hk:SK K te k):SS K (oh (Ep K "list" qk tp (fk te kq))) (Cs i pf k):=by
 intro H₀ Hf₀ Hf S σ H Fs o R e D h;obtain⟨x,e1,e⟩:=oBq.mp e;obtain⟨a0,e2,e⟩:=oBq.mp e;obtain⟨n0,e3,e⟩:=oBq.mp e;obtain⟨y,e4,e⟩:=oBq.mp e;obtain⟨avs,e5,e⟩:=oBq.mp e;obtain⟨as,e6,e⟩:=oBq.mp e;rcases bp e with ⟨hl,e⟩|e
 .cases e;refine hp R (path:=x.1) (S':=x.2) e1 _ fun Hf1 H1 Fs1 v w t1 R1 s1 a1=>?_
  obtain⟨p,vs,rfl,h1,h2⟩:=lu R1 (bf e2) s1 e3 a1;refine⟨.inl ⟨rfl,vs,dP.of h1⟩,hk R1 (a:=y.1) (S':=y.2) e4 _ fun Hf2 H2 Fs2 u F t2 R2 r2 o2=>?_⟩
  obtain⟨vs',g1,g2,g3⟩:=R2.grow (bf e5) s1 e6 (a1.same t2.sh);obtain⟨Fs',R3⟩:=g3 [y.1] [u] [F] (bE.nil.snoc r2) (by rw[SZ];exact o2.nd) (fun q hq=>by rw[SZ]at hq;exact⟨o2.fr q hq,o2.out q hq⟩)
  exact⟨p,vs',u,rfl,rfl,g1,by rw[gf,←g2];exact hl,h _ _ _ _ (t1.sf.trans t2.sf) R3⟩
 .cases e
def EZ(i:Nat) (pf:MP) (l:ML):MS:=fun S=>(pf S).bind fun x=>(cL x.2 i).bind fun a0=>(bO (.ow a0) x.1).bind fun _=>(l x.2).bind fun y=>(cL y.2 i).bind fun avs=>(bO (.ow avs) x.1).bind fun as=>iR (as.length+y.1.length<=cX) (some (.nx (y.2.set i (some (putAt (.ow avs) x.1 (as++y.1.map .sh))))))
theorem IY{i:Nat}{tp te:TE}{pf:MP}{l:ML}(hp:Nu K i tp pf) (hk:SL K te l):SS K (oh (Ep K "list" sI tp (fk te kq))) (EZ i pf l):=by
 intro H₀ Hf₀ Hf S σ H Fs o R e D h;obtain⟨x,e1,e⟩:=oBq.mp e;obtain⟨a0,e2,e⟩:=oBq.mp e;obtain⟨n0,e3,e⟩:=oBq.mp e;obtain⟨y,e4,e⟩:=oBq.mp e;obtain⟨avs,e5,e⟩:=oBq.mp e;obtain⟨as,e6,e⟩:=oBq.mp e;rcases bp e with ⟨hl,e⟩|e
 .cases e;refine hp R (path:=x.1) (S':=x.2) e1 _ fun Hf1 H1 Fs1 v w t1 R1 s1 a1=>?_
  obtain⟨p,vs,rfl,h1,h2⟩:=lu R1 (bf e2) s1 e3 a1;refine⟨.inl ⟨rfl,vs,dP.of h1⟩,hk R1 (ds:=y.1) (S':=y.2) e4 _ fun Hf2 H2 Fs2 b ws t2 R2 hb r2=>?_⟩
  obtain⟨vs',g1,g2,g3⟩:=R2.grow (bf e5) s1 e6 (a1.same t2.sh);obtain⟨Fs',R3⟩:=g3 (y.1.map .sh) ws (S9 y.1.length []) (xj r2) (by rw[eB];exact Tc) (fun q hq=>by rw[eB]at hq;cases hq)
  exact⟨p,b,vs',ws,rfl,rfl,g1,hb,by rw[gf,←g2,←r2.1];exact hl,h _ _ _ _ (t1.sf.trans t2.sf) R3⟩
 .cases e
def Q6(x i:Nat) (path:List Nat) (S:AS) (σ:St) (H:Hp):Prop:=∃v p avs as,S[i]?=some (some (.ow avs))/\bO (.ow avs) path=some as/\σ[x]?=some (some (.ref p))/\σ[i]?=some (some v)/\xD H v path (.ref p)
def Eo(K:W.Frag) (x i:Nat) (t:TS) (m:List Nat->MS):Prop:=∀{path:List Nat}{H₀ Hf₀ Hf:Hp}{S:AS}{σ:St}{H:Hp}{Fs:List (List Addr)}{o:By},bP K H₀ Hf₀ Hf S σ H Fs->Q6 x i path S σ H->m path S=some o->∀D:nY,wy K H₀ Hf₀ Hf D o->t D σ H
def JF(x i:Nat) (pf:MP) (m:List Nat->MS):MS:=fun S=>(pf S).bind fun y=>(cL y.2 i).bind fun avs=>(bO (.ow avs) y.1).bind fun _=>iR (x≠i/\x<y.2.length) (m y.1 (y.2.set x none))
theorem LV{x i:Nat}{te:TE}{pf:MP}{t:TS}{m:List Nat->MS}(hp:Nu K i te pf) (hm:Eo K x i t m):SS K (Hb (Ao te (eD x)) t) (JF x i pf m):=by
 intro H₀ Hf₀ Hf S σ H Fs o R e D h;obtain⟨y,e1,e⟩:=oBq.mp e;obtain⟨avs,e2,e⟩:=oBq.mp e;obtain⟨as,e3,e⟩:=oBq.mp e;rcases bp e with ⟨⟨hne,hlt⟩,e⟩|e
 .refine hp R (path:=y.1) (S':=y.2) e1 _ fun Hf1 H1 Fs1 v w t1 R1 s1 a1=>?_
  obtain⟨p,vs,rfl,h1,h2⟩:=lu R1 (bf e2) s1 e3 a1;have R2:=(R1.kill x).any (V.ref p);refine hm R2 ⟨v,p,avs,as,?_,e3,?_,?_,a1⟩ e D (h.mono t1.sf)
  .rw [SI hne];exact bf e2
  .exact S6 (by rw[←R1.len];exact hlt)
  .rw [SI hne];exact s1
 .cases e
theorem KM{x i:Nat}{t:TS}{m:MS}(h:SS K t m):Eo K x i t (fun _=>m):=fun R _ e D o=>h R e D o
theorem GS{x i:Nat}{t u:TS}{a:List Nat->MS}{b:MS}(ha:Eo K x i t a) (hb:SS K u b):Eo K x i (Hb t u) (fun path=>aC (a path) b):=by
 intro path H₀ Hf₀ Hf S σ H Fs o R A e D h;obtain⟨y,e1,e⟩:=oBq.mp e;refine ha R A e1 _ ?_;cases y with
 |nx S'=>exact fun Hf' σ' H' Fs' s R'=>hb R' e D (h.mono s)
 |rt a=>cases e;exact h
 |bk a=>cases e;exact h
 |ct a=>cases e;exact h
def vi(i:Nat) (c:MT) (a b:List Nat->MS):List Nat->MS:=fun path S=>(c S).bind fun y=>(cL y.2 i).bind fun avs=>(bO (.ow avs) path).bind fun _=>if y.1=true then a path y.2 else b path y.2
theorem B1{x i:Nat}{c:TT}{m:MT}{t u:TS}{a b:List Nat->MS}(hc:zO K c m) (ha:Eo K x i t a) (hb:Eo K x i u b):Eo K x i (Ka c t u) (vi i m a b):=by
 intro path H₀ Hf₀ Hf S σ H Fs o R A e D h;obtain⟨y,e1,e⟩:=oBq.mp e;obtain⟨avs,e2,e⟩:=oBq.mp e;obtain⟨as,e3,e⟩:=oBq.mp e;obtain⟨v,p,_,_,_,_,s2,s1,at0⟩:=A;refine hc R (b:=y.1) (S':=y.2) e1 _ fun Hf1 H1 Fs1 t1 R1=>?_
 have A1:Q6 x i path y.2 σ H1:=⟨v,p,avs,as,bf e2,e3,s2,s1,at0.same t1.sh⟩;split at e
 .rename_i hx;rw[hx];exact Bb (ha R1 A1 e D (h.mono t1.sf))
 .rename_i hx;rw[UX]at hx;rw[hx];exact Aa (hb R1 A1 e D (h.mono t1.sf))
def Cm(i:Nat) (k:MK):List Nat->MS:=fun path S=>(k S).bind fun y=>(cL y.2 i).bind fun avs=>(bO (.ow avs) path).bind fun as=>iR (as.length<cX) (some (.nx (y.2.set i (some (putAt (.ow avs) path (as++[y.1]))))))
theorem M9{x i:Nat}{te:TE}{k:MK}(hk:SK K te k):Eo K x i (oh (Ep K "list" qk (kz x) (fk te kq))) (Cm i k):=by
 intro path H₀ Hf₀ Hf S σ H Fs o R A e D h;obtain⟨y,e4,e⟩:=oBq.mp e;obtain⟨avs,e5,e⟩:=oBq.mp e;obtain⟨as,e6,e⟩:=oBq.mp e;rcases bp e with ⟨hl,e⟩|e
 .cases e;obtain⟨v,p,a0,n0,e2,e3,s2,s1,at0⟩:=A;obtain⟨p',vs,hp,h1,h2⟩:=lu R e2 s1 e3 at0;cases hp;refine⟨.ref p,s2,.inl ⟨rfl,vs,dP.of h1⟩,hk R (a:=y.1) (S':=y.2) e4 _ fun Hf2 H2 Fs2 u F t2 R2 r2 o2=>?_⟩
  obtain⟨vs',g1,g2,g3⟩:=R2.grow (bf e5) s1 e6 (at0.same t2.sh);obtain⟨Fs',R3⟩:=g3 [y.1] [u] [F] (bE.nil.snoc r2) (by rw[SZ];exact o2.nd) (fun q hq=>by rw[SZ]at hq;exact⟨o2.fr q hq,o2.out q hq⟩)
  exact⟨p,vs',u,rfl,rfl,g1,by rw[gf,←g2];exact hl,h _ _ _ _ t2.sf R3⟩
 .cases e
def Bx(i:Nat) (l:ML):List Nat->MS:=fun path S=>(l S).bind fun y=>(cL y.2 i).bind fun avs=>(bO (.ow avs) path).bind fun as=>iR (as.length+y.1.length<=cX) (some (.nx (y.2.set i (some (putAt (.ow avs) path (as++y.1.map .sh))))))
theorem K4{x i:Nat}{te:TE}{l:ML}(hk:SL K te l):Eo K x i (oh (Ep K "list" sI (kz x) (fk te kq))) (Bx i l):=by
 intro path H₀ Hf₀ Hf S σ H Fs o R A e D h;obtain⟨y,e4,e⟩:=oBq.mp e;obtain⟨avs,e5,e⟩:=oBq.mp e;obtain⟨as,e6,e⟩:=oBq.mp e;rcases bp e with ⟨hl,e⟩|e
 .cases e;obtain⟨v,p,a0,n0,e2,e3,s2,s1,at0⟩:=A;obtain⟨p',vs,hp,h1,h2⟩:=lu R e2 s1 e3 at0;cases hp;refine⟨.ref p,s2,.inl ⟨rfl,vs,dP.of h1⟩,hk R (ds:=y.1) (S':=y.2) e4 _ fun Hf2 H2 Fs2 b ws t2 R2 hb r2=>?_⟩
  obtain⟨vs',g1,g2,g3⟩:=R2.grow (bf e5) s1 e6 (at0.same t2.sh);obtain⟨Fs',R3⟩:=g3 (y.1.map .sh) ws (S9 y.1.length []) (xj r2) (by rw[eB];exact Tc) (fun q hq=>by rw[eB]at hq;cases hq)
  exact⟨p,b,vs',ws,rfl,rfl,g1,hb,by rw[gf,←g2,←r2.1];exact hl,h _ _ _ _ t2.sf R3⟩
 .cases e
def xU(i:Nat) (mm:ME):List Nat->MS:=fun path S=>(cL S i).bind fun avs=>(bO (.ow avs) path).bind fun as=>(mm (S.set i none)).bind fun y=>iR (y.2[i]?=some none/\as.length<cX) (some (.nx (y.2.set i (some (putAt (.ow avs) path (as++[.sh y.1]))))))
theorem Ii{x i:Nat}{te:TE}{mm:ME}(hk:SM K te mm):Eo K x i (oh (Ep K "list" qk (kz x) (fk te kq))) (xU i mm):=by
 intro path H₀ Hf₀ Hf S σ H Fs o R A e D h;obtain⟨avs,e2,e⟩:=oBq.mp e;obtain⟨as,e3,e⟩:=oBq.mp e;obtain⟨y,e4,e⟩:=oBq.mp e;rcases bp e with ⟨⟨hn,hl⟩,e⟩|e
 .cases e;obtain⟨v,p,a0,n0,_,_,s2,s1,at0⟩:=A;have e2':=bf e2;obtain⟨p',vs,hp,h1,h2⟩:=lu R e2' s1 e3 at0;cases hp;obtain⟨v',F,t1,t2,r,nd,oo,_⟩:=R.move e2';rw[s1]at t1;cases t1;refine⟨.ref p,s2,.inl ⟨rfl,vs,dP.of h1⟩,hk (R.frame t2) (d:=y.1) (S':=y.2) e4 _ fun Hf2 H2 Fs2 u t3 R2 r2=>?_⟩
  obtain⟨k1,k2,R3⟩:=R.unframe t2 r nd (fun q hq=>(oo q hq).1) R2 hn s1 t3
  have hlt:i<y.2.length:=(gSq.mp hn).1;have e5:(y.2.set i (some (.ow avs)))[i]?=some (some (.ow avs)):=S6 hlt;obtain⟨vs',g1,g2,g3⟩:=R3.grow e5 s1 e3 (at0.kept r e3 k1);obtain⟨Fs',R4⟩:=g3 [.sh y.1] [u] [[]] (bE.nil.snoc (.sh r2)) (by simp) (fun q hq=>by simp at hq)
  rw[WL]at R4;exact⟨p,vs',u,rfl,rfl,g1,by rw[gf,←g2];exact hl,h _ _ _ _ t3 R4⟩
 .cases e
def Nr(K:W.Frag) (J:List Nat) (t:TS) (m:MS):Prop:=∀{H₀ Hf₀ Hf:Hp}{S:AS}{σ:St}{H:Hp}{Fs:List (List Addr)}{S':AS},bP K H₀ Hf₀ Hf S σ H Fs->m S=some (.nx S')->∀D:nY,(∀Hf' σ' H' Fs',bW Hf Hf'->bP K H₀ Hf₀ Hf' S' σ' H' Fs'->(∀j∈J,σ'[j]?=σ[j]?)->D.nx σ' H')->t D σ H
theorem E8{J:List Nat}{t:TS}(h:∀D σ H,D.nx σ H->t D σ H):Nr K J t bD:=by
 intro H₀ Hf₀ Hf S σ H Fs S' R e D q;cases e;exact h _ _ _ (q _ _ _ _ (.refl _) R fun _ _=>rfl)
theorem Cg{J:List Nat}{y:Nat}{te:TE}{k:MK}(hk:SK K te k) (hJ:y∉J):Nr K J (Ao te (eD y)) (aO y k):=by
 intro H₀ Hf₀ Hf S σ H Fs S' R e D q;obtain⟨x,e1,e⟩:=oMq.mp e;cases e;refine hk R (a:=x.1) (S':=x.2) e1 _ fun Hf1 H1 Fs1 v F t1 R1 r1 o1=>?_
 exact q _ _ _ _ t1.sf (R1.set y r1 o1.nd fun q hq=>⟨o1.fr q hq,o1.out q hq⟩) fun j hj=>SI (show y≠j from fun z=>hJ (by rw[z];exact hj))
theorem LQ{J:List Nat}{c:TT}{m:MT}{t u:TS}{a b:MS}(hc:zO K c m) (ha:Nr K J t a) (hb:Nr K J u b):Nr K J (Ka c t u) (jM m a b):=by
 intro H₀ Hf₀ Hf S σ H Fs S' R e D q;obtain⟨x,e1,e⟩:=oBq.mp e;refine hc R (b:=x.1) (S':=x.2) e1 _ fun Hf1 H1 Fs1 t1 R1=>?_
 split at e
 .rename_i hx;rw[hx];exact Bb (ha R1 e D fun Hf' σ' H' Fs' s R' j=>q _ _ _ _ (t1.sf.trans s) R' j)
 .rename_i hx;rw[UX]at hx;rw[hx];exact Aa (hb R1 e D fun Hf' σ' H' Fs' s R' j=>q _ _ _ _ (t1.sf.trans s) R' j)
def Ai(i:Nat) (a:MS) (m:List Nat->MS):List Nat->MS:=fun path S=>(cL S i).bind fun avs=>(a (S.set i none)).bind fun o=>match o with
 | .nx S1=>iR (S1[i]?=some none) (m path (S1.set i (some (.ow avs))))
 |_=>none
theorem E7{x i:Nat}{t u:TS}{a:MS}{m:List Nat->MS}(ha:Nr K [x,i] t a) (hm:Eo K x i u m):Eo K x i (Hb t u) (Ai i a m):=by
 intro path H₀ Hf₀ Hf S σ H Fs o R A e D h;obtain⟨avs,e2,e⟩:=oBq.mp e;obtain⟨oo,e3,e⟩:=oBq.mp e;cases oo with
 |nx S1 =>
  rcases bp (show iR (S1[i]?=some none) (m path (S1.set i (some (.ow avs))))=some o from e) with ⟨hn,e⟩|e
  .obtain ⟨v,p,a0,n0,e2',e4,s2,s1,at0⟩:=A;have e5:=bf e2;rw[e5]at e2';cases e2';obtain⟨v',F,t1,t2,r,nd,ow,_⟩:=R.move e5;rw[s1]at t1;cases t1;refine ha (R.frame t2) e3 _ fun Hf' σ' H' Fs' s R' hJ=>?_
   have j1:σ'[x]?=σ[x]?:=hJ x (by simp)
   have j2:σ'[i]?=σ[i]?:=hJ i (by simp)
   obtain⟨k1,k2,R3⟩:=R.unframe t2 r nd (fun q hq=>(ow q hq).1) R' hn (j2.trans s1) s
   have hlt:i<S1.length:=(gSq.mp hn).1;exact hm R3 ⟨v,p,avs,n0,S6 hlt,e4,j1.trans s2,j2.trans s1,at0.kept r e4 k1⟩ e D (h.mono s)
  .cases e
 |_=>cases e
end
theorem NV(S:AS) (i:Nat):Ax i S=(cL S i).map fun _=>([],S):=rfl
theorem QB(S:AS) (i:Nat) (pf:MP) (b:ME):HM i pf b S=(pf S).bind fun x=>(b x.2).bind fun y=>(intOf y.1).bind fun j=>(cL y.2 i).bind fun avs=>(bO (.ow avs) x.1).bind fun as=>(xf as.length j).map fun n=>(x.1++[n],y.2):=rfl
theorem KZ(S:AS) (i:Nat) (pf:MP) (k:MK):Cs i pf k S=(pf S).bind fun x=>(cL x.2 i).bind fun a0=>(bO (.ow a0) x.1).bind fun _=>(k x.2).bind fun y=>(cL y.2 i).bind fun avs=>(bO (.ow avs) x.1).bind fun as=>iR (as.length<cX) (some (.nx (y.2.set i (some (putAt (.ow avs) x.1 (as++[y.1])))))):=rfl
theorem Nk(S:AS) (i:Nat) (pf:MP) (l:ML):EZ i pf l S=(pf S).bind fun x=>(cL x.2 i).bind fun a0=>(bO (.ow a0) x.1).bind fun _=>(l x.2).bind fun y=>(cL y.2 i).bind fun avs=>(bO (.ow avs) x.1).bind fun as=>iR (as.length+y.1.length<=cX) (some (.nx (y.2.set i (some (putAt (.ow avs) x.1 (as++y.1.map .sh)))))):=rfl
theorem ON(S:AS) (x i:Nat) (pf:MP) (m:List Nat->MS):JF x i pf m S=(pf S).bind fun y=>(cL y.2 i).bind fun avs=>(bO (.ow avs) y.1).bind fun _=>iR (x≠i/\x<y.2.length) (m y.1 (y.2.set x none)):=rfl
theorem Oo(S:AS) (i:Nat) (c:MT) (a b:List Nat->MS) (path:List Nat):vi i c a b path S=(c S).bind fun y=>(cL y.2 i).bind fun avs=>(bO (.ow avs) path).bind fun _=>if y.1=true then a path y.2 else b path y.2:=rfl
theorem M1(S:AS) (i:Nat) (k:MK) (path:List Nat):Cm i k path S=(k S).bind fun y=>(cL y.2 i).bind fun avs=>(bO (.ow avs) path).bind fun as=>iR (as.length<cX) (some (.nx (y.2.set i (some (putAt (.ow avs) path (as++[y.1])))))):=rfl
theorem KU(S:AS) (i:Nat) (l:ML) (path:List Nat):Bx i l path S=(l S).bind fun y=>(cL y.2 i).bind fun avs=>(bO (.ow avs) path).bind fun as=>iR (as.length+y.1.length<=cX) (some (.nx (y.2.set i (some (putAt (.ow avs) path (as++y.1.map .sh)))))):=rfl
theorem IT(S:AS) (i:Nat) (mm:ME) (path:List Nat):xU i mm path S=(cL S i).bind fun avs=>(bO (.ow avs) path).bind fun as=>(mm (S.set i none)).bind fun y=>iR (y.2[i]?=some none/\as.length<cX) (some (.nx (y.2.set i (some (putAt (.ow avs) path (as++[.sh y.1])))))):=rfl
def Oe(i:Nat) (avs:List AV) (m:List Nat->MS) (path:List Nat):By->Option By
 | .nx S1=>iR (S1[i]?=some none) (m path (S1.set i (some (.ow avs))))
 |_=>none
theorem Pb(S:AS) (i:Nat) (a:MS) (m:List Nat->MS) (path:List Nat):Ai i a m path S=(cL S i).bind fun avs=>(a (S.set i none)).bind (Oe i avs m path):=by
 unfold Ai;congr 1
theorem Ip(i:Nat) (avs:List AV) (m:List Nat->MS) (path:List Nat) (S1:AS):Oe i avs m path (.nx S1)=iR (S1[i]?=some none) (m path (S1.set i (some (.ow avs)))):=rfl
theorem zR(avs:List AV):bO (.ow avs) []=some avs:=rfl
theorem nq(avs:List AV) (j:Nat) (js:List Nat):bO (.ow avs) (j::js)=(avs[j]?).bind fun a=>bO a js:=rfl
theorem oA{avs:List AV}{j:Nat}{js:List Nat}{as:List AV}{a:AV}(h:avs[j]?=some a):putAt (.ow avs) (j::js) as = .ow (avs.set j (putAt a js as)):=by
 show (match avs[j]? with|some a=>_|none=>_)=_
 rw[h]
def RJ:=Sf @NV (Sf @QB (Sf @KZ (Sf @Nk (Sf @ON (Sf @Oo (Sf @M1 (Sf @KU (Sf @IT (Sf @Pb (Sf @Ip @zR))))))))))
section
variable {K:W.Frag}
def xK(m:ME):MS:=fun S=>(m S).map fun x=>.nx x.2
theorem HJ{te:TE}{m:ME}(h:SM K te m):SS K (oh te) (xK m):=by
 intro H₀ Hf₀ Hf S σ H Fs o R e D hd;obtain⟨x,e1,e⟩:=oMq.mp e;cases e;exact h R (d:=x.1) (S':=x.2) e1 _ fun Hf1 H1 Fs1 v t1 R1 r1=>hd _ _ _ _ t1 R1
def RI(i:Nat):MS:=fun S=>(cL S i).map fun avs=>.nx (S.set i (some (.ow avs.reverse)))
end
theorem JD(S:AS) (m:ME):xK m S=(m S).map fun x=>.nx x.2:=rfl
def R7:=@JD
section
variable {K:W.Frag}
theorem dt.fd_inv{H:Hp}{ds:List (aX×D)}{v:V}(h:dt K H (.fd ds) v):∃p o kvs,v = .ref p/\H p=some (.frz o (.dK kvs))/\gL K H ds kvs:=by
 cases h with
 |fd h l e=>exact⟨_,_,_,rfl,h,l,e⟩
noncomputable def JZ:D->Option (List (aX×D))
 | .fd kvs=>some kvs
 |_=>none
theorem Jl{d:D}{kvs:List (aX×D)}(h:JZ d=some kvs):d = .fd kvs:=by
 cases d <;> first|(cases h;rfl)|cases h
def xh(a b:ME):ME:=fun S=>(a S).bind fun x=>(b x.2).bind fun y=>(JZ x.1).bind fun kvs=>(iz y.1).bind fun key=>(getD kvs key).map fun d=>(d,y.2)
theorem yl{ta tb:TE}{a b:ME}(ha:SR K ta a) (hb:SR K tb b):SR K (Et ta tb) (xh a b):=by
 intro H₀ Hf₀ Hf S σ H Fs d S' R e Q q;obtain⟨x,e1,e⟩:=oBq.mp e;obtain⟨y,e2,e⟩:=oBq.mp e;obtain⟨kvs,e3,e⟩:=oBq.mp e;obtain⟨key,e4,e⟩:=oBq.mp e;obtain⟨d',e5,e⟩:=oMq.mp e;cases e;refine ha R (d:=x.1) (S':=x.2) e1 _ fun Hf1 H1 Fs1 v1 t1 R1 r1=>hb R1 (d:=y.1) (S':=y.2) e2 _ fun Hf2 H2 Fs2 v2 t2 R2 r2=>?_
 rw[Jl e3]at r1;obtain⟨p,o,vs,rfl,h1,h2⟩:=(r1.mono t2.sh).fd_inv;have g:=pJ (key:=key) h2;rw[e5]at g;obtain⟨v,g1,g2⟩:=g;exact⟨p,v,rfl,by rw[jj e4 r2,←g1];exact .inl ⟨vs,key,.inr ⟨o,h1⟩,rfl,rfl⟩,q _ _ _ _ (t1.trans t2) R2 g2⟩
theorem G0{ob:Obj}{d:Addr}{kvs:List (aX×V)}{i1:Nat}{tb:TS}{D:nY}{σ:St}{H:Hp}(Pv:Nat->St->Hp->Prop) (h0:Pv 0 σ H) (hl:∀i σ H,Pv i σ H->H d=some (.frz ob (.dK kvs)))
  (hs:∀i p σ H,kvs[i]?=some p->Pv i σ H->tb { D with nx:=Pv (i+1),ct:=Pv (i+1),bk:=D.nx } (σ.set i1 (some (kV p.1))) H) (hd:∀σ H,Pv kvs.length σ H->D.nx σ H) :
  ∃W:Nat->Nat->St->Hp->Prop,(∃m,W 0 m σ H)/\∀i m σ H,W i m σ H ->
   ((OE ob d kvs).stop i H/\D.nx σ H)∨((OE ob d kvs).go i H/\∃N:St->Hp->Prop,(∀σ' H',N σ' H'->∃m',m'<m/\W (i+1) m' σ' H')/\∀x H',(OE ob d kvs).yld i H x H'->eD i1 x σ H' fun σ2 H2=>tb { D with nx:=N,ct:=N,bk:=D.nx } σ2 H2):=by
 refine⟨fun i m σ H=>m=kvs.length-i/\i<=kvs.length/\Pv i σ H,⟨kvs.length,by simp,Tf _,h0⟩,?_⟩
 rintro i m σ H ⟨rfl,hi,p⟩;have q:=hl i σ H p
 by_cases hlt:i<kvs.length
 .refine .inr ⟨⟨q,kvs[i],by simp[hlt]⟩,Pv (i+1),fun σ' H' p'=>⟨kvs.length-(i+1),by lia,rfl,hlt,p'⟩,fun v H' y=>?_⟩
  obtain⟨rfl,x,hx,rfl⟩:=y;exact hs i x σ H' hx p
 .have e:i=kvs.length:=by lia
  subst e;exact .inl ⟨⟨q,Sg _⟩,hd σ H p⟩
def CD(x i:Nat) (body:MS):MS:=fun S=>(iM S i).bind fun kvs=>iR (x≠i) (dg x body (kvs.map fun p=>kD p.1) (S.set i (some (.sh (.fd kvs)))))
theorem Co{x i:Nat}{tb:TS}{body:MS}(hb:SS K tb body):SS K (DG (Ky (kz i)) (eD x) tb) (CD x i body):=by
 intro H₀ Hf₀ Hf S σ H Fs o R e D h;obtain⟨ds,e1,e⟩:=oBq.mp e;rcases bp e with ⟨hne,e⟩|e
 .have e1':=jG e1;obtain⟨p,kvs,s1,s2,h1,h2,h3,h4,h5⟩:=R.owd e1';refine⟨_,s1,p,kvs,rfl,h1,fun ob=>?_⟩
  obtain⟨v,F,t1,t2,r,nd,oo,R1⟩:=R.move e1';rw[s2]at t2;cases t2;have R2:=bP.fix R1 (p:=p) (o:=.frz ob (.dK kvs)) h5 h2 h4;have s3:bW Hf (cW Hf p (.frz ob (.dK kvs))):=gw h2;have h3':gL K (cW Hf p (.frz ob (.dK kvs))) ds kvs:=⟨h3.1,fun i d v a b=>(h3.2 i d v a b).mono s3⟩
  have R3:bP K H₀ Hf₀ (cW Hf p (.frz ob (.dK kvs))) (S.set i (some (.sh (.fd ds)))) σ (cW H p (.frz ob (.dK kvs))) (Fs.set i []) :=
   R2.again (F:=[]) s1 (.sh (.fd aR h3'.1 h3'.2)) Tc fun q hq=>by cases hq
  have hlen:ds.length=kvs.length:=by have:=congrArg TJ h3.1;simpa using this
  refine G0 (fun n σ' H'=>∃Hf' S' Fs',bP K H₀ Hf₀ Hf' S' σ' H' Fs'/\bW (cW Hf p (.frz ob (.dK kvs))) Hf'/\dg x body ((ds.map fun p=>kD p.1).drop n) S'=some o) ⟨_,_,_,R3,.refl _,e⟩
   (fun n σ' H' ⟨Hf',S',Fs',R',s',_⟩=>R'.sub _ _ (s' _ _ aR)) ?_ ?_
  .rintro n w σ' H' hw ⟨Hf',S',Fs',R',s',e'⟩;have hn:n<ds.length:=by rw[hlen];exact(gSq.mp hw).1
   have hk:(ds.map fun p=>kD p.1)[n]?=some (kD w.1):=by
    have:=congrArg (fun l=>l[n]?) h3.1
    simp only[gMq,hw,Uh]at this;rw[gMq];cases hd:ds[n]? with
    |none=>rw[hd]at this;cases this
    |some dd =>
     rw[hd]at this;rw[Uh,show dd.1=w.1 from Sz.inj this]
   have hlt:n<(ds.map fun p=>kD p.1).length:=by rw[lMq];exact hn
   rw[SW hlt,(gSq.mp hk).2]at e';obtain⟨o2,e3,e4⟩:=oBq.mp e';refine hb (R'.setD x (IV w.1)) e3 _ ?_;cases o2 with
   |nx S2=>exact fun Hf2 σ2 H2 Fs2 s4 R4=>⟨Hf2,S2,Fs2,R4,s'.trans s4,e4⟩
   |ct S2=>exact fun Hf2 σ2 H2 Fs2 s4 R4=>⟨Hf2,S2,Fs2,R4,s'.trans s4,e4⟩
   |bk S2=>cases e4;exact fun Hf2 σ2 H2 Fs2 s4 R4=>h _ _ _ _ ((s3.trans s').trans s4) R4
   |rt a=>cases e4;exact h
  .rintro σ' H' ⟨Hf',S',Fs',R',s',e'⟩;rw[←hlen,show ds.length=(ds.map fun p=>kD p.1).length from (lMq _).symm,UA]at e'
   cases e';exact h _ _ _ _ (s3.trans s') R'
 .cases e
end
theorem Io(kvs:List (aX×D)):JZ (.fd kvs)=some kvs:=rfl
theorem Ic(S:AS) (a b:ME):xh a b S=(a S).bind fun x=>(b x.2).bind fun y=>(JZ x.1).bind fun kvs=>(iz y.1).bind fun key=>(getD kvs key).map fun d=>(d,y.2):=rfl
theorem LL(S:AS) (x i:Nat) (body:MS):CD x i body S=(iM S i).bind fun kvs=>iR (x≠i) (dg x body (kvs.map fun p=>kD p.1) (S.set i (some (.sh (.fd kvs))))):=rfl
def RP:=Sf @Io (Sf @Ic @LL)
def RX:=Sf zq (Sf RH (Sf RU (Sf RO (Sf RL (Sf RW (Sf RJ (Sf R7 (RP))))))))
end Z
local macro_rules | `(tactic| simp_arith [$ls,*]) => `(tactic| simp -implicitDefEqProofs only [Z.RX,Nat.reduceAdd,Nat.reduceSub,Nat.reduceEqDiff,Nat.reduceLeDiff,List.reduceReplicate,↓reduceIte,reduceCtorEq,$ls,*])
namespace Mr
open PySem PySem.Spec PyProof.Rows L2
theorem Dz:typeLookup (.type "list_reverseiterator") "__len__" = pure none:=by rw[typeLookup_type,builtinLookup_eq_fast];kernel_rfl
theorem Fp:typeLookup (.type "list_reverseiterator") "__length_hint__" = pure (some (.builtin "list_reverseiterator.__length_hint__")):=by rw[typeLookup_type,builtinLookup_eq_fast];kernel_rfl
section
variable {prog:Program}{w:World}{A:Around}{E:Value->Shared->Prop}{s:Shared}
theorem Fd{r:Addr}{Q:Bool->Shared->Prop}(hT:s.TypeIs (.ref r) "list_reverseiterator") (h:Q false s):wpAny (model prog w) A (Builtin.List.listLengthHint (.ref r)) Q E s:=by
 unfold Builtin.List.listLengthHint;refine wpAny_bind (wpAny_specialOf hT Dz ?_);show wpAny _ A (specialOf (TY r) (Str.ofString "__length_hint__") >>= _) _ _ _;refine wpAny_bind (wpAny_specialOf hT Fp ?_);generalize hid:("list_reverseiterator.__length_hint__" : String)=id0
 wp_delta
 rw[show splitId id0=some ("list_reverseiterator", "__length_hint__") from by subst hid;decide +kernel]
 subst hid;refine wpAny_bind (wpAny_isInstance (T := "list_reverseiterator") (b:=true) hT (by rw[isSubtype_type];kernel_rfl) ?_)
 exact wpAny_pure h
def Qj(items:Array Value) (i:Nat) (v:Value):Prop:=items[items.size-1-i]?=some v
theorem Iz{R:Result->Shared->Prop}{I l:Addr}{items:Array Value}(hh:A.handled=none) (hne:l≠I) (hit:s.heap.IsRevIter I l ((items.size:Int)-1)) (hl:s.heap.IsList l items) (S:Addr) (hSI:S≠I) (hSl:S≠l) (res:Value) (c₀:Nat) (hS:s.heap.get? S=some { cls:=.type "list", data:=.seq #[] c₀ })
  (hR:∀h' tk acc' c',(∀b o,b≠S->b≠I->s.heap.get? b=some o->h'.get? b=some o)->h'.get? S=some { cls:=.type "list", dict:=none,data:=.seq acc' c',slots:=#[] }->ItemsOf (Qj items) acc' items.size->R (.ok (.ret res)) { s with heap:=h',toks:=tk }) (hn:items.size<=sizeLine) :
  wpAny (model prog w) A.in1 (Builtin.List.listExtendWith (.ref S) (.ref I) res)
   (fun fin s'=>match fin with|.done f=>R (.ok f) s'|.again c'=>c'.quiet=true/\codeAny (model prog w) A c' R s') (fun e s'=>R (.error e) s') s:=by
 have hSf:S∉[I,l]:=by simp only[Si,UV,or_false,not_or];exact⟨hSI,hSl⟩
 have W:=Walks.listRev (prog:=prog) (w:=w) (A:=A.in1) hh I l hne items;have st:(0:Nat)<=items.size/\s.heap.IsRevIter I l ((items.size:Int)-1-((0:Nat):Int))/\s.heap.IsList l items:=⟨Tf _,by rw[show (items.size:Int)-1-((0:Nat):Int)=(items.size:Int)-1 by lia];exact hit,hl⟩
 unfold Builtin.List.listExtendWith;refine wpAny_bind (wpAny_typeOf (T := "list_reverseiterator") hit.typeIs ?_);have h1:Builtin.List.listSameRef (.ref S) (.ref I)=false:=by simp[Builtin.List.listSameRef,hSI]
 have h2:(U8 "list_reverseiterator" == U8 "list")=false:=by decide
 have h3:(U8 "list_reverseiterator" == U8 "tuple")=false:=by decide
 simp only[h1,h2,h3,Bool.or_false,Vk,if_false];refine wpAny_bind (PySem.wpAny_pyIter_revIter hit ?_);refine wpAny_bind (wpAny_holding (Fd hit.typeIs ?_));rw[if_neg (by decide)]
 refine wpAny_pure ⟨plainId_quiet PySem.F.plain_extend_loop _,?_⟩;refine codeAny_extend_loopS W.toS hn S hSf res items.size 0 _ #[] c₀ rfl (Tf _) st hS (ItemsOf.nil _) fun s' acc' c' hm hS' hacc=>?_
 rw[Moved.eq_with hm];refine hR s'.heap s'.toks acc' c' (fun b o hb hI e=>hm.heap b o (fun hmem=>?_) e) hS' hacc
 rcases Si.mp hmem with e'|hmem
 .exact hb e'
 .exact hI (mSq.mp hmem)
theorem DV{Q:Value->Shared->Prop}{I l:Addr}{items:Array Value}(hh:A.handled=none) (hne:l≠I) (hit:s.heap.IsRevIter I l ((items.size:Int)-1)) (hl:s.heap.IsList l items) (hn:items.size<=sizeLine)
  (hQ:∀h' tk acc' c',(∀b o,b≠I->s.heap.get? b=some o->h'.get? b=some o)->h'.get? s.heap.objs.size=some { cls:=.type "list", dict:=none,data:=.seq acc' c',slots:=#[] }->ItemsOf (Qj items) acc' items.size->Q (.ref s.heap.objs.size) { s with heap:=h',toks:=tk }) :
  wpAny (model prog w) A (call (.type "list") [.ref I]) Q E s:=by
 refine callType_codes (Q₁:=fun obj s₁=>obj = .ref s.heap.objs.size/\s₁={ s with heap:=s.heap.push { cls:=.type "list", data:=.seq #[] } }) PySem.F.called_list (PySem.F.typeCall_list_1 _) PySem.F.entry_list_init
  (code_list_new _ ⟨rfl,rfl⟩) fun obj s₁ h₁=>?_
 obtain⟨rfl,rfl⟩:=h₁;have hS:(s.heap.push { cls:=.type "list", data:=.seq #[] }).get? s.heap.objs.size=some { cls:=.type "list", data:=.seq #[] }:=Tp _ rfl;have hI:I<s.heap.objs.size:=let ⟨_,ho,_⟩:=hit;Sl ho
 have hL:l<s.heap.objs.size:=let ⟨_,ho,_⟩:=hl;Sl ho
 refine⟨⟨_,hS,rfl⟩,PySem.F.args_list_init_2 _ _,?_⟩;show wpAny _ _ (do let old ←Builtin.List.listItems (.ref s.heap.objs.size);Builtin.List.listUpdate (.ref s.heap.objs.size) (fun _=>#[]);letGo old.toList.reverse;Builtin.List.listExtendWith (.ref s.heap.objs.size) (.ref I) .none) _ _ _
 refine wpAny_bind ?_;unfold Builtin.List.listItems;refine wpAny_bind (wpAny_seqItems hS rfl (wpAny_pure ?_));show wpAny _ _ (updateSeq s.heap.objs.size (fun _=>#[]) >>= fun _=>letGo (#[]:Array Value).toList.reverse >>= fun _=>Builtin.List.listExtendWith (.ref s.heap.objs.size) (.ref I) .none) _ _ _
 refine wpAny_bind (wpAny_updateSeq hS rfl ?_);have hS₂:=Heap.get?_update_self (Obj.mapSeq (fun _=>(#[]:Array Value))) hS rfl
 have oth:∀b o,b≠s.heap.objs.size->s.heap.get? b=some o->((s.heap.push { cls:=.type "list", data:=.seq #[] }).update s.heap.objs.size (Obj.mapSeq (fun _=>(#[]:Array Value)))).get? b=some o :=
  fun b o hb e=>(Wg _ _ (Ne.symm hb)).trans (Sn _ e)
 refine wpAny_bind (wpAny_letGo ?_);refine Iz (A:=A.in1) (I:=I) (l:=l) (items:=items) hh hne (hit.at fun o e=>oth I o (SU hI) e) (hl.at fun o e=>oth l o (SU hL) e) s.heap.objs.size (UY hI) (UY hL) .none _ hS₂ (fun h' tk acc' c' hk hS' hacc=>?_) hn
 exact⟨rfl,hQ h' tk acc' c' (fun b o hb e=>hk b o (SU (Sl e)) hb (oth b o (SU (Sl e)) e)) hS' hacc⟩
end
section
variable {X:Cx}
def KL(K:W.Frag) (xs:List V) (H:Hp) (Q:VK):Prop:=∃a ys,xs=[.ref a]/\dP K H a ys/\∀l,H l=none->Q (.ref l) (cW H l (.lst ys.reverse))
theorem JC{e:Expr}{ta:TA}{p0 p pos0 pos:Pos}(hc:X.calm=true) (gl:Gl X "list") (ml:X.mg "list" = none) (hg:Gl X "reversed") (hm:X.mg "reversed" = none) (ha:PA X [e] ta)
  (he:starEach [.Call (.Name "reversed" p) [e] [] pos] X.env=(false,eval (.Call (.Name "reversed" p) [e] [] pos) X.env)::starEach [] X.env:=by rfl) (hs:starEach [e] X.env=[(false,eval e X.env)]:=by rfl) :
  PE X (.Call (.Name "list" p0) [.Call (.Name "reversed" p) [e] [] pos] [] pos0) (HW (KL X.K) ta):=by
 intro ab s σ H Q I h;refine wpAny_Call_Name_kw (mY I gl ml boot_list ?_ (by decide) (by decide))
 refine TU ?_ he (by rfl)
 rw[he];show wpAny _ _ (spliced ((false,eval (.Call (.Name "reversed" p) [e] [] pos) X.env)::backTo pos0 (starEach [] X.env))) _ _ s;refine Calls.spliced_cons ?_;refine Call_ (mY I hg hm boot_reversed (TU (eE (ha pos ab s σ H _ I h) fun us s1 ⟨vs,H1,I1,r1,q1⟩=>?_) hs rfl))
 obtain⟨a,xs,e1,hq,q⟩:=q1;subst e1;obtain⟨u,rfl,ru⟩:=oe r1;cases ru;obtain⟨its,rv,p1,hz⟩:=I1.list hq;have hlen:=rv.length;have hit:Heap.IsRevIter (s1.heap.push (PySem.revObj a ((its.toArray.size:Int)-1))) s1.heap.objs.size a ((its.toArray.size:Int)-1):=⟨_,Tp _ rfl,rfl,rfl⟩;have hla:a<s1.heap.objs.size:=let ⟨_,ho,_⟩:=p1.isList;Sl ho
 refine PySem.call_reversed_list p1.isList (Calls.spliced_nil ?_);refine DV (s:={ s1 with heap:=s1.heap.push (PySem.revObj a ((its.toArray.size:Int)-1)) }) (I1.ok.hd hc) (SU hla) hit (p1.isList.at fun o e=>Sn _ e) (by simp only[Sx];lia) fun h' tk acc c hk hS hacc=>?_
 have hsz:(s1.heap.push (PySem.revObj a ((its.toArray.size:Int)-1))).objs.size=s1.heap.objs.size+1:=by first|rfl|simp[Heap.push]
 have hac:acc.toList=its.reverse:=by
  refine Uw fun j=>?_
  by_cases hj:j<its.length
  .have hs':acc.size=its.length:=by rw[hacc.1];simp
   have h1:acc[j]?=some acc[j]:=Sh (by lia)
   have h2:=hacc.2 j _ h1;unfold Qj at h2;rw[Vc hj,SJ,h1,←h2];simp
  .have hs':acc.size=its.length:=by rw[hacc.1];simp
   rw[S0 (by rw[Sv];lia),S0 (by rw[Uj];lia)]
 rw[hsz]at hS;refine⟨.ref (s1.heap.objs.size+1),cW H1 (s1.heap.objs.size+1) (.lst xs.reverse),I1.laid (t':=tk) (fun b o e=>hk b o (SU (Sl e)) (Sn _ e)) (Ua _) (show dA X.prog X.w _ h' _ (.lst xs.reverse) from ⟨by rw[Uj];exact hz,acc.toList,c,by rw[hac];exact rv.reverse,by simpa using hS⟩),by rw[hsz];rfl,q _ (I1.hok.fresh (Ua _))⟩
end
end Mr
namespace Z
open PySem L2 Mr
noncomputable def BJ(l:ML):MK:=fun S=>(l S).map fun x=>(.ow (x.1.reverse.map .sh),x.2)
section
variable {K:W.Frag}{te:TE}{l:ML}
theorem Jz(hl:SQ K te l):SK K (HW (KL K) (fk te kq)) (BJ l):=by
 intro H₀ Hf₀ Hf S σ H Fs av S' R e Q q;obtain⟨x,e1,e⟩:=oMq.mp e;cases e;refine hl R (ds:=x.1) (S':=x.2) e1 _ fun Hf1 H1 Fs1 p1 vs1 t1 R1 h1 r1=>⟨p1,vs1,rfl,h1,fun p hp=>?_⟩
 obtain⟨t4,R4,n1,n2,n3⟩:=R1.new (o:=.lst vs1.reverse) hp;exact q _ _ _ (.ref p) [p] (t1.trans t4) R4 (bC.new aR n1 r1.reverse) ((mP.one R1 hp).back t1)
end
theorem KY(l:ML) (S:AS):BJ l S=(l S).map fun x=>(.ow (x.1.reverse.map .sh),x.2):=rfl
mutual
def gS:AV->Bool
 | .sh d=>d.scal
 | .ow l=>oN l
 | .owd kvs=>kvs.all fun p=>p.2.scal
def oN:List AV->Bool
 | []=>true
 |a::l=>gS a && oN l
end
theorem uo:∀{l:List AV},oN l=true->∀a∈l,gS a=true
 | [],_,a,h=>by cases h
 |b::l,hc,a,h=>by
  rw[oN,Uk]at hc;rcases Si.mp h with e|e
  .rw [e];exact hc.1
  .exact uo hc.2 a e
theorem qU:∀{l:List AV},(∀a∈l,gS a=true)->oN l=true
 | [],_=>by rw[oN]
 |b::l,h=>by rw[oN,h b (Ss ..),qU fun a ha=>h a (mCo _ ha)];rfl
section
variable {K:W.Frag}{Hf Hf' H:Hp}
theorem bC.bare{a:AV}{v:V}{F:List Addr}(r:bC K Hf' H a v F):gS a=true->(∀q∈F,Hf q=none)->bC K Hf H a v F:=by
 induction r with
 |sh r =>
  intro hc _;rw[gS]at hc;exact .sh (r.scal hc)
 |ow h n e1 e2 e ih =>
  intro hc hn;rw[gS]at hc;exact .ow h (hn _ (Ss ..)) e1 e2 fun i a v F x1 x2 x3=>ih i a v F x1 x2 x3 (uo hc a (mGq x1)) fun q hq=>hn q (mCo _ (mFq.mpr ⟨F,mGq x3,hq⟩))
 |owd h n r =>
  intro hc hn;rw[gS,List.all_eq_true]at hc;refine .owd h (hn _ (Ss ..)) ?_;exact⟨r.1,fun i d v a b=>(r.2 i d v a b).scal (hc d (mGq a))⟩
end
def xX(f:MF) (a:ML):MK:=fun S=>(a S).bind fun x=>(f x.1).bind fun r=>if gS r=true then some (r,x.2) else none
theorem Jx(f:MF) (a:ML) (S:AS):xX f a S=(a S).bind fun x=>(f x.1).bind fun r=>if gS r=true then some (r,x.2) else none:=rfl
theorem Fw{K:W.Frag}{f:MF}{ta:TA}{a:ML}(ha:IE K ta a):SK K (zp (bL K f) [] E0 ta) (xX f a):=by
 intro H₀ Hf₀ Hf S σ H Fs av S' R e Q q;obtain⟨x,e1,e⟩:=oBq.mp e;obtain⟨r,e2,e⟩:=oBq.mp e;split at e
 .rename_i hc;cases e;refine ha R (ds:=x.1) (S':=x.2) e1 _ fun Hf1 H1 Fs1 vs t1 R1 r1=>?_
  rw[aNq];refine⟨H1,x.1,av,.refl _,r1,e2,fun Hf' H' v F s1 s2 s3 l rv nd fr=>?_⟩
  have t2:mO Hf1 H1 Fs1 Hf1 H' Fs1:=⟨.refl _,s2,fun _ h=>h,fun b h g=>absurd h g⟩
  have hn:∀q∈F,Hf1 q=none:=fun q hq=>R1.sub.free (fr q hq)
  exact q _ _ _ v F (t1.trans t2) (R1.laid s2) (rv.bare hc hn) ⟨nd,fun q hq=>R1.fr.free (fr q hq),fun q hq m=>(R1.mem m).1 (fr q hq),fun q hq=>.inl (t1.sh.free (fr q hq))⟩
 .cases e
end Z
namespace Xe
open PySem PySem.Spec PySem.W PyProof.Rows L2 Mr
end Xe
namespace Z
open PySem L2 Mr Xe
end Z
namespace HT
open PySem PyProof.Rows
open PySem.SeqAt
open PySem.AutoSeq1 (wpAny_loadPart')
open PySem.MeetsSeq PySem.MeetsSeq2 PySem.MeetsSeq3
end HT
namespace Mr
open PySem PySem.Spec PyProof.Rows L2
end Mr
namespace Z
open PySem L2 Mr
end Z
namespace Z
open PySem L2 Mr Xe
end Z
namespace Xe
open PySem PySem.Spec PySem.W PyProof.Rows L2 Mr
end Xe
namespace Z
open PySem L2 Mr Xe
end Z
namespace Mr
open PySem PySem.Spec PySem.W PyProof.Rows L2 HT
section
variable {X:Cx}
theorem GR{ab:List (Addr×Obj)}{s:Shared}{σ:St}{H:Hp}{ps:List Addr}{rs:List (List Int)}{r:List Int}{p b:Addr}(I:Inv X ab σ H s) (hu:X.A.units+65<cLine) (e1:dh H ps rs) (hp:p∈ps) (h2:H b=some (.lst (r.map V.int))):SeqAt.EqAt X.A.in1 s (.ref p) (.ref b) (decide (gO H p=r)):=by
 by_cases e:p=b
 .subst e;have h3:=e1.fn_row hp;rw[h2]at h3;have h4:r.map V.int=(gO H p).map V.int:=by injection h3 with h3;injection h3
  have h5:r=gO H p:=(List.map_inj_right (fun _ _ z=>by injection z)).mp h4
  rw[decide_eq_true h5.symm];exact SeqAt.EqAt.same _
 .refine SeqAt.EqAt.of_refs e fun prog w E Q hq=>?_
  obtain⟨vs,hl,hi,_⟩:=qe I (dP.of (e1.fn_row hp));obtain⟨ws,hl2,hi2,_⟩:=qe I (dP.of h2);exact W.eq_intsK (prog:=prog) (w:=w) (A:=X.A.in1) hl hi hl2 hi2 (by show X.A.units+1+64<cLine;lia) hq
end
end Mr
namespace Z
open PySem L2 Mr Xe
end Z
namespace Z
open PySem PySem.Spec PySem.W PyProof.Rows L2 Mr Xe
end Z
namespace Mr
open PySem L2
open PySem.Spec PyProof.Rows
section
variable {X:Cx}
end
end Mr
namespace Z
open PySem L2 Mr Xe
end Z
namespace Z
open PySem PySem.Spec PySem.W PyProof.Rows L2 Mr Xe
end Z
namespace Z
open PySem L2 Mr Xe
end Z
namespace HT
open PySem PyProof.Rows
open PySem.SeqAt
open PySem.AutoSeq1 (wpAny_loadPart')
open PySem.MeetsSeq PySem.MeetsSeq2 PySem.MeetsSeq3
end HT
namespace Mr
open PySem L2
open PySem.Spec PyProof.Rows
end Mr
namespace Z
open PySem L2 Mr Xe
end Z
namespace Mr
open PySem PySem.Calls PySem.Spec PyProof.Rows L2
end Mr
namespace Z
open PySem L2 Mr Xe
end Z
namespace Mr
open PySem PySem.Calls PySem.Spec PyProof.Rows L2
open PySem.MeetsSeq (size_erased plain_remove_loop entry_remove_loop)
section
variable {X:Cx}
theorem BV{l:Addr}{its:Array Value}{n:Nat}{x:Value}{eq:Value->Bool}{j:Nat}(hj:j<its.size) (hit:eq its[j]=true) (hz:its.size<=sizeLine):∀(d i:Nat),i+d=j->(∀m (hm:m<its.size),i<=m->m<j->eq its[m]=false) ->
  Meets (Builtin.«list.remove.loop» ⟨[.ref l,x,rawInt i],[]⟩) fun A R s=>s.heap.get? l=some ⟨.type "list", none,.seq its n,#[]⟩/\(∀y,y∈its->SeqAt.EqAt A.in1 s y x (eq y))/\R (.ok (.ret .none)) { s with heap:=s.heap.update l (Obj.mapSeq fun xs=>xs.eraseIdxIfInBounds j) }
 |0,i,h0,hno=>fun prog w A R s ⟨hl,he,h⟩=>by
  obtain⟨hp,g,d,tk,os⟩:=s;obtain rfl:i=j:=by lia
  (wp_walk using wpAny_loadPart' hl);rw[show its[((i:Nat):Int).toNat]?=some its[i] by simp[hj]]
  refine wpAny_bind (he _ (Td hj) prog w _ _ ?_);rw[hit];have hz2:(its.eraseIdxIfInBounds i).size<=sizeLine+1:=TV (size_erased its i) (by lia)
  (wp_walk using (wpAny_updateSeq hl rfl (hz:=hz) (_hz':=hz2)),wpAny_loadPart' hl);simpa using h
 |d+1,i,h0,hno=>fun prog w A R s ⟨hl,he,h⟩=>by
  obtain⟨hp,g,d',tk,os⟩:=s;have hi:i<its.size:=by lia
  (wp_walk using wpAny_loadPart' hl);rw[show its[((i:Nat):Int).toNat]?=some its[i] by simp[hi]]
  refine wpAny_bind (he _ (Td hi) prog w _ _ ?_);rw[hno i hi (Sg _) (by lia)]
  wp_walk;rw[show ((i:Int)+1)=((i+1:Nat):Int) by push_cast;rfl]
  refine⟨plainId_quiet plain_remove_loop _,codeAny_builtin entry_remove_loop ?_⟩;rw[Around.under_plainId plain_remove_loop _];exact BV hj hit hz d (i+1) (by lia) (fun m hm h1 h2=>hno m hm (by lia) h2) prog w A R _ ⟨hl,he,h⟩
theorem K7{l:Addr}{its:Array Value}{n:Nat}{x:Value}{eq:Value->Bool}{j:Nat}(hj:j<its.size) (hit:eq its[j]=true) (hz:its.size<=sizeLine) (hno:∀m (hm:m<its.size),m<j->eq its[m]=false) :
  Meets (Builtin.«list.remove» ⟨[.ref l,x],[]⟩) fun A R s=>s.heap.get? l=some ⟨.type "list", none,.seq its n,#[]⟩/\(∀y,y∈its->SeqAt.EqAt A.in1 s y x (eq y))/\R (.ok (.ret .none)) { s with heap:=s.heap.update l (Obj.mapSeq fun xs=>xs.eraseIdxIfInBounds j) }:=fun prog w A R s ⟨hl,he,h⟩=>by
 obtain⟨hp,g,d,tk,os⟩:=s
 (wp_walk using wpAny_loadPart' hl);refine⟨plainId_quiet plain_remove_loop _,codeAny_builtin entry_remove_loop ?_⟩
 rw[Around.under_plainId plain_remove_loop _];exact BV hj hit hz j 0 (by lia) (fun m hm _ h2=>hno m hm h2) prog w A R _ ⟨hl,he,h⟩
theorem AN:∀{vs:List V}{us:List Value},bz vs us->∀k:Nat,bz (vs.eraseIdx k) (us.eraseIdx k):=by
 intro vs us h
 induction h with
 |nil=>intro k;exact .nil
 |cons a t ih =>
  intro k;cases k with
  |zero=>exact t
  |succ k=>exact .cons a (ih k)
def Kl:V->List V->Hp->VK->Prop:=fun x vs H Q=>∃(a b:Addr) (ps:List Addr) (rs:List (List Int)) (r:List Int),x = .ref a/\vs=[.ref b]/\H a=some (.lst (ps.map V.ref))/\dh H ps rs/\H b=some (.lst (r.map V.int))/\r∈rs/\Q .non (cW H a (.lst ((ps.map V.ref).eraseIdx (rs.idxOf r))))
theorem JV(hu:X.A.units+65<cLine):NP X "list.remove" Kl:=by
 intro ab s σ H x vs v us Q I rx rv h;obtain⟨a,b,ps,rs,row,rfl,rfl,hH,e1,h2,hm,q⟩:=h;cases rx;obtain⟨u,rfl,ru⟩:=oe rv;cases ru;obtain⟨z,its,n,r,hl,e⟩:=I.lstM hH;have ei:=qI r;subst ei;have hj:rs.idxOf row<rs.length:=UP.mpr hm;have hpl:ps.length=rs.length:=by rw[e1.fn,lMq]
 have hg:∀i (hi:i<ps.length),gO H ps[i]=rs[i]'(hpl ▸ hi):=fun i hi=>by
  have h3:rs[i]?=(ps.map (gO H))[i]?:=by rw[←e1.fn]
  rw[gMq,gEg hi,gEg (hpl ▸ hi)]at h3;exact(Sz.inj h3).symm
 refine call_meets V6 ⟨_,e,rfl⟩ PySem.F.entry_list_remove (PySem.F.args_list_remove_2 _ _)
  (K7 (eq:=fun y=>decide (gO H (oI y)=row)) (j:=rs.idxOf row) (by simp[hpl];exact hj) ?_ ?_ ?_) ⟨e,fun y hy=>?_,?_⟩
 .rw [Ww,WY];exact decide_eq_true (show gO H ps[rs.idxOf row]=row by rw[hg _ (hpl ▸ hj),Vi])
 .rw [Sx];rw[←hl];exact z
 .intro j hjs hlt;have hj2:j<ps.length:=by simpa using hjs
  rw[Ww,WY];refine decide_eq_false (show ¬ gO H ps[j]=row from fun z=>?_)
  rw[hg j hj2]at z;have h9:=Wh (p:=(· == row)) hlt;rw[beq_eq_false_iff_ne]at h9;exact h9 z
 .obtain ⟨p,hp,rfl⟩:=mMq.mp (show y∈ps.map TY by simpa using hy)
  exact GR I hu e1 hp h2
 .refine ⟨.non,_,I.lset (its':=(ps.map TY).eraseIdx (rs.idxOf row)) hH e ?_ ?_ ?_,rfl,q⟩
  .unfold Array.eraseIdxIfInBounds;rw[dif_pos (by simp[hpl];exact hj)]
   apply Array.toList_inj.mp;simp
  .exact AN r _
  .rw [UK];split
   .have:=z;lia
   .have:=z;lia
end
end Mr
namespace Z
open PySem L2 Mr Xe
def GN(i:Nat) (b:ME):MS:=fun S=>(cL S i).bind fun _=>(b S).bind fun y=>(BG y.1).bind fun es=>(dG es).bind fun r=>(cL y.2 i).bind fun avs=>(kc (avs.map aH)).bind fun rs=>(avs[rs.idxOf r]?.bind HQ).bind fun _=>if r∈rs then some (.nx (y.2.set i (some (.ow (avs.eraseIdx (rs.idxOf r)))))) else none
theorem JH{K:W.Frag}{i:Nat}{tb:TE}{b:ME}(hb:SR K tb b):SS K (oh (Ep K "list" Kl (kz i) (fk tb kq))) (GN i b):=by
 intro H₀ Hf₀ Hf S σ H Fs o R e D h;obtain⟨a0,e0,e⟩:=oBq.mp e;obtain⟨y,e1,e⟩:=oBq.mp e;obtain⟨es,e2,e⟩:=oBq.mp e;obtain⟨r,e3,e⟩:=oBq.mp e;obtain⟨avs,e4,e⟩:=oBq.mp e;obtain⟨rs,e5,e⟩:=oBq.mp e;obtain⟨d0,e6,e⟩:=oBq.mp e;split at e
 .rename_i hm;cases e;obtain⟨a,e7,e8⟩:=oBq.mp e6;have e8:=AR e8;subst e8;obtain⟨p,vs,Gs,s1,_,h1,_⟩:=R.ow (bf e0);refine⟨.ref p,s1,.inl ⟨rfl,vs,dP.of h1⟩,hb R (d:=y.1) (S':=y.2) e1 _ fun Hf1 H1 Fs1 v t1 R1 r1=>?_⟩
  obtain⟨p',vs',w,F',s1',hp,hl,hw,rw',R2⟩:=R1.lose (bf e4) e7;rw[s1]at s1';cases s1';obtain⟨v0,F0,u1,_,rr⟩:=R1.rep i _ (bf e4);rw[s1]at u1;cases u1;have rall:=rr.rep R1.sub;rw[dR,vV e5]at rall;obtain⟨p2,us,q2,h3,h4⟩:=rall.list_inv;cases q2;obtain⟨ps,rfl,hE⟩:=oq h4;have ev:vs'=ps.map V.ref:=by
   rw[hp]at h3;cases h3;rfl
  subst ev;have ey:y.1 = .list es:=by
   revert e2
   unfold BG;split <;> intro e2 <;> cases e2
   assumption
  rw[ey,jf e3]at r1;obtain⟨b',us',rfl,g3,g4⟩:=r1.list_inv;rw[eA g4]at g3;exact⟨p,b',ps,rs,r,rfl,rfl,h3,hE,g3,hm,h _ _ _ _ t1.sf R2⟩
 .cases e
theorem LA(S:AS) (i:Nat) (b:ME):GN i b S=(cL S i).bind fun _=>(b S).bind fun y=>(BG y.1).bind fun es=>(dG es).bind fun r=>(cL y.2 i).bind fun avs=>(kc (avs.map aH)).bind fun rs=>(avs[rs.idxOf r]?.bind HQ).bind fun _=>if r∈rs then some (.nx (y.2.set i (some (.ow (avs.eraseIdx (rs.idxOf r)))))) else none:=rfl
noncomputable def Fi:AV->Option (List D)
 | .sh (.tup ds)=>some ds
 |_=>none
theorem Jy{a:AV}{ds:List D}(h:Fi a=some ds):a = .sh (.tup ds):=by
 unfold Fi at h;split at h <;> cases h
 rfl
def IF(k:MK) (lo hi:MO):MK:=fun S=>(k S).bind fun x=>(Fi x.1).bind fun ds=>(lo x.2).bind fun y=>(hi y.2).bind fun z=>if HT.fT ds.length 0 y.1=0/\HT.fT ds.length ds.length z.1=ds.length then none else some (.sh (.tup (lD ds y.1 z.1)),z.2)
theorem L9{K:W.Frag}{te tl th:_}{k:MK}{lo hi:MO}(hk:SK K te k) (hlo:SO K tl lo) (hhi:SO K th hi):SK K (Q0 (OI K) te tl th) (IF k lo hi):=by
 intro H₀ Hf₀ Hf S σ H Fs av S' R e Q q;obtain⟨x,e1,e⟩:=oBq.mp e;obtain⟨ds,e0,e⟩:=oBq.mp e;obtain⟨y,e2,e⟩:=oBq.mp e;obtain⟨z,e3,e⟩:=oBq.mp e;split at e
 .cases e
 .rename_i hw;cases e;refine hk R (a:=x.1) (S':=x.2) e1 _ fun Hf1 H1 Fs1 v F t1 R1 r1 o1=>?_
  rw[Jy e0]at r1;obtain⟨p1,vs1,rfl,h1,h2⟩:=r1.sh_inv.2.tup_inv;refine hlo R1 (o:=y.1) (S':=y.2) e2 _ fun Hf2 H2 Fs2 t2 R2=>hhi R2 (o:=z.1) (S':=z.2) e3 _ fun Hf3 H3 Fs3 t3 R3=>?_
  have hl:ds.length=vs1.length:=h2.1;refine⟨p1,vs1,rfl,rF.of (R3.sub _ _ ((t2.sf.trans t3.sf) _ _ h1)),by rw[←hl];exact hw,fun p hp=>?_⟩
  obtain⟨t4,R4⟩:=R3.layF (o:=.tup (vk vs1 y.1 z.1)) hp;exact q _ _ _ (.ref p) [] (((t1.trans t2).trans t3).trans t4) R4 (.sh (.mk_tup aR (((h2.mono (t2.sf.trans t3.sf)).cut _ _).mono t4.sf))) .nil
theorem Ob(S:AS) (k:MK) (lo hi:MO):IF k lo hi S=(k S).bind fun x=>(Fi x.1).bind fun ds=>(lo x.2).bind fun y=>(hi y.2).bind fun z=>if HT.fT ds.length 0 y.1=0/\HT.fT ds.length ds.length z.1=ds.length then none else some (.sh (.tup (lD ds y.1 z.1)),z.2):=rfl
def E3(i:Nat) (m:ME):MS:=fun S=>(m S).map fun x=>.nx (x.2.set i (some (.ow [.sh x.1])))
theorem Iq{K:W.Frag}{i:Nat}{te:TE}{m:ME}(h:SM K te m):SS K (Ao (LZ (fk te kq)) (eD i)) (E3 i m):=by
 intro H₀ Hf₀ Hf S σ H Fs o R e D hd;obtain⟨x,e1,e⟩:=oMq.mp e;cases e;refine h R (d:=x.1) (S':=x.2) e1 _ fun Hf1 H1 Fs1 v t1 R1 r1=>⟨by rw[sizeLine_eq];show 1<=16777216;decide,fun p hp=>?_⟩
 obtain⟨t2,R2,n1,n2,n3⟩:=R1.new (o:=.lst [v]) hp;have rn:bC K Hf1 (cW H1 p (.lst [v])) (.ow [.sh x.1]) (.ref p) [p]:=bC.new (ds:=[x.1]) aR n1 (.cons r1 .nil);exact hd _ _ _ _ t1 (R2.set i rn (by simp) fun q hq=>by
  rw[mSq.mp hq];exact⟨n2,n3⟩)
theorem Md(S:AS) (i:Nat) (m:ME):E3 i m S=(m S).map fun x=>.nx (x.2.set i (some (.ow [.sh x.1]))):=rfl
end Z
namespace Zl
open PySem L2 Mr Z
def En:MS:=(cI (kSc (yi (bg Dr (aj 0) (rC (.int 0))) (bg zz (fA Qn (ah (aj 0) ax)) (bg rX (rC (.int 10)) (rC (.int 60)))))))
def G8:MF:=fi 1 1 En
def qA:MS:=(aC (jM (dN (bg xZ (fA cS (ah (aj 0) ax)) (rC (.int 0)))) (cI (dD aN)) bD)
 (aC (aO 1 (kSc (PN "list" qR (aj 0) (ah (fA DX (ah (aj 0) ax)) ax))))
 (cI (Dh (lOf (HN (gY 0) (jL (aj 1)) og)) (lOf (HN (gY 0) og (jL (aj 1))))))))
def jF:MF:=fi 1 2 qA
def gi:MS:=(Bn 1 (qo 2))
def lJ:MS:=(aC (aO 1 (dD aN))
 (aC (ni 2 (aK 0) gi)
 (cI (tO 1))))
def bo:MF:=fi 1 3 lJ
def fZ:MS:=(aC (jM (dN (bg zz (aj 1) (fA cS (ah (aj 0) ax)))) (cI (kSc (bg AX (aj 0) (aj 1)))) bD)
 (cI (kSc (rC (.int 0)))))
def aD:MF:=fi 2 2 fZ
def kH:MS:=(cI (sr (gu (oa (aK 0)) [] ft (bj Zl.jF (aB (aK 0) aN)))))
def cE:MF:=fi 1 1 kH
def nX:MX:=(Oc (eQ (dN (cA Zl.G8 (ah (aj 1) ax)))) (Ab "NoEnd" "end" (ah (aj 1) ax)) (CP bD))
def ql:MX:=(Nb 1 (aK 0) nX)
def rh:HR:=Em 1 2 ql
def oz:MX:=(rZ (Oc (dN (Qh (aj 2) (aj 1))) (Ab "Twice" "end" (ah (aj 2) ax)) (CP bD)) (CP (kQ 1 (aj 2) (kSc (rC (.bl true))))))
def qO:MX:=(rZ (CP (aO 1 kG))
 (Nb 2 (aK 0) oz))
def rQ:HR:=Em 1 3 qO
def qf:MS:=(kQ 1 (aj 2) (kSc (rC (.bl true))))
def qj:MX:=(Oc (dN (eI (rY jb (aj 2)) (aj 1))) (Ab "Lone" "end" (ah (aj 2) ax)) (CP bD))
def rW:MX:=(rZ (CP (aO 1 kG))
 (rZ (CP (ni 2 (aK 0) qf))
 (Nb 2 (aK 0) qj)))
def tK:HR:=Em 1 3 rW
def nZ:MX:=(rZ (Oc (dN (bg Er (fA cS (ah (rOf (bj Zl.bo (aB (aK 0) aN))) ax)) (rC (.int 128)))) (CC "TooMany") (CP bD))
 (Oc (dN (bg Er (NJ (aj 0)) (rC (.int 128)))) (CC "TooMany") (CP bD)))
def oC:HR:=Em 1 1 nZ
def yt:MX:=(rZ (CP (aO 1 (bj Zl.bo (aB (aK 0) aN))))
 (rZ (Cq Zl.rh (aB (aK 1) aN))
 (rZ (Cq Zl.rQ (aB (aK 1) aN))
 (rZ (Cq Zl.tK (aB (aK 1) aN))
 (rZ (Cq Zl.oC (aB (aK 0) aN))
 (CP (cI (bj Zl.cE (aB (aK 0) aN)))))))))
def Au:HR:=Em 1 2 yt
def uJ:MS:=(cI (AO (lOf (bj Zl.bo (aB (aK 0) aN)))))
def gQ:MF:=fi 1 1 uJ
def rq:MS:=(cI (gu (oa (bj Zl.gQ (aB (aK 0) aN))) [] (dN (bg Er (aj 0) (rC (.int 0)))) (aK 0)))
def gT:MF:=fi 1 1 rq
def jx:MS:=(kQ 1 (aj 4) (aK 2))
def jB:MS:=(ni 4 (aK 3) jx)
def pQ:MS:=(aC (aO 1 kG)
 (aC (FP 2 3 (aK 0) jB)
 (cI (tO 1))))
def iB:MF:=fi 1 5 pQ
theorem xu(ns:List Int) {k:Int}(h:0<=k):aD [.scr ns,.int k]=some (.sh (.int (cell ns k.toNat))):=by
 by_cases c:k<(ns.length:Int)
 .have hk:k.toNat<ns.length:=by lia
  have e:ns.getD k.toNat 0=ns[k.toNat]:=jS hk
  simp_arith [aD,fZ,c,xO h,gEg hk,cell,e]
 .have hk:ns.length<=k.toNat:=by lia
  have e:ns.getD k.toNat 0=0:=by rw[gDq,S0 hk];rfl
  simp_arith [aD,fZ,c,cell,e]
theorem Bu(ns:List Int):aD [.scr ns,.int 0]=some (.sh (.int (cell ns 0))):=xu ns (by decide)
theorem NR(ns:List Int):aD [.scr ns,.int 1]=some (.sh (.int (cell ns 1))):=xu ns (by decide)
theorem O3(ns:List Int):aD [.scr ns,.int 2]=some (.sh (.int (cell ns 2))):=xu ns (by decide)
theorem wB{n:Int}{ns:List Int}:ns.foldl min n∈n::ns/\∀x∈n::ns,ns.foldl min n<=x:=⟨ki ns n,fun x hx=>(Si.mp hx).elim (fun e=>e ▸ (iU ns n).1) ((iU ns n).2 x)⟩
theorem Ed{ns:List Int}(hl:ns.length<=500000):jF [dI ns]=some (aI (good ns)):=by
 cases ns with
 |nil =>
  have h1:((0:Nat):Int)=0:=rfl
  simp_arith [jF,qA,h1]
  rfl
 |cons n ns =>
  obtain⟨h1,h2⟩:=wB (n:=n) (ns:=ns);have e:=mX h1 h2;have hle:=oK (n::ns);have hne:¬ ((n::ns).length:Int)=0:=by simp only[lCq];lia
  have hm:DX [dI (n::ns)]=some (.int (ns.foldl min n)):=by
   show (dG ((n::ns).map D.int)).bind (fun ns=>(wC ns).map D.int)=_
   rw[eP];rfl
  have hx:qR (dI (n::ns)) [.int (ns.foldl min n)]=some (.int (bG (n::ns) (n::ns).length:Nat)):=by
   show (dG ((n::ns).map D.int)).bind _=_;rw[eP];show (if _ then _ else _)=_
   rw[if_pos h1,e]
  generalize hN:n::ns=N at *;have hlen:(N.drop (bG N N.length)).length+(N.take (bG N N.length)).length<=cX:=by rw[SE,lTq];show _<=16777216;lia
  simp_arith [jF,qA,hne,hm,hx,kL,xN N _ hle,qP N _ hle,hlen,←mBq,sS]
  rfl
theorem du{rs:List (List Int)}{i:Nat}{r:List Int}(h:rs[i]?=some r):(rs.take (i+1)).flatten=(rs.take i).flatten++r:=by
 rw[UJ,h,fAq];simp
theorem fv(rs:List (List Int)) (i:Nat):(rs.take i).flatten.length<=rs.flatten.length:=by
 have:=congrArg TJ (congrArg Xj (Ta i rs));rw[fAq,lAq]at this;lia
theorem nP{rs:List (List Int)}{i:Nat}{d:D}(h:(rs.map dI)[i]?=some d):∃r,rs[i]?=some r/\d=dI r:=by
 rw[gMq]at h;obtain⟨r,h1,h2⟩:=oMq.mp h;exact⟨r,h1,h2.symm⟩
theorem wO{ns:List Int}{i:Nat}{d:D}(h:(ns.map D.int)[i]?=some d):∃z,ns[i]?=some z/\d = .int z:=by
 rw[gMq]at h;obtain⟨r,h1,h2⟩:=oMq.mp h;exact⟨r,h1,h2.symm⟩
theorem CF{rs:List (List Int)}(hl:rs.flatten.length<=500000):bo [dM rs]=some (aI rs.flatten):=by
 have key:=fS (x:=2) (body:=gi) (fun i S=>∃v,S=[some (.sh (dM rs)),some (aI (rs.take i).flatten),v]) (ds:=rs.map dI) (S:=[some (.sh (dM rs)),some (.ow []),none]) ⟨none,by simp⟩ (by
  rintro i d S hd ⟨v,rfl⟩;obtain⟨r,hr,rfl⟩:=nP hd;have h1:=du hr;have h2:=fv rs (i+1);rw[h1,lAq]at h2;have h3:(rs.take i).flatten.length+r.length<=cX:=by show _<=16777216;lia
  refine⟨_,?_,some (.sh (dI r)),rfl⟩;rw[h1]
  simp_arith [gi,h3,sS,←mBq])
 obtain⟨S',e,v,rfl⟩:=key;rw[lMq,Tg]at e
 simp_arith [bo,lJ,e]
theorem oy{rs:List (List Int)}{d:D}(h:d∈rs.map dI):∃r∈rs,d=dI r:=by
 obtain⟨r,h1,h2⟩:=mMq.mp h;exact⟨r,h1,h2.symm⟩
def mw:D->List Int
 | .list ds=>(dG ds).getD []
 |_=>[]
theorem gq(r:List Int):mw (dI r)=r:=by
 show (dG (r.map D.int)).getD []=r;rw[eP];rfl
theorem qt{β:Type}(g:List Int->β) (rs:List (List Int)):(rs.map dI).map (fun d=>g (mw d))=rs.map g:=by
 rw[mPq];exact mCq fun r _=>by show g (mw (dI r))=g r;rw[gq]
theorem yL{rs:List (List Int)}(hl:∀r∈rs,r.length<=500000):dJ ft (bj jF (aB (aK 0) aN)) [] (rs.map dI)=some ((rs.map good).map aI):=by
 rw[iw (fun d=>aI (good (mw d)))]
 .rw [qt (fun r=>aI (good r)),mPq]
  rfl
 .intro d hd;obtain⟨r,hr,rfl⟩:=oy hd;refine⟨[some (.sh (dI r))],?_⟩
  simp_arith [Ed (hl r hr),gq]
theorem N9{ts:List (List Int)}{a:Nat}(h:a<ts.length):atI (ts.map dI) (a:Int)=some (dI (ts.getD a [])):=by
 rw[Ie,xO (by lia),Ub,gDq,gEg h]
 rfl
theorem FL(n:Nat):dJ ft (dD aN) [] (cm 0 n)=some (S9 n (.ow [])):=by
 rw[Z.iw fun _=>AV.ow []]
 .unfold cm;rw[mPq];show some (List.map (fun _=>AV.ow []) (To n))=_
  rw[List.map_const',Te]
 .intro d _;have h0:(0:Nat)<=cX:=by decide
  refine⟨[some (.sh d)],?_⟩
  simp_arith [h0]
theorem kN{rs:List (List Int)}(hl:∀r∈rs,r.length<=500000) (h7:rs.length<=cX):cE [dM rs]=some (.ow ((eK (rs.map good)).map aI)):=by
 have h6:=yL (rs:=rs) hl
 simp_arith [cE,kH,h6,h7]
end Zl
--ZQ3 --ZQ4
namespace Zl
open PySem L2 Mr Z Xe
noncomputable def bare(rs:List (List Int)):Nat:=rs.countP (·=([]:List Int))
section
variable {rs:List (List Int)}(hl:rs.flatten.length<=500000)
include hl
end
theorem vU(rs:List (List Int)):(eK (rs.map good)).flatten.Perm rs.flatten:=(cO (aS _)).trans (bb bA rs)
theorem DW(r:List Int) (h:r.Nodup):good (good r)=good r:=tV h _
theorem oX{T:List (List Int)}(h:T.flatten.Nodup):eK ((eK (T.map good)).map good)=eK (T.map good):=by
 have q:(eK (T.map good)).map good=eK (T.map good):=by
  have:∀r∈eK (T.map good),good r=r:=fun r hr=>by
   obtain⟨s,hs,rfl⟩:=mMq.mp ((aS _).mem_iff.mp hr);exact DW s (CV h hs)
  exact(mCq this).trans (Vb _)
 rw[q];exact(AD (.refl _) (pd _)).symm
end Zl
namespace Zl
open PySem L2 Mr Z
theorem BN{rs:List (List Int)}(hl:rs.flatten.length<=500000):gQ [dM rs]=some (aI (ff rs.flatten)):=by
 simp_arith [gQ,uJ,CF hl]
theorem HD(ns:List Int):dJ (dN (bg Er (aj 0) (rC (.int 0)))) (aK 0) [] (ns.map D.int)=some ((ns.filter fun z=>decide (0<z)).map fun n=>.sh (.int n)):=by
 rw[Z.iD (fun d=>match d with|.int z=>decide (0<z)|_=>false) (fun d=>.sh d)]
 .rw [VJ,mPq];rfl
 .intro d hd;obtain⟨z,hz,rfl⟩:=mMq.mp hd;refine⟨[some (.sh (.int z))],?_,fun _=>⟨[some (.sh (.int z))],?_⟩⟩
  .simp_arith []
  .simp_arith []
theorem GO{rs:List (List Int)}(hl:rs.flatten.length<=500000):gT [dM rs]=some (aI ((ff rs.flatten).filter fun z=>decide (0<z))):=by
 have h1:(ff rs.flatten).length<=cX:=mU (by rw[(gP _).length_eq];lia)
 simp_arith [gT,rq,BN hl,h1,HD]
noncomputable def iu(p:Nat) (r:List Int):List (aX×D):=r.map fun e=>(.inl e,.int (p:Int))
def cU:Nat->List (List Int)->List (aX×D)
 |_,[]=>[]
 |p,r::rs=>iu p r++cU (p+1) rs
theorem rz(r:List Int):∀(rs:List (List Int)) (p:Nat),cU p (rs++[r])=cU p rs++iu (p+rs.length) r
 | [],p=>by simp[cU]
 |s::rs,p=>by
  show iu p s++cU (p+1) (rs++[r])=(iu p s++cU (p+1) rs)++_;rw[rz r rs (p+1),Sk,lCq,show p+1+rs.length=p+(rs.length+1) by lia]
theorem mQ:∀(rs:List (List Int)) (p:Nat),(cU p rs).map (·.1)=rs.flatten.map SY
 | [],p=>rfl
 |r::rs,p=>by
  show (iu p r++cU (p+1) rs).map (·.1)=_;rw[mBq,mQ rs (p+1),fCq,mBq];congr 1;unfold iu;rw[mPq];rfl
theorem Al(rs:List (List Int)) (p:Nat):(cU p rs).length=rs.flatten.length:=by
 have:=congrArg TJ (mQ rs p)
 rwa [lMq,lMq]at this
theorem pI{kvs:List (aX×D)}{k:aX}{d:D}(h:k∉kvs.map (·.1)):mN kvs k d=kvs++[(k,d)]:=by
 unfold mN;rw[if_neg];intro e;obtain⟨kv,hk,e⟩:=V8.mp e;exact h (mMq.mpr ⟨kv,hk,of_decide_eq_true e⟩)
theorem getD_app{k:aX}:∀{a b:List (aX×D)},k∉a.map (·.1)->Z.getD (a++b) k=Z.getD b k
 | [],b,_=>rfl
 |x::a,b,h=>by
  unfold Z.getD;rw[Vy,UB (by
   intro e;exact h (by rw[←of_decide_eq_true e];simp))]
  exact getD_app (k:=k) (a:=a) (b:=b) fun m=>h (by simp only[Sq,Si];exact .inr m)
theorem zg{p:Nat}{e:Int}{b:List (aX×D)}:∀{r:List Int},e∈r->Z.getD (iu p r++b) (.inl e)=some (.int p)
 | [],h=>by cases h
 |x::r,h=>by
  unfold Z.getD;show ((((SY x:aX),D.int (p:Int))::(iu p r++b)).find? _).map _=_
  by_cases c:x=e
  .subst c;rw[U6 (by simp)]
   rfl
  .rw [UB (by simp[c])]
   exact zg (r:=r) ((Si.mp h).resolve_left fun z=>c z.symm)
theorem nW{e:Int}{r:List Int}:∀{rs:List (List Int)}{i:Nat}(p:Nat),rs.flatten.Nodup->rs[i]?=some r->e∈r->Z.getD (cU p rs) (.inl e)=some (.int ((p+i:Nat):Int))
 | [],i,p,_,h,_=>by simp at h
 |s::rs,0,p,hn,h,he=>by
  simp at h;subst h;exact zg he
 |s::rs,i+1,p,hn,h,he=>by
  rw[fCq,nAq]at hn;have h':rs[i]?=some r:=by simpa using h
  have:=nW (rs:=rs) (i:=i) (p+1) hn.2.1 h' he;rw[show p+1+i=p+(i+1) by lia]at this
  rw[←this];refine getD_app ?_;unfold iu;rw[mPq];intro m;obtain⟨x,hx,e2⟩:=mMq.mp m;cases e2;exact hn.2.2 _ hx _ (mFq.mpr ⟨r,mGq h',he⟩) rfl
theorem xw{rs:List (List Int)}(hn:rs.flatten.Nodup) (hl:rs.flatten.length<=500000):iB [dM rs]=some (.owd (cU 0 rs)):=by
 have key:=KD (x:=2) (y:=3) (k:=0) (body:=jB) (fun i S=>∃v2 v3 v4,S=[some (.sh (dM rs)),some (.owd (cU 0 (rs.take i))),v2,v3,v4]) (ds:=rs.map dI) (S:=[some (.sh (dM rs)),some (.owd []),none,none,none]) ⟨none,none,none,rfl⟩ (by
  rintro i d S hd ⟨v2,v3,v4,rfl⟩;rw[T1];obtain⟨r,hr,rfl⟩:=nP hd;have hfl:=du hr;have hle:=fv rs (i+1);have hi:i<rs.length:=(gSq.mp hr).1;have hnd:((rs.take i).flatten++r).Nodup:=by
   rw[←hfl];have e0:rs.flatten=(rs.take (i+1)).flatten++(rs.drop (i+1)).flatten:=by rw[←fAq,Ta]
   rw[e0]at hn;exact(nAq.mp hn).1
  rw[hfl,lAq]at hle;have k2:=fS (x:=4) (body:=jx) (fun j S=>∃v4,S=[some (.sh (dM rs)),some (.owd (cU 0 (rs.take i)++iu i (r.take j))),some (.sh (.int i)),some (.sh (dI r)),v4]) (ds:=r.map D.int) (S:=[some (.sh (dM rs)),some (.owd (cU 0 (rs.take i))),some (.sh (.int i)),some (.sh (dI r)),v4]) ⟨v4,by simp[iu]⟩ (by
   rintro j d S hd ⟨v4,rfl⟩;obtain⟨z,hz,rfl⟩:=wO hd;have hj:j<r.length:=(gSq.mp hz).1;have h3:(cU 0 (rs.take i)++iu i (r.take j)).length<cX:=E5 (by
    rw[lAq,Al];unfold iu;rw[lMq,lTq];lia)
   have hput:mN (cU 0 (rs.take i)++iu i (r.take j)) (.inl z) (.int (i:Int))=cU 0 (rs.take i)++iu i (r.take (j+1)):=by
    rw[pI]
    .unfold iu;rw[bU hz,mBq,Sk];rfl
    .rw [mBq,mQ];intro m;have e1:r.take (j+1)=r.take j++[z]:=bU hz;rcases mAq.mp m with m|m
     .obtain ⟨x,hx,e2⟩:=mMq.mp m;cases e2;exact(nAq.mp hnd).2.2 _ hx _ (mGq hz) rfl
     .unfold iu at m;rw[mPq]at m;obtain⟨x,hx,e2⟩:=mMq.mp m;cases e2;have:=Sy.sublist (Tj (j+1) r) (nAq.mp hnd).2.1;rw[e1]at this;exact(nAq.mp this).2.2 _ hx _ (by simp) rfl
   refine⟨_,?_,some (.sh (.int z)),rfl⟩
   simp_arith [jx,h3,hput])
  obtain⟨S2,e2,w4,rfl⟩:=k2;rw[lMq,Tg]at e2;refine⟨_,?_,some (.sh (.int i)),some (.sh (dI r)),w4,rfl⟩;rw[bU hr,rz,lTq,U5 (by lia),T1]
  simp_arith [jB,e2])
 obtain⟨S',e,v2,v3,v4,rfl⟩:=key;rw[T1,lMq,Tg]at e
 simp_arith [iB,pQ,e]
theorem iA{c:MT}{body:MS}(P:AS->Prop) (μ:AS->Nat) (Qf:AS->Prop) (h:∀S,P S->∃b S1,c S=some (b,S1)/\(b=true->∃S2,body S1=some (.nx S2)/\P S2/\μ S2<μ S)/\(b=false->Qf S1)) :
  ∀(fuel:Nat) (S:AS),P S->μ S<fuel->∃S',dq c body fuel S=some (.nx S')/\Qf S'
 |0,S,_,hm=>absurd hm (Uc _)
 |n+1,S,hp,hm=>by
  obtain⟨b,S1,e1,h1,h2⟩:=h S hp;rw[Im,e1,Option.bind_some];cases b with
  |true =>
   obtain⟨S2,e2,p2,m2⟩:=h1 rfl;rw[if_pos rfl,e2];exact iA P μ Qf h n S2 p2 (by lia)
  |false =>
   rw[if_neg (by simp)]
   exact⟨S1,rfl,h2 rfl⟩
end Zl
--ZQ3 --ZQ4 --ZQ5 --ZQ6 --ZQ8 --ZQ9 --ZQB
namespace Zl
open PySem L2 Mr Z Xe
noncomputable def addN(kn:List Nat) (t:Nat):List Nat:=if t∈kn then kn else kn++[t]
noncomputable def plc(rs:List (List Int)) (e:Int):Nat:=rs.findIdx fun r=>decide (e∈r)
theorem same_place{rs:List (List Int)}(hn:rs.flatten.Nodup) {i j:Nat}{r s:List Int}{e:Int}(hi:rs[i]?=some r) (hj:rs[j]?=some s) (h1:e∈r) (h2:e∈s):i=j:=by
 have a:=nW 0 hn hi h1;have b:=nW 0 hn hj h2;rw[a]at b;have:=D.int.inj (Sz.inj b);lia
theorem plc_eq{rs:List (List Int)}(hn:rs.flatten.Nodup) {i:Nat}{r:List Int}{e:Int}(hi:rs[i]?=some r) (h1:e∈r):plc rs e=i:=by
 have hl:rs.findIdx (fun r=>decide (e∈r))<rs.length:=UM ⟨r,mGq hi,decide_eq_true h1⟩
 have h2:=VG (xs:=rs) (p:=fun r=>decide (e∈r)) (w:=hl)
 exact same_place hn (gEg hl) hi (of_decide_eq_true h2) h1
structure Mp (rs:List (List Int)):Prop where
 hn:rs.flatten.Nodup
 hl:rs.flatten.length<=1000
 hr:rs.length<=1000
 hneg:∀e∈rs.flatten, -e∈rs.flatten
theorem Mp.at{rs:List (List Int)}(h:Mp rs) {e:Int}(he:e∈rs.flatten):∃r,rs[plc rs e]?=some r/\e∈r:=by
 obtain⟨r,h1,h2⟩:=mFq.mp he;obtain⟨i,h3⟩:=Sw.mp h1;exact⟨r,by rw[plc_eq h.hn h3 h2];exact h3,h2⟩
theorem Mp.lt{rs:List (List Int)}(h:Mp rs) {e:Int}(he:e∈rs.flatten):plc rs e<rs.length:=by
 obtain⟨r,h1,_⟩:=h.at he;exact(gSq.mp h1).1
theorem Mp.row{rs:List (List Int)}(h:Mp rs) {k:Nat}{r:List Int}(hk:rs[k]?=some r):r.length<=1000:=by
 have:=T9.length_le (SG (mGq hk));have:=h.hl;lia
def RQ(rs:List (List Int)) (k:Nat) (ks:List Nat) (e:Int):List Nat:=if plc rs (-e)=k then ks else addN ks (plc rs (-e))
def nb(rs:List (List Int)) (k:Nat) (r:List Int):List Nat:=r.foldl (RQ rs k) []
theorem CQ{α β:Type}{f:α->β->α}{a:α}{r:List β}{i:Nat}{e:β}(he:r[i]?=some e):(r.take (i+1)).foldl f a=f ((r.take i).foldl f a) e:=by
 obtain⟨hi,h2⟩:=gSq.mp he;rw[UN hi,V0,h2];rfl
noncomputable def itr(f:Int->Int):Nat->Int->Int
 |0,e=>e
 |n+1,e=>f (itr f n e)
theorem mq(f:Int->Int) (m:Nat) (e:Int):∀n:Nat,itr f (n+m) e=itr f n (itr f m e)
 |0=>by rw[T1];rfl
 |n+1=>by rw[Nat.add_right_comm];show f (itr f (n+m) e)=f (itr f n (itr f m e));rw[mq f m e n]
theorem Aj:∀(l E:List Int),l.Nodup->(∀x∈l,x∈E)->l.length<=E.length
 | [],E,_,_=>Tf _
 |x::l,E,hn,h=>by
  have hn':=Sm.mp hn;have hx:=h x (Ss ..);have h2:=Aj l (E.erase x) hn'.2 (fun y hy=>by
   refine(List.mem_erase_of_ne ?_).mpr (h y (mCo _ hy));intro e;exact hn'.1 (e ▸ hy))
  rw[V7 hx]at h2;have:=Vt hx;rw[lCq];lia
theorem Ez{p:Nat->Prop}:∀n,p n->∃m,m<=n/\p m/\∀j,j<m->¬ p j:=by
 intro n
 induction n using VL with
 |_ n ih =>
  intro h
  by_cases c:∃j,j<n/\p j
  .obtain ⟨j,hj,pj⟩:=c;obtain⟨m,h1,h2,h3⟩:=ih j hj pj;exact⟨m,by lia,h2,h3⟩
  .exact ⟨n,Sg _,h,fun j hj pj=>c ⟨j,hj,pj⟩⟩
structure zP (f:Int->Int) (E:List Int):Prop where
 nd:E.Nodup
 to:∀e∈E,f e∈E
 inj:∀a∈E,∀b∈E,f a=f b->a=b
section
variable {f:Int->Int}{E:List Int}
theorem zP.itr_mem(h:zP f E) {e:Int}(he:e∈E):∀n,itr f n e∈E
 |0=>he
 |n+1=>h.to _ (h.itr_mem he n)
theorem zP.itr_inj(h:zP f E) {a b:Int}(ha:a∈E) (hb:b∈E):∀n,itr f n a=itr f n b->a=b
 |0,e=>e
 |n+1,e=>h.itr_inj ha hb n (h.inj _ (h.itr_mem ha n) _ (h.itr_mem hb n) e)
theorem zP.cut(h:zP f E) {e:Int}(he:e∈E) {i j:Nat}(hij:i<=j) (q:itr f i e=itr f j e):itr f (j-i) e=e:=by
 have e1:itr f j e=itr f i (itr f (j-i) e):=by rw[←mq];congr 1;lia
 rw[e1]at q;exact(h.itr_inj he (h.itr_mem he _) i q).symm
structure Cy (f:Int->Int) (e:Int) (l:List Int):Prop where
 len:1<=l.length
 get:l=(To l.length).map fun n=>itr f n e
 back:itr f l.length e=e
 nd:l.Nodup
theorem zP.cy(h:zP f E) {e:Int}(he:e∈E):∃l,Cy f e l/\l.length<=E.length/\∀j,0<j->j<l.length->itr f j e≠e:=by
 have hex:∃k,1<=k/\k<=E.length/\itr f k e=e:=by
  by_cases c:((To (E.length+1)).map fun n=>itr f n e).Nodup
  .have:=Aj _ E c (fun x hx=>by obtain⟨n,_,rfl⟩:=mMq.mp hx;exact h.itr_mem he n)
   rw[lMq,Te]at this;lia
  .rw [Su,S8]at c;have:∃i j,i<j/\j<E.length+1/\itr f i e=itr f j e:=by
    by_cases d:∃i j,i<j/\j<E.length+1/\itr f i e=itr f j e
    .exact d
    .exfalso;refine c ?_;refine Sy.imp_of_mem (R:=fun a b=>a<b) (fun {a b} ha hb hab q=>d ⟨a,b,hab,US.mp hb,q⟩) Wj
   obtain⟨i,j,hij,hj,q⟩:=this;exact⟨j-i,by lia,by lia,h.cut he (T8 hij) q⟩
 obtain⟨k,h1,h2,h3⟩:=hex;obtain⟨m,m1,⟨m2,m3⟩,m4⟩:=Ez (p:=fun k=>1<=k/\itr f k e=e) k ⟨h1,h3⟩
 refine⟨(To m).map fun n=>itr f n e,⟨by rw[lMq,Te];exact m2,by rw[lMq,Te],by rw[lMq,Te];exact m3,?_⟩,by rw[lMq,Te];lia,fun j hj hjm q=>?_⟩
 .rw [Su,S8];refine Sy.imp_of_mem (R:=fun a b=>a<b) (fun {a b} ha hb hab q=>?_) Wj
  have hb':=US.mp hb;exact m4 (b-a) (by lia) ⟨by lia,h.cut he (T8 hab) q⟩
 .rw [lMq,Te]at hjm;exact m4 j hjm ⟨hj,q⟩
theorem Cy.at{e:Int}{l:List Int}(h:Cy f e l) {i:Nat}(hi:i<l.length):l[i]?=some (itr f i e):=by
 have e1:l[i]?=((To l.length).map fun n=>itr f n e)[i]?:=congrArg (fun x:List Int=>x[i]?) h.get
 rw[e1,gMq,Ui hi];rfl
theorem Cy.one{e:Int}{l l':List Int}(h:Cy f e l) (h':Cy f e l'):l=l':=by
 have key:∀{l l':List Int},Cy f e l->Cy f e l'->¬ l.length<l'.length:=fun {l l'} h h' hlt=>by
  have a0:=h'.at (i:=0) (by lia)
  have a1:=h'.at (i:=l.length) hlt;rw[h.back]at a1;have:=h'.nd;have e2:=(List.getElem?_inj (i:=0) (j:=l.length) (by lia) this).mp (by rw[a0,a1];rfl)
  have:=h.len;lia
 have h1:=key h h';have h2:=key h' h;have hl:l.length=l'.length:=by lia
 rw[h.get,h'.get,hl]
theorem Cy.self{e:Int}{l:List Int}(h:Cy f e l):e∈l:=mGq (h.at (i:=0) (by have:=h.len;lia))
theorem Cy.rot{e:Int}{l:List Int}(h:Cy f e l) {j:Nat}(hj:j<l.length):Cy f (itr f j e) (l.drop j++l.take j):=by
 have hlen:(l.drop j++l.take j).length=l.length:=by rw[lAq,SE,lTq];lia
 refine⟨by rw[hlen];exact h.len,?_,?_,?_⟩
 .refine Uw fun i=>?_
  rw[hlen,gMq]
  by_cases hi:i<l.length
  .rw [Ui hi,Uh,←mq]
   by_cases hi2:i<l.length-j
   .rw [gZq (by rw[SE];exact hi2),U2,h.at (by lia),Wb j i]
   .rw [gYq (by rw[SE];lia),SE,UO (by lia),h.at (by lia)]
    congr 1;have e1:i+j=(i-(l.length-j))+l.length:=by lia
    rw[e1,mq,h.back]
  .rw [S0 (by rw[hlen];lia),S0 (by rw[Te];lia)]
   rfl
 .rw [hlen,←mq,Wb,mq,h.back]
 .exact Ts.nodup_iff.mpr (by rw[Ta];exact h.nd)
theorem Cy.good{e x:Int}{l l':List Int}(h:Cy f e l) (hx:x∈l) (h':Cy f x l'):Mr.good l'=Mr.good l:=by
 obtain⟨j,hj⟩:=Sw.mp hx;have hlt:=(gSq.mp hj).1;rw[h.at hlt]at hj;have r:=h.rot hlt;rw[Sz.inj hj]at r;rw[h'.one r];exact tV h.nd j
structure xg (f:Int->Int) (E:List Int) (L:List (List Int)):Prop where
 cy:∀l∈L,∃e,Cy f e l
 dj:L.flatten.Nodup
 all:∀x,x∈L.flatten↔x∈E
theorem BP:∀{L:List (List Int)},L.flatten.Nodup->L.Pairwise fun a b=>∀x∈a,∀y∈b,x≠y
 | [],_=>Sy.nil
 |a::L,h=>by
  rw[fCq,nAq]at h;exact Uq.mpr ⟨fun b hb x hx y hy=>h.2.2 x hx y (mFq.mpr ⟨b,hb,hy⟩),BP h.2.1⟩
theorem xg.nd{L:List (List Int)}(h:xg f E L):(L.map Mr.good).Nodup:=by
 rw[Su,S8];have hd:=BP h.dj;refine Sy.imp_of_mem (fun {a b} ha hb hab q=>?_) hd
 obtain⟨e,c⟩:=h.cy a ha;have h1:e∈Mr.good a:=(bA a).mem_iff.mpr c.self;rw[q]at h1;exact hab e c.self e ((bA b).mem_iff.mp h1) rfl
theorem xg.sub(hf:zP f E) {L M:List (List Int)}(h:xg f E L) (h':xg f E M) {y:List Int}(hy:y∈L.map Mr.good):y∈M.map Mr.good:=by
 obtain⟨l,hl,rfl⟩:=mMq.mp hy;obtain⟨e,c⟩:=h.cy l hl;have hE:e∈E:=(h.all e).mp (mFq.mpr ⟨l,hl,c.self⟩);obtain⟨m,hm,hem⟩:=mFq.mp ((h'.all e).mpr hE);obtain⟨e',c'⟩:=h'.cy m hm;exact mMq.mpr ⟨m,hm,(c'.good hem c).symm⟩
theorem xg.perm(hf:zP f E) {L M:List (List Int)}(h:xg f E L) (h':xg f E M):(L.map Mr.good).Perm (M.map Mr.good) :=
 (Tb h.nd h'.nd).mpr fun y=>⟨h.sub hf h',h'.sub hf h⟩
end
end Zl
namespace K13
open PySem L2 Mr Z Xe
def zK:MS:=(Bn 1 (qo 2))
def Dc:MX:=(rZ (CP (aO 1 (dD aN)))
 (rZ (CP (ni 2 (aK 0) zK))
 (QA Zl.Au (aB (aK 1) aN))))
def tN:HR:=Em 1 3 Dc
def qz:MS:=(aC (jM (eQ (sX (aj 0))) (cI (dD aN)) bD)
 (aC (aO 1 (kSc (PN "list" qR (aj 0) (ah (fA DX (ah (aj 0) ax)) ax))))
 (cI (Dh (lOf (HN (gY 0) (jL (aj 1)) og)) (lOf (HN (gY 0) og (jL (aj 1))))))))
def jl:MF:=fi 1 2 qz
def zL:MS:=(cI (sr (gu (oa (aK 0)) [] ft (bj K13.jl (aB (aK 0) aN)))))
def iZ:MF:=fi 1 1 zL
def gh(fm:MF):MS:=(jM (eQ (dN (cA fm (ah (bg CY (aj 0) (aj 2)) (ah (bg CY (aj 1) (aj 2)) ax))))) (cI (kSc (rC (.bl false)))) bD)
def jo(fm:MF):MS:=(aC (jM (rR (dN (fA eJ (ah (aj 1) (ah (rC (.ty "list")) ax)))) (dN (fA eJ (ah (aj 1) (ah (rC (.ty "tuple")) ax))))) (aC (jM (rR (dN (bg Dr (fA eJ (ah (aj 0) (ah (rC (.ty "list")) ax))) (fA eJ (ah (aj 1) (ah (rC (.ty "list")) ax))))) (dN (bg Dr (fA eJ (ah (aj 0) (ah (rC (.ty "tuple")) ax))) (fA eJ (ah (aj 1) (ah (rC (.ty "tuple")) ax)))))) (cI (kSc (rC (.bl false)))) bD) (aC (jM (dN (bg Dr (fA cS (ah (aj 0) ax)) (fA cS (ah (aj 1) ax)))) (cI (kSc (rC (.bl false)))) bD) (aC (qL 2 (ah (fA cS (ah (aj 1) ax)) ax) (gh fm)) (cI (kSc (rC (.bl true))))))) bD)
 (aC (jM (dN (bg Dx (aj 1) (rC .non))) (cI (kSc (bg Dx (aj 0) (rC .non)))) bD)
 (aC (jM (dN (fA eJ (ah (aj 1) (ah (rC (.ty "str")) ax)))) (cI (kSc (yi (fA eJ (ah (aj 0) (ah (rC (.ty "str")) ax))) (bg xZ (aj 0) (aj 1))))) bD)
 (cI (kSc (yi (fA eJ (ah (aj 0) (ah (rC (.ty "int")) ax))) (yi (Ni (fA eJ (ah (aj 0) (ah (rC (.ty "bool")) ax)))) (bg xZ (aj 0) (aj 1)))))))))
def dc(fm:MF):MF:=fi 2 3 (jo fm)
def aU:MF:=(dc (dc (dc (dc Z.Ex))))
end K13
namespace K51
open PySem L2 Mr Z Xe
def oZ:MS:=(kQ 1 (aj 3) (aK 4))
def oY:MS:=(Fl 3 4 (aK 2) (Dh (lOf (HN (gY 2) (jL (rC (.int 1))) og)) (lOf (HN (gY 2) og (jL (rC (.int 1)))))) oZ)
def za:MS:=(aC (aO 1 kG)
 (aC (ni 2 (aK 0) oY)
 (cI (tO 1))))
def qr:MF:=fi 1 5 za
def fb:MS:=(aC (aO 7 (kSc (vY (aj 2) (rY jb (aj 6))))) (jM (dN (eI (aj 7) (aj 3))) (aC (kQ 3 (aj 7) (kSc (rC (.bl true)))) (kJ 4 (aK 7))) bD))
def ja:MS:=(aC (EC 5 (vy 4)) (ni 6 (LI (gY 0) (aj 5)) fb))
def uU:MS:=(aC (aO 2 (bj Zl.iB (aB (aK 0) aN)))
 (aC (aO 3 (A2 (aj 1) (kSc (rC (.bl true)))))
 (aC (aO 4 (dD (aB (aK 1) aN)))
 (aC (dq (dN (bg Er (fA cS (ah (aj 4) ax)) (rC (.int 0)))) ja 100000)
 (cI (wJ (aj 3)))))))
def ji:MF:=fi 2 8 uU
def jV:MS:=(kQ 1 (aj 5) (kSc (rC (.bl true))))
def jI:MS:=(jM (dN (eI (aj 3) (aj 1))) (aC (aO 4 (bj K51.ji (aB (aK 0) (aB (aK 3) aN)))) (aC (ni 5 (aK 4) jV) (kJ 2 (gu (oa (aK 4)) [0] ft (kM (lOf (LI (gY 1) (aj 0)))))))) bD)
def wz:MS:=(aC (aO 1 kG)
 (aC (aO 2 (dD aN))
 (aC (qL 3 (ah (fA cS (ah (aj 0) ax)) ax) jI)
 (cI (tO 2)))))
def ky:MF:=fi 1 6 wz
end K51
namespace K12
open PySem L2 Mr Z Xe
def oJ:MS:=(aC (aO 1 (kSc (rC (.int 1))))
 (aC (aO 2 (kSc (rC (.int 0))))
 (aC (jM (dN (bg Er (bg iE (cA Zl.aD (ah (aj 0) (ah (rC (.int 0)) ax))) (rC (.int 3))) (rC (.int 0)))) (aC (aO 1 (kSc (bg gW (rC (.int 1)) (bg iE (cA Zl.aD (ah (aj 0) (ah (rC (.int 1)) ax))) (bg rX (rC (.int 10)) (rC (.int 58))))))) (aO 2 (kSc (bg iE (cA Zl.aD (ah (aj 0) (ah (rC (.int 2)) ax))) (bg rX (rC (.int 10)) (rC (.int 58))))))) bD)
 (aC (aO 3 (kSc (bg gW (rC (.int 1)) (bg iE (bg nh (cA Zl.aD (ah (aj 0) (ah (rC (.int 0)) ax))) (rC (.int 3))) (rC (.int 66))))))
 (aC (aO 4 (kSc (bg iE (bg nh (cA Zl.aD (ah (aj 0) (ah (rC (.int 0)) ax))) (rC (.int 198))) (rC (.int 67)))))
 (cI (gu (PY (ah (rC (.int 66)) ax)) [2,1,4,3] ft (kSc (bg gW (bg mM (aj 2) (bg gW (bg iE (bg gW (bg mM (aj 4) (aj 0)) (aj 3)) (rC (.int 67))) (rC (.int 1)))) (aj 1))))))))))
def gZ:MF:=fi 1 5 oJ
def ed:MS:=(aC (aO 7 (kSc (bg iE (aj 6) (rC (.int 8))))) (JF 8 2 (HM 2 (HM 2 (Ax 2) (rY jb (rC (.int 1)))) (bg AX (aj 3) (rY jb (rC (.int 1))))) (Ai 2 (aO 9 (kSc (bg AX (aj 1) (aj 5)))) (Ai 2 (jM (dN (bg xZ (bg iE (bg nh (aj 6) (rC (.int 8))) (rC (.int 2))) (rC (.int 1)))) (aO 9 (kSc (rY jb (aj 9)))) bD) (vi 2 (dN (bg zz (aj 7) (rC (.int 4)))) (fun path=>aC ((Cm 2 (aK 9)) path) (aC (aO 5 (kSc (bg gW (aj 5) (rC (.int 1))))) (jM (dN (bg zz (aj 7) (rC (.int 2)))) (kJ 4 (kSc (rY jb (aj 9)))) (aC (kJ 3 (kSc (fA cS (ah (bg AX (aj 2) (rY jb (rC (.int 1)))) ax)))) (Cs 2 (HM 2 (Ax 2) (rY jb (rC (.int 1)))) (dD (aB (kSc (rY jb (aj 9))) aN))))))) (vi 2 (dN (bg zz (aj 7) (rC (.int 6)))) (vi 2 (sX (aj 4)) (xU 2 (nQ 4 (bg iE (bg nh (aj 6) (rC (.int 16))) (fA cS (ah (aj 4) ax))))) (fun _=>bD)) (vi 2 (dN (bg xZ (aj 7) (rC (.int 6)))) (fun _=>(jM (dN (bg Er (fA cS (ah (aj 3) ax)) (rC (.int 1)))) (xK (vy 3)) bD)) (fun path=>aC ((Bx 2 (qo 4)) path) (aC (aO 4 (dD aN)) (aC (kJ 2 (dD (aB (dD aN) aN))) (aO 3 (dD (aB (kSc (rC (.int 0))) aN)))))))))))))
def uh:MS:=(aC (aO 2 (dD (aB (dD (aB (dD aN) aN)) aN)))
 (aC (aO 3 (dD (aB (kSc (rC (.int 0))) aN)))
 (aC (aO 4 (dD aN))
 (aC (aO 5 (kSc (rC (.int 0))))
 (aC (ni 6 (aK 0) ed)
 (aC (EZ 2 (HM 2 (HM 2 (Ax 2) (rY jb (rC (.int 1)))) (bg AX (aj 3) (rY jb (rC (.int 1))))) (qo 4))
 (cI (tO 2))))))))
def jd:MF:=fi 2 10 uh
end K12
namespace K15
open PySem L2 Mr Z
def kU:MS:=(kQ 2 (aj 3) (kSc (xh (aj 1) (rY jb (aj 3)))))
def uk:MS:=(aC (aO 1 (bj K51.qr (aB (aK 0) aN)))
 (aC (aO 2 kG)
 (aC (CD 3 1 kU)
 (cI (tO 2)))))
def kC:MF:=fi 1 4 uk
def iG:MS:=(aC (kJ 2 (aK 3)) (aO 3 (kSc (vY (aj 0) (aj 3)))))
def oj:MS:=(aC (aO 2 (dD (aB (aK 1) aN)))
 (aC (aO 3 (kSc (vY (aj 0) (aj 1))))
 (aC (dq (dN (bg Dr (aj 3) (aj 1))) iG 100000)
 (cI (tO 2)))))
def fY:MF:=fi 2 4 oj
def kY:MS:=(kQ 2 (aj 6) (kSc (rC (.bl true))))
def jt:MS:=(jM (dN (eI (aj 4) (aj 2))) (aC (aO 5 (bj K15.fY (aB (aK 1) (aB (aK 4) aN)))) (aC (ni 6 (aK 5) kY) (kJ 3 (aK 5)))) bD)
def yD:MS:=(aC (aO 1 (bj K15.kC (aB (aK 0) aN)))
 (aC (aO 2 kG)
 (aC (aO 3 (gu (oa (aK 0)) [] (dN (bg xZ (fA cS (ah (aj 0) ax)) (rC (.int 0)))) (dD aN)))
 (aC (ni 4 (bj Zl.gQ (aB (aK 0) aN)) jt)
 (cI (bj Zl.cE (aB (aK 3) aN)))))))
def cP:MF:=fi 1 7 yD
def mD:MS:=(kQ 1 (bg AX (aj 2) (aj 3)) (kSc (bg AX (aj 2) (bg iE (bg gW (aj 3) (rC (.int 1))) (fA cS (ah (aj 2) ax))))))
def lU:MS:=(qL 3 (ah (fA cS (ah (aj 2) ax)) ax) mD)
def tQ:MS:=(aC (aO 1 kG)
 (aC (ni 2 (aK 0) lU)
 (cI (tO 1))))
def kP:MF:=fi 1 4 tQ
def iW:MS:=(aC (kQ 2 (aj 6) (kSc (rC (.bl true)))) (aC (kJ 5 (aK 6)) (aO 6 (kSc (xh (aj 1) (rY jb (aj 6)))))))
def fV:MS:=(jM (dN (eI (aj 4) (aj 2))) (aC (aO 5 (dD aN)) (aC (aO 6 (aK 4)) (aC (dq (dN (eI (aj 6) (aj 2))) iW 100000) (kJ 3 (aK 5))))) bD)
def sY:MS:=(aC (aO 1 (bj K15.kP (aB (aK 0) aN)))
 (aC (aO 2 kG)
 (aC (aO 3 (gu (oa (aK 0)) [] (eQ (sX (aj 0))) (dD aN)))
 (aC (CD 4 1 fV)
 (cI (bj K13.iZ (aB (aK 3) aN)))))))
def fN:MF:=fi 1 7 sY
end K15
namespace K16
open PySem L2 Mr Z
def lj:MS:=(aC (aO 2 (kSc (bg gW (bg gW (aj 2) (rC (.int 1))) (bg iE (aj 3) (bg rX (rC (.int 10)) (rC (.int 57))))))) (aC (aO 3 (kSc (bg FI (aj 3) (bg rX (rC (.int 10)) (rC (.int 57)))))) (Bn 4 (lOf (dD (aB (aK 2) (aB (kSc (rY jb (aj 2))) aN)))))))
def mv:MS:=(aC (AC 7 (aj 8) (nQ 6 (bg iE (aj 3) (fA cS (ah (aj 6) ax))))) (aO 3 (kSc (bg nh (aj 3) (bg gW (fA cS (ah (aj 6) ax)) (rC (.int 1)))))))
def lZ:MS:=(aC (kQ 10 (aj 8) (kSc (rC (.bl true)))) (aC (kJ 11 (aK 8)) (aO 8 (kSc (vY (aj 7) (aj 8))))))
def jm:MS:=(aC (aO 11 (dD aN)) (aC (dq (dN (eI (aj 8) (aj 10))) lZ 100000) (jM (sX (aj 11)) (kJ 9 (aK 11)) bD)))
def jq:MS:=(aC (jM (dN (eI (aj 2) (aj 10))) (kJ 12 (aK 2)) bD) (aO 2 (kSc (bg gW (aj 2) (rC (.int 1))))))
def yR:MS:=(aC (aO 1 (kSc (bg iE (cA Zl.aD (ah (aj 0) (ah (rC (.int 1)) ax))) (rC (.int 31)))))
 (aC (aO 2 (kSc (rC (.int 0))))
 (aC (aO 3 (kSc (cA Zl.aD (ah (aj 0) (ah (rC (.int 2)) ax)))))
 (aC (aO 4 (dD aN))
 (aC (qL 5 (ah (aj 1) ax) lj)
 (aC (aO 6 (kM (gY 4)))
 (aC (aO 3 (kSc (cA Zl.aD (ah (aj 0) (ah (rC (.int 3)) ax)))))
 (aC (aO 7 kG)
 (aC (ni 8 (aK 4) mv)
 (aC (aO 9 (dD aN))
 (aC (aO 10 kG)
 (aC (ni 8 (aK 4) jm)
 (aC (aO 12 (dD aN))
 (aC (aO 2 (kSc (bg gW (rC (.int 1)) (bg iE (cA Zl.aD (ah (aj 0) (ah (rC (.int 4)) ax))) (bg rX (rC (.int 10)) (rC (.int 59)))))))
 (aC (dq (dN (bg zz (fA cS (ah (aj 12) ax)) (rC (.int 66)))) jq 100000)
 (cI (yk (aB (Dh (qo 9) (lOf (gu (PY (ah (bg iE (bg nh (cA Zl.aD (ah (aj 0) (ah (rC (.int 1)) ax))) (rC (.int 31))) (rC (.int 4))) ax)) [] ft (dD aN)))) (aB (aK 12) aN)))))))))))))))))))
def nS:MF:=fi 1 13 yR
end K16
namespace K19
open PySem L2 Mr Z
def wA:MS:=(cI (bj Zl.cE (aB (gu (oa (aK 0)) [] ft (BJ (gY 0))) aN)))
def kO:MF:=fi 1 1 wA
end K19
namespace K23
open PySem L2 Mr Z Xe
end K23
namespace K31
open PySem L2 Mr Z Xe
end K31
namespace K43
open PySem L2 Mr Z Xe
def vT:MS:=(aC (aO 1 (kSc (fA cS (ah (aj 0) ax))))
 (aC (aO 2 (kSc (fA cS (ah (rOf (bj Zl.gT (aB (aK 0) aN))) ax))))
 (aC (aO 3 (kSc (fA cS (ah (rOf (bj K15.cP (aB (aK 0) aN))) ax))))
 (aC (aO 4 (kSc (fA cS (ah (rOf (bj K51.ky (aB (aK 0) aN))) ax))))
 (aC (aO 5 (kSc (bg nh (bg rV (bg gW (bg rV (bg mM (rC (.int 2)) (aj 4)) (aj 1)) (aj 2)) (aj 3)) (rC (.int 2)))))
 (cI (yk (aB (aK 1) (aB (aK 2) (aB (aK 3) (aB (aK 4) (aB (aK 5) aN))))))))))))
def eh:MF:=fi 1 6 vT
end K43
namespace K17
open PySem L2 Mr Z
def uX:MS:=(cI (kSc (bg Bi (rOf (bj K43.eh (aB (aK 0) aN))) (rC (.int 4)))))
def jh:MF:=fi 1 1 uX
def de:MS:=(jM (dN (bg (LU false) (rY jb (aj 5)) (aj 6))) (aC (GN 2 (aj 6)) (kJ 3 (aK 6))) bD)
def eW:MS:=(ni 6 (kM (gY 2)) de)
def gA:MS:=(aC (ni 5 (LI (gY 3) (aj 4)) eW) (aO 4 (kSc (bg gW (aj 4) (rC (.int 1))))))
def fX:MS:=(aC (E3 3 (nQ 2 (rC (.int 0)))) (aC (aO 4 (kSc (rC (.int 0)))) (aC (dq (dN (bg zz (aj 4) (fA cS (ah (aj 3) ax)))) gA 100000) (kJ 1 (aK 3)))))
def qb:MS:=(aC (aO 1 (dD aN))
 (aC (aO 2 (kM (gY 0)))
 (aC (dq (sX (aj 2)) fX 100000)
 (cI (tO 1)))))
def fL:MF:=fi 1 7 qb
def Ay:MS:=(aC (aO 1 (bj K12.jd (aB (HN (gY 0) (jL (rC (.int 3))) (jL (rC (.int 66)))) (aB (bj K12.gZ (aB (aK 0) aN)) aN))))
 (aC (jM (dN (bg xZ (bg iE (bg nh (cA Zl.aD (ah (aj 0) (ah (rC (.int 0)) ax))) (rC (.int 13266))) (rC (.int 3))) (rC (.int 1)))) (aO 1 (gu (oa (aK 1)) [] (dN (bg vm (aj 0) (rOf (dD (aB (dD aN) aN))))) (aK 0))) bD)
 (aC (jM (dN (bg xZ (bg iE (cA Zl.aD (ah (aj 0) (ah (rC (.int 0)) ax))) (rC (.int 2))) (rC (.int 1)))) (aO 1 (bj K17.fL (aB (Kd (bj K16.nS (aB (aK 0) aN)) (rC (.int 0))) aN))) bD)
 (aC (aO 2 (bj K13.iZ (aB (bj Zl.bo (aB (aK 1) aN)) aN)))
 (aC (aO 3 (kSc (fA cS (ah (aj 2) ax))))
 (aC (aO 4 (kSc (bg nh (fA cS (ah (rOf (bj Zl.bo (aB (aK 2) aN))) ax)) (rC (.int 2)))))
 (aC (aO 5 (kSc (fA cS (ah (rOf (bj K15.fN (aB (aK 2) aN))) ax))))
 (aC (aO 6 (gu (oa (aK 2)) [] ft (kM (gY 0))))
 (aC (aO 7 (bj K43.eh (aB (aK 6) aN)))
 (aC (jM (rR (eQ (dN (fA mL (ah (aj 7) (ah (rC (.ty "tuple")) ax))))) (dN (bg Dr (fA cS (ah (aj 7) ax)) (rC (.int 5))))) (cI (kSc (rC (.bl false)))) bD)
 (aC (jM (eQ (dN (cA K13.aU (ah (rOf (IF (aK 7) og (jL (rC (.int 4))))) (ah (rOf (yk (aB (aK 3) (aB (aK 4) (aB (aK 5) (aB (kSc (fA cS (ah (aj 1) ax))) aN)))))) ax))))) (cI (kSc (rC (.bl false)))) bD)
 (aC (aO 8 (kSc (bg Bi (aj 7) (rC (.int 4)))))
 (aC (jM (rR (eQ (dN (cA K13.aU (ah (aj 8) (ah (bg nh (bg rV (bg mM (rC (.int 2)) (fA cS (ah (aj 1) ax))) (bg gW (bg rV (aj 3) (aj 4)) (aj 5))) (rC (.int 2))) ax))))) (dN (bg zz (aj 8) (rC (.int 0))))) (cI (kSc (rC (.bl false)))) bD)
 (aC (jM (dN (bg Dr (bg gW (bg rV (aj 3) (aj 4)) (aj 5)) (bg rV (bg mM (rC (.int 2)) (fA cS (ah (aj 1) ax))) (bg mM (rC (.int 2)) (aj 8))))) (cI (kSc (rC (.bl false)))) bD)
 (aC (jM (rR (eQ (dN (cA K13.aU (ah (cA K17.jh (ah (aj 6) ax)) (ah (aj 8) ax))))) (eQ (dN (cA K13.aU (ah (aj 6) (ah (aj 2) ax)))))) (cI (kSc (rC (.bl false)))) bD)
 (aC (jM (eQ (dN (cA K13.aU (ah (rOf (bj K43.eh (aB (bj K15.cP (aB (aK 6) aN)) aN))) (ah (rOf (yk (aB (aK 5) (aB (aK 4) (aB (aK 3) (aB (kSc (fA cS (ah (aj 1) ax))) (aB (aK 8) aN))))))) ax))))) (cI (kSc (rC (.bl false)))) bD)
 (cI (kSc (yi (cA K13.aU (ah (rOf (bj K43.eh (aB (xX K19.kO (ah (aj 6) ax)) aN))) (ah (aj 7) ax))) (cA K13.aU (ah (aj 6) (ah (aj 2) ax))))))))))))))))))))))
def Fg:MF:=fi 1 9 Ay
def qE(i:Nat):Stmt:=PySem.Challenge.pw_mapround_k17_whole_balance.main.body.getD i (.Pass ⟨0,0,0,0⟩)
section
variable {P:Program}{w:World}{K:W.Frag}{mg:Str->Option Value}{base:Heap}
abbrev iC:Stmt:=qE 1
theorem vW:bx ["ends", "start"] ["ends"] (au iC):=⟨rfl,rfl,rfl,by decide +kernel,rfl,by decide +kernel,by decide +kernel⟩
theorem DC     (D:gJ K mg "turned" iC ["ends"] f fd) (B:Bt mg)     : Fn P w K mg base 1 "turned" iC ["ends"] (bL K Zl.jF) f fd :=
 ⟨D,D.F.ok vW (fun _ _ _ _=>cG) fun iI A outer s H vs Q E hr h=>⟨_,
   (ae (cZ (bQ rB (aG aT (by rfl) B.len PySem.boot_len (aa (pv 0) ag)) ar (cF _)) (ao (aW (cw ag))) bH)
   (ae (ay (i:=1) vW.nd rfl (by first|exact Sr rfl|exact So rfl) (dO Sj Vm We yh (pv 0) (aa (aG (vE rfl) (by rfl) B.min Wm (aa (pv 0) ag)) ag)))
   (ao (aW (aQ xk (iy kT (pv 0) (iS (pv 1)) mF) (iy kT (pv 0) mF (iS (pv 1)))))))),
   aZ ["ends", "start"] (K:=K) (ak (dU (bS (aE qp (cj cB (ai (af 0) aw)) aq)) (aV (cD aJ)) bK)
   (ak (az (i:=1) (SR.kSc (Ki (T := "list") zj (af 0) (ai (cj He (ai (af 0) aw)) aw))))
   (aV (xJ (SK.lOf (tL (fD 0) (iY (af 1)) ly)) (SK.lOf (tL (fD 0) ly (iY (af 1)))))))) h⟩⟩
abbrev dY:Stmt:=qE 2
theorem mH:bx ["turns", "told", "turn"] ["turns"] (au dY):=⟨rfl,rfl,rfl,by decide +kernel,rfl,by decide +kernel,by decide +kernel⟩
theorem xV     (D:gJ K mg "told_ends" dY ["turns"] f fd) (B:Bt mg)     : Fn P w K mg base 1 "told_ends" dY ["turns"] (bL K Zl.bo) f fd :=
 ⟨D,D.F.ok mH (fun _ _ _ _=>cG) fun iI A outer s H vs Q E hr h=>⟨_,
   (ae (ay (i:=1) mH.nd rfl (by first|exact Sr rfl|exact So rfl) (cw ag))
   (ae (dk PassesOwn.never rfl (cC (pv 0)) (bR (i:=2) mH.nd rfl (by first|exact Sr rfl|exact So rfl))
    (ao (cv (dO Sj Us Ut kE (pv 1) (aa (pv 2) ag)))))
   (ao (aW (pv 1))))),
   aZ ["turns", "told", "turn"] (K:=K) (ak (az (i:=1) (cD aJ))
   (ak (gH (aA 0) (Be (i:=1) (oH 2)))
   (aV (ko 1)))) h⟩⟩
abbrev bZ:Stmt:=qE 3
theorem qQ:bx ["turns"] ["turns"] (au bZ):=⟨rfl,rfl,rfl,by decide +kernel,rfl,by decide +kernel,by decide +kernel⟩
theorem qC  (D:gJ K mg "in_good_order" bZ ["turns"] f fd) (B:Bt mg)   (Gf:Fn P w K mg base 1 "turned" iC ["ends"] (bL K Zl.jF) fturned fdturned)  : Fn P w K mg base 2 "in_good_order" bZ ["turns"] (bL K Zl.cE) f fd :=
 ⟨D,D.F.ok qQ (fun _ _ _ _=>cG) fun iI A outer s H vs Q E hr h=>have hu:=hr.units;⟨_,
   (ao (aW (aG (qa hu) (by rfl) B.sorted UR (aa (lH (cl:=[]) (N:=["turn"]) (fr:=[]) rfl rfl (by decide +kernel) rfl (by decide +kernel) rfl (gM.none (by decide +kernel)) (cC (pv 0)) (fun _ _ _ _=>oW) (fun _ _ _ _=>(bq Gf (hr.mono (by decide)) (aa (pv 0) ag)))) ag)))),
   aZ ["turns"] (K:=K) (aV (wx (gD (aA 0) pe (bw (aF (aA 0) aJ))))) h⟩⟩
abbrev eZ:Stmt:=qE 4
theorem Bo:bx ["m"] ["m"] (au eZ):=⟨rfl,rfl,rfl,by decide +kernel,rfl,by decide +kernel,by decide +kernel⟩
theorem Ac  (D:gJ K mg "ends_of" eZ ["m"] f fd) (B:Bt mg)   (yP:Fn P w K mg base 1 "told_ends" dY ["turns"] (bL K Zl.bo) ftold_ends fdtold_ends)  : Fn P w K mg base 2 "ends_of" eZ ["m"] (bL K Zl.gQ) f fd :=
 ⟨D,D.F.ok Bo (fun _ _ _ _=>cG) fun iI A outer s H vs Q E hr h=>⟨_,
   (ao (aW (aG wR (by rfl) B.sorted UR (aa (bq yP (hr.mono (by decide)) (aa (pv 0) ag)) ag)))),
   aZ ["m"] (K:=K) (aV (Gk (SL.q (SK.lOf (bw (aF (aA 0) aJ)))))) h⟩⟩
abbrev eT:Stmt:=qE 5
theorem zk:bx ["m"] ["m"] (au eT):=⟨rfl,rfl,rfl,by decide +kernel,rfl,by decide +kernel,by decide +kernel⟩
theorem zF  (D:gJ K mg "roads_of" eT ["m"] f fd) (B:Bt mg)   (qD:Fn P w K mg base 2 "ends_of" eZ ["m"] (bL K Zl.gQ) fends_of fdends_of)  : Fn P w K mg base 3 "roads_of" eT ["m"] (bL K Zl.gT) f fd :=
 ⟨D,D.F.ok zk (fun _ _ _ _=>cG) fun iI A outer s H vs Q E hr h=>⟨_,
   (ao (aW (lH (cl:=[]) (N:=["end"]) (fr:=[]) rfl rfl (by decide +kernel) rfl (by decide +kernel) rfl (gM.none (by decide +kernel)) (cC (bq qD (hr.mono (by decide)) (aa (pv 0) ag))) (fun _ _ _ _=>wQ (bQ CG (pv 0) ar (cF _))) (fun _ _ _ _=>(pv 0))))),
   aZ ["m"] (K:=K) (aV (gD (bw (aF (aA 0) aJ)) (bS (aE Cw (af 0) aq)) (aA 0))) h⟩⟩
abbrev dX:Stmt:=qE 6
theorem gk:bx ["m", "places", "place", "turn", "end"] ["m"] (au dX):=⟨rfl,rfl,rfl,by decide +kernel,rfl,by decide +kernel,by decide +kernel⟩
theorem xF     (D:gJ K mg "places_at" dX ["m"] f fd) (B:Bt mg)     : Fn P w K mg base 1 "places_at" dX ["m"] (bL K Zl.iB) f fd :=
 ⟨D,D.F.ok gk (fun _ _ _ _=>cG) fun iI A outer s H vs Q E hr h=>⟨_,
   (ae (ay (i:=1) gk.nd rfl (by first|exact Sr rfl|exact So rfl) gG)
   (ae (dk PassesOwn.never rfl (Jf (by rfl) B.enum (aa (pv 0) ag)) (Fq rfl (pY (bR (i:=2) gk.nd rfl (by first|exact Sr rfl|exact So rfl)) (pY (bR (i:=3) gk.nd rfl (by first|exact Sr rfl|exact So rfl)) Bv)))
    (ao (dk PassesOwn.never rfl (cC (pv 3)) (bR (i:=4) gk.nd rfl (by first|exact Sr rfl|exact So rfl))
    (ao (il (eO hr) (pv 1) (pv 4) (pv 2) rfl)))))
   (ao (aW (pv 1))))),
   aZ ["m", "places", "place", "turn", "end"] (K:=K) (ak (az (i:=1) iO)
   (ak (Iv (aA 0) (gH (aA 3) (iQ (i:=1) (aA 2) (af 4))))
   (aV (ko 1)))) h⟩⟩
abbrev jT:Stmt:=qE 7
theorem nv:bx ["m", "following", "turn", "end", "behind"] ["m"] (au jT):=⟨rfl,rfl,rfl,by decide +kernel,rfl,by decide +kernel,by decide +kernel⟩
theorem Ey     (D:gJ K mg "nexts" jT ["m"] f fd) (B:Bt mg)     : Fn P w K mg base 1 "nexts" jT ["m"] (bL K K51.qr) f fd :=
 ⟨D,D.F.ok nv (fun _ _ _ _=>cG) fun iI A outer s H vs Q E hr h=>⟨_,
   (ae (ay (i:=1) nv.nd rfl (by first|exact Sr rfl|exact So rfl) gG)
   (ae (dk PassesOwn.never rfl (cC (pv 0)) (bR (i:=2) nv.nd rfl (by first|exact Sr rfl|exact So rfl))
    (ao (dk PassesOwn.never rfl (Mx (by rfl) B.zip (aa (pv 2) (aa (aQ xk (iy kT (pv 2) (iS ar) mF) (iy kT (pv 2) mF (iS ar))) ag))) (Fq rfl (pY (bR (i:=3) nv.nd rfl (by first|exact Sr rfl|exact So rfl)) (pY (bR (i:=4) nv.nd rfl (by first|exact Sr rfl|exact So rfl)) Bv)))
    (ao (il (eO hr) (pv 1) (pv 3) (pv 4) rfl)))))
   (ao (aW (pv 1))))),
   aZ ["m", "following", "turn", "end", "behind"] (K:=K) (ak (az (i:=1) iO)
   (ak (gH (aA 0) (JB (aA 2) (xJ (SK.lOf (tL (fD 2) (iY aq) ly)) (SK.lOf (tL (fD 2) ly (iY aq)))) (iQ (i:=1) (aA 4) (af 3))))
   (aV (ko 1)))) h⟩⟩
abbrev fQ:Stmt:=qE 9
theorem fF:bx ["m", "start", "place_of", "known", "waiting", "here", "end", "there"] ["m", "start"] (au fQ):=⟨rfl,rfl,rfl,by decide +kernel,rfl,by decide +kernel,by decide +kernel⟩
theorem zY  (D:gJ K mg "reached" fQ ["m", "start"] f fd) (B:Bt mg)   (zD:Fn P w K mg base 1 "places_at" dX ["m"] (bL K Zl.iB) fplaces_at fdplaces_at)  : Fn P w K mg base 2 "reached" fQ ["m", "start"] (bL K K51.ji) f fd :=
 ⟨D,D.F.ok fF (fun _ _ _ _=>cG) fun iI A outer s H vs Q E hr h=>⟨_,
   (ae (ay (i:=2) fF.nd rfl (by first|exact Sr rfl|exact So rfl) (bq zD (hr.mono (by decide)) (aa (pv 0) ag)))
   (ae (ay (i:=3) fF.nd rfl (by first|exact Sr rfl|exact So rfl) (ID (Fz (pv 1) iJ JT) rfl rfl (by simp) (by decide)))
   (ae (ay (i:=4) fF.nd rfl (by first|exact Sr rfl|exact So rfl) (cw (aa (pv 1) ag)))
   (ae (jz PassesOwn.never (bQ CG (aG aT (by rfl) B.len PySem.boot_len (aa (pv 4) ag)) ar (cF _)) (ae (ay (i:=5) fF.nd rfl (by first|exact Sr rfl|exact So rfl) (FV Sj UD UE FS (pv 4))) (ao (dk PassesOwn.never rfl (cC (fM dB (pv 0) (pv 5) (fun _ _=>rfl))) (bR (i:=6) fF.nd rfl (by first|exact Sr rfl|exact So rfl))
    (ae (ay (i:=7) fF.nd rfl (by first|exact Sr rfl|exact So rfl) (nO (eO hr) (pv 2) (jU gF (pv 6)) (by first|rfl|exact trivial|(intro _ _;rfl)))) (ao (cZ (oB (gX (eO hr) (pv 7) (pv 3))) (ae (il (eO hr) (pv 3) (pv 7) iJ rfl) (ao (cv (dO Sj SC SD bT (pv 4) (aa (pv 7) ag))))) bH)))))))
   (ao (aW (aG (xT rfl) (by rfl) B.sorted UR (aa (pv 3) ag)))))))),
   aZ ["m", "start", "place_of", "known", "waiting", "here", "end", "there"] (K:=K) (ak (az (i:=2) (bw (aF (aA 0) aJ)))
   (ak (az (i:=3) (E1 (af 1) (SR.kSc iK)))
   (ak (az (i:=4) (cD (aF (aA 1) aJ)))
   (ak (ju 100000 (bS (aE Cw (cj cB (ai (af 4) aw)) aq)) (ak (Ih (i:=5) (Cd (i:=4))) (gH (FF (fD 0) (af 5)) (ak (az (i:=7) (SR.kSc (si (af 2) (ka gn (af 6))))) (dU (gN (hU (af 7) (af 3))) (ak (iQ (i:=3) (SR.kSc iK) (af 7)) (gc (i:=4) (aA 7))) bK)))))
   (aV (Gc (af 3))))))) h⟩⟩
abbrev ip:Stmt:=qE 10
theorem jk:bx ["m", "known", "found", "start", "places", "place"] ["m"] (au ip):=⟨rfl,rfl,rfl,by decide +kernel,rfl,by decide +kernel,by decide +kernel⟩
theorem CN  (D:gJ K mg "pieces" ip ["m"] f fd) (B:Bt mg)   (DH:Fn P w K mg base 2 "reached" fQ ["m", "start"] (bL K K51.ji) freached fdreached)  : Fn P w K mg base 3 "pieces" ip ["m"] (bL K K51.ky) f fd :=
 ⟨D,D.F.ok jk (fun _ _ _ _=>cG) fun iI A outer s H vs Q E hr h=>⟨_,
   (ae (ay (i:=1) jk.nd rfl (by first|exact Sr rfl|exact So rfl) gG)
   (ae (ay (i:=2) jk.nd rfl (by first|exact Sr rfl|exact So rfl) (cw ag))
   (ae (dk PassesOwn.never rfl (je (by rfl) B.range (aa (aG aT (by rfl) B.len PySem.boot_len (aa (pv 0) ag)) ag)) (bR (i:=3) jk.nd rfl (by first|exact Sr rfl|exact So rfl))
    (ao (cZ (oB (gX (eO hr) (pv 3) (pv 1))) (ae (ay (i:=4) jk.nd rfl (by first|exact Sr rfl|exact So rfl) (bq DH (hr.mono (by decide)) (aa (pv 0) (aa (pv 3) ag)))) (ae (dk PassesOwn.never rfl (cC (pv 4)) (bR (i:=5) jk.nd rfl (by first|exact Sr rfl|exact So rfl))
    (ao (il (eO hr) (pv 1) (pv 5) iJ rfl))) (ao (cv (dO Sj SC SD bT (pv 2) (aa (lH (N:=["place", "m"]) (fr:=[0]) rfl rfl (by decide +kernel) rfl (by decide +kernel) rfl (gM.of (by decide +kernel) rfl rfl (by exact⟨rfl,trivial⟩) (by repeat (first|exact trivial|refine⟨(by first|exact fun _=>⟨_,rfl⟩|exact fun h=>(by rcases h with h|h <;> cases h)),?_⟩)) (by exact⟨⟨rfl,rfl,rfl⟩,trivial⟩)) (cC (pv 4)) (fun _ _ _ _=>oW) (fun _ _ _ _=>(kA gC (by rfl) B.list TR (aa (fM dB (pv 1) (pv 0) (fun _ _=>rfl)) ag)))) ag)))))) bH)))
   (ao (aW (pv 2)))))),
   aZ ["m", "known", "found", "start", "places", "place"] (K:=K) (ak (az (i:=1) iO)
   (ak (az (i:=2) (cD aJ))
   (ak (pR (ai (cj cB (ai (af 0) aw)) aw) (dU (gN (hU (af 3) (af 1))) (ak (az (i:=4) (bw (aF (aA 0) (aF (aA 3) aJ)))) (ak (gH (aA 4) (iQ (i:=1) (SR.kSc iK) (af 5))) (gc (i:=2) (gD (aA 4) pe (pP (SL.q (SK.lOf (FF (fD 1) (af 0))))))))) bK))
   (aV (ko 2))))) h⟩⟩
abbrev fJ:Stmt:=qE 12
theorem mz:bx ["m", "following", "steps", "end"] ["m"] (au fJ):=⟨rfl,rfl,rfl,by decide +kernel,rfl,by decide +kernel,by decide +kernel⟩
theorem AF  (D:gJ K mg "onwards" fJ ["m"] f fd) (B:Bt mg)   (Jr:Fn P w K mg base 1 "nexts" jT ["m"] (bL K K51.qr) fnexts fdnexts)  : Fn P w K mg base 2 "onwards" fJ ["m"] (bL K K15.kC) f fd :=
 ⟨D,D.F.ok mz (fun _ _ _ _=>cG) fun iI A outer s H vs Q E hr h=>⟨_,
   (ae (ay (i:=1) mz.nd rfl (by first|exact Sr rfl|exact So rfl) (bq Jr (hr.mono (by decide)) (aa (pv 0) ag)))
   (ae (ay (i:=2) mz.nd rfl (by first|exact Sr rfl|exact So rfl) gG)
   (ae (dk PassesOwn.never rfl (Xe.BL (pv 1)) (bR (i:=3) mz.nd rfl (by first|exact Sr rfl|exact So rfl))
    (ao (il (eO hr) (pv 2) (pv 3) (nO (eO hr) (pv 1) (jU gF (pv 3)) (by first|rfl|exact trivial|(intro _ _;rfl))) rfl)))
   (ao (aW (pv 2)))))),
   aZ ["m", "following", "steps", "end"] (K:=K) (ak (az (i:=1) (bw (aF (aA 0) aJ)))
   (ak (az (i:=2) iO)
   (ak (Co (x:=3) (i:=1) (iQ (i:=2) (SR.kSc (yl (af 1) (ka gn (af 3)))) (af 3)))
   (aV (ko 2))))) h⟩⟩
abbrev dE:Stmt:=qE 13
theorem ij:bx ["steps", "end", "ends", "step"] ["steps", "end"] (au dE):=⟨rfl,rfl,rfl,by decide +kernel,rfl,by decide +kernel,by decide +kernel⟩
theorem vo     (D:gJ K mg "gone_round" dE ["steps", "end"] f fd) (B:Bt mg)     : Fn P w K mg base 1 "gone_round" dE ["steps", "end"] (bL K K15.fY) f fd :=
 ⟨D,D.F.ok ij (fun _ _ _ _=>cG) fun iI A outer s H vs Q E hr h=>⟨_,
   (ae (ay (i:=2) ij.nd rfl (by first|exact Sr rfl|exact So rfl) (cw (aa (pv 1) ag)))
   (ae (ay (i:=3) ij.nd rfl (by first|exact Sr rfl|exact So rfl) (nO (eO hr) (pv 0) (pv 1) (by first|rfl|exact trivial|(intro _ _;rfl))))
   (ae (jz PassesOwn.never (bQ wm (pv 3) (pv 1) (cF _)) (ae (cv (dO Sj SC SD bT (pv 2) (aa (pv 3) ag))) (ao (ay (i:=3) ij.nd rfl (by first|exact Sr rfl|exact So rfl) (nO (eO hr) (pv 0) (pv 3) (by first|rfl|exact trivial|(intro _ _;rfl)))))))
   (ao (aW (pv 2)))))),
   aZ ["steps", "end", "ends", "step"] (K:=K) (ak (az (i:=2) (cD (aF (aA 1) aJ)))
   (ak (az (i:=3) (SR.kSc (si (af 0) (af 1))))
   (ak (ju 100000 (bS (aE vQ (af 3) (af 1))) (ak (gc (i:=2) (aA 3)) (az (i:=3) (SR.kSc (si (af 0) (af 3))))))
   (aV (ko 2))))) h⟩⟩
abbrev iX:Stmt:=qE 14
theorem jy:bx ["m", "steps", "known", "found", "start", "land", "end"] ["m"] (au iX):=⟨rfl,rfl,rfl,by decide +kernel,rfl,by decide +kernel,by decide +kernel⟩
theorem FG  (D:gJ K mg "lands" iX ["m"] f fd) (B:Bt mg)   (DO:Fn P w K mg base 2 "onwards" fJ ["m"] (bL K K15.kC) fonwards fdonwards) (qD:Fn P w K mg base 2 "ends_of" eZ ["m"] (bL K Zl.gQ) fends_of fdends_of) (iH:Fn P w K mg base 2 "in_good_order" bZ ["turns"] (bL K Zl.cE) fin_good_order fdin_good_order) (xt:Fn P w K mg base 1 "gone_round" dE ["steps", "end"] (bL K K15.fY) fgone_round fdgone_round)  : Fn P w K mg base 3 "lands" iX ["m"] (bL K K15.cP) f fd :=
 ⟨D,D.F.ok jy (fun _ _ _ _=>cG) fun iI A outer s H vs Q E hr h=>⟨_,
   (ae (ay (i:=1) jy.nd rfl (by first|exact Sr rfl|exact So rfl) (bq DO (hr.mono (by decide)) (aa (pv 0) ag)))
   (ae (ay (i:=2) jy.nd rfl (by first|exact Sr rfl|exact So rfl) gG)
   (ae (sj (i:=3) (cl:=[]) (N:=["turn"]) (fr:=[]) rfl jy.nd rfl (by first|exact Sr rfl|exact So rfl) rfl (by decide +kernel) rfl (by decide +kernel) rfl (gM.none (by decide +kernel)) (cC (pv 0)) (fun _ _ _ _=>wQ (bQ rB (aG aT (by rfl) B.len PySem.boot_len (aa (pv 0) ag)) ar (cF _))) (fun _ _ _ _=>(cw ag)))
   (ae (dk PassesOwn.never rfl (cC (bq qD (hr.mono (by decide)) (aa (pv 0) ag))) (bR (i:=4) jy.nd rfl (by first|exact Sr rfl|exact So rfl))
    (ao (cZ (oB (gX (eO hr) (pv 4) (pv 2))) (ae (ay (i:=5) jy.nd rfl (by first|exact Sr rfl|exact So rfl) (bq xt (hr.mono (by decide)) (aa (pv 1) (aa (pv 4) ag)))) (ae (dk PassesOwn.never rfl (cC (pv 5)) (bR (i:=6) jy.nd rfl (by first|exact Sr rfl|exact So rfl))
    (ao (il (eO hr) (pv 2) (pv 6) iJ rfl))) (ao (cv (dO Sj SC SD bT (pv 3) (aa (pv 5) ag)))))) bH)))
   (ao (aW (bq iH (hr.mono (by decide)) (aa (pv 3) ag)))))))),
   aZ ["m", "steps", "known", "found", "start", "land", "end"] (K:=K) (ak (az (i:=1) (bw (aF (aA 0) aJ)))
   (ak (az (i:=2) iO)
   (ak (az (i:=3) (gD (aA 0) (bS (aE qp (cj cB (ai (af 0) aw)) aq)) (cD aJ)))
   (ak (gH (bw (aF (aA 0) aJ)) (dU (gN (hU (af 4) (af 2))) (ak (az (i:=5) (bw (aF (aA 1) (aF (aA 4) aJ)))) (ak (gH (aA 5) (iQ (i:=2) (SR.kSc iK) (af 6))) (gc (i:=3) (aA 5)))) bK))
   (aV (bw (aF (aA 3) aJ))))))) h⟩⟩
abbrev gm:Stmt:=qE 15
theorem jg:bx ["m", "place_count", "road_count", "land_count", "piece_count", "handle_count"] ["m"] (au gm):=⟨rfl,rfl,rfl,by decide +kernel,rfl,by decide +kernel,by decide +kernel⟩
theorem CZ  (D:gJ K mg "counts" gm ["m"] f fd) (B:Bt mg)   (As:Fn P w K mg base 3 "roads_of" eT ["m"] (bL K Zl.gT) froads_of fdroads_of) (wM:Fn P w K mg base 3 "lands" iX ["m"] (bL K K15.cP) flands fdlands) (Ft:Fn P w K mg base 3 "pieces" ip ["m"] (bL K K51.ky) fpieces fdpieces)  : Fn P w K mg base 4 "counts" gm ["m"] (bL K K43.eh) f fd :=
 ⟨D,D.F.ok jg (fun _ _ _ _=>cG) fun iI A outer s H vs Q E hr h=>⟨_,
   (ae (ay (i:=1) jg.nd rfl (by first|exact Sr rfl|exact So rfl) (aG aT (by rfl) B.len PySem.boot_len (aa (pv 0) ag)))
   (ae (ay (i:=2) jg.nd rfl (by first|exact Sr rfl|exact So rfl) (aG aT (by rfl) B.len PySem.boot_len (aa (bq As (hr.mono (by decide)) (aa (pv 0) ag)) ag)))
   (ae (ay (i:=3) jg.nd rfl (by first|exact Sr rfl|exact So rfl) (aG aT (by rfl) B.len PySem.boot_len (aa (bq wM (hr.mono (by decide)) (aa (pv 0) ag)) ag)))
   (ae (ay (i:=4) jg.nd rfl (by first|exact Sr rfl|exact So rfl) (aG aT (by rfl) B.len PySem.boot_len (aa (bq Ft (hr.mono (by decide)) (aa (pv 0) ag)) ag)))
   (ae (ay (i:=5) jg.nd rfl (by first|exact Sr rfl|exact So rfl) (aQ ik (aQ qW (aQ fg (aQ qW (aQ qM ar (pv 4)) (pv 1)) (pv 2)) (pv 3)) ar))
   (ao (aW (xy (aa (pv 1) (aa (pv 2) (aa (pv 3) (aa (pv 4) (aa (pv 5) ag))))))))))))),
   aZ ["m", "place_count", "road_count", "land_count", "piece_count", "handle_count"] (K:=K) (ak (az (i:=1) (SR.kSc (cj cB (ai (af 0) aw))))
   (ak (az (i:=2) (SR.kSc (cj cB (ai (SK.rOf (bw (aF (aA 0) aJ))) aw))))
   (ak (az (i:=3) (SR.kSc (cj cB (ai (SK.rOf (bw (aF (aA 0) aJ))) aw))))
   (ak (az (i:=4) (SR.kSc (cj cB (ai (SK.rOf (bw (aF (aA 0) aJ))) aw))))
   (ak (az (i:=5) (SR.kSc (aE kg (aE qu (aE fj (aE qu (aE qB aq (af 4)) (af 1)) (af 2)) (af 3)) aq)))
   (aV (wL (aF (aA 1) (aF (aA 2) (aF (aA 3) (aF (aA 4) (aF (aA 5) aJ)))))))))))) h⟩⟩
abbrev fG:Stmt:=qE 16
theorem Bq:bx ["m"] ["m"] (au fG):=⟨rfl,rfl,rfl,by decide +kernel,rfl,by decide +kernel,by decide +kernel⟩
theorem zW  (D:gJ K mg "handles" fG ["m"] f fd) (B:Bt mg)   (nu:Fn P w K mg base 4 "counts" gm ["m"] (bL K K43.eh) fcounts fdcounts)  : Fn P w K mg base 5 "handles" fG ["m"] (bL K K17.jh) f fd :=
 ⟨D,D.F.ok Bq (fun _ _ _ _=>cG) fun iI A outer s H vs Q E hr h=>⟨_,
   (ao (aW (fM uR (bq nu (hr.mono (by decide)) (aa (pv 0) ag)) ar (fun _ _=>rfl)))),
   aZ ["m"] (K:=K) (aV (SR.kSc (aE Af (SK.rOf (bw (aF (aA 0) aJ))) aq))) h⟩⟩
abbrev iq:Stmt:=qE 17
theorem DL:bx ["m"] ["m"] (au iq):=⟨rfl,rfl,rfl,by decide +kernel,rfl,by decide +kernel,by decide +kernel⟩
theorem Dm  (D:gJ K mg "mirror" iq ["m"] f fd) (B:Bt mg)   (iH:Fn P w K mg base 2 "in_good_order" bZ ["turns"] (bL K Zl.cE) fin_good_order fdin_good_order)  : Fn P w K mg base 3 "mirror" iq ["m"] (bL K K19.kO) f fd :=
 ⟨D,D.F.ok DL (fun _ _ _ _=>cG) fun iI A outer s H vs Q E hr h=>⟨_,
   (ao (aW (bq iH (hr.mono (by decide)) (aa (lH (cl:=[]) (N:=["turn"]) (fr:=[]) rfl rfl (by decide +kernel) rfl (by decide +kernel) rfl (gM.none (by decide +kernel)) (cC (pv 0)) (fun _ _ _ _=>oW) (fun _ _ _ _=>(JC rfl (by rfl) B.list (by rfl) B.reversed (aa (pv 0) ag)))) ag)))),
   aZ ["m"] (K:=K) (aV (bw (aF (gD (aA 0) pe (Jz (fD 0))) aJ))) h⟩⟩
abbrev fq:Stmt:=qE 19
theorem DT:bx ["_law_script", "_law_k"] ["_law_script", "_law_k"] (au fq):=⟨rfl,rfl,rfl,by decide +kernel,rfl,by decide +kernel,by decide +kernel⟩
theorem C7     (D:gJ K mg "_law_cell" fq ["_law_script", "_law_k"] f fd) (B:Bt mg)     : Fn P w K mg base 1 "_law_cell" fq ["_law_script", "_law_k"] (bL K Zl.aD) f fd :=
 ⟨D,D.F.ok DT (fun _ _ _ _=>cG) fun iI A outer s H vs Q E hr h=>⟨_,
   (ae (cZ (bQ tW (pv 1) (aG aT (by rfl) B.len PySem.boot_len (aa (pv 0) ag)) (cF _)) (ao (aW (fM dB (pv 0) (pv 1) (fun _ _=>rfl)))) bH)
   (ao (aW ar))),
   aZ ["_law_script", "_law_k"] (K:=K) (ak (dU (bS (aE uY (af 1) (cj cB (ai (af 0) aw)))) (aV (SR.kSc (aE rE (af 0) (af 1)))) bK)
   (aV (SR.kSc aq))) h⟩⟩
abbrev fO:Stmt:=qE 20
theorem fE:bx ["_law_script", "_law_step", "_law_shift", "_law_stride", "_law_off"] ["_law_script"] (au fO):=⟨rfl,rfl,rfl,by decide +kernel,rfl,by decide +kernel,by decide +kernel⟩
theorem zX  (D:gJ K mg "_law_names" fO ["_law_script"] f fd) (B:Bt mg)   (dF:Fn P w K mg base 1 "_law_cell" fq ["_law_script", "_law_k"] (bL K Zl.aD) Ct yX)  : Fn P w K mg base 2 "_law_names" fO ["_law_script"] (bL K K12.gZ) f fd :=
 ⟨D,D.F.ok fE (fun _ _ _ _=>cG) fun iI A outer s H vs Q E hr h=>⟨_,
   (ae (ay (i:=1) fE.nd rfl (by first|exact Sr rfl|exact So rfl) ar)
   (ae (ay (i:=2) fE.nd rfl (by first|exact Sr rfl|exact So rfl) ar)
   (ae (cZ (bQ CG (aQ eX (bq dF (hr.mono (by decide)) (aa (pv 0) (aa ar ag))) ar) ar (cF _)) (ae (ay (i:=1) fE.nd rfl (by first|exact Sr rfl|exact So rfl) (aQ fg ar (aQ eX (bq dF (hr.mono (by decide)) (aa (pv 0) (aa ar ag))) (aQ uE ar ar)))) (ao (ay (i:=2) fE.nd rfl (by first|exact Sr rfl|exact So rfl) (aQ eX (bq dF (hr.mono (by decide)) (aa (pv 0) (aa ar ag))) (aQ uE ar ar))))) bH)
   (ae (ay (i:=3) fE.nd rfl (by first|exact Sr rfl|exact So rfl) (aQ fg ar (aQ eX (aQ ik (bq dF (hr.mono (by decide)) (aa (pv 0) (aa ar ag))) ar) ar)))
   (ae (ay (i:=4) fE.nd rfl (by first|exact Sr rfl|exact So rfl) (aQ eX (aQ ik (bq dF (hr.mono (by decide)) (aa (pv 0) (aa ar ag))) ar) ar))
   (ao (aW (lH (N:=["_law_k", "_law_shift", "_law_step", "_law_off", "_law_stride"]) (fr:=[2,1,4,3]) rfl rfl (by decide +kernel) rfl (by decide +kernel) rfl (gM.of (by decide +kernel) rfl rfl (by exact⟨rfl,rfl,rfl,rfl,trivial⟩) (by repeat (first|exact trivial|refine⟨(by first|exact fun _=>⟨_,rfl⟩|exact fun h=>(by rcases h with h|h <;> cases h)),?_⟩)) (by exact⟨⟨rfl,rfl,rfl⟩,⟨rfl,rfl,rfl⟩,⟨rfl,rfl,rfl⟩,⟨rfl,rfl,rfl⟩,trivial⟩)) (je (by rfl) B.range (aa ar ag)) (fun _ _ _ _=>oW) (fun _ _ _ _=>(aQ fg (aQ qM (pv 2) (aQ fg (aQ eX (aQ fg (aQ qM (pv 4) (pv 0)) (pv 3)) ar) ar)) (pv 1))))))))))),
   aZ ["_law_script", "_law_step", "_law_shift", "_law_stride", "_law_off"] (K:=K) (ak (az (i:=1) (SR.kSc aq))
   (ak (az (i:=2) (SR.kSc aq))
   (ak (dU (bS (aE Cw (aE eN (cK (ai (af 0) (ai aq aw))) aq) aq)) (ak (az (i:=1) (SR.kSc (aE fj aq (aE eN (cK (ai (af 0) (ai aq aw))) (aE ug aq aq))))) (az (i:=2) (SR.kSc (aE eN (cK (ai (af 0) (ai aq aw))) (aE ug aq aq))))) bK)
   (ak (az (i:=3) (SR.kSc (aE fj aq (aE eN (aE kg (cK (ai (af 0) (ai aq aw))) aq) aq))))
   (ak (az (i:=4) (SR.kSc (aE eN (aE kg (cK (ai (af 0) (ai aq aw))) aq) aq)))
   (aV (wq (ai aq aw) pe (SR.kSc (aE fj (aE qB (af 2) (aE fj (aE eN (aE fj (aE qB (af 4) (af 0)) (af 3)) aq) aq)) (af 1)))))))))) h⟩⟩
abbrev fR:Stmt:=qE 21
theorem cH:bx ["_law_cells", "_law_names_here", "_law_parts_here", "_law_trail", "_law_left", "_law_used", "_law_cell_here", "_law_way", "_law_here", "_law_end"] ["_law_cells", "_law_names_here"] (au fR):=⟨rfl,rfl,rfl,by decide +kernel,rfl,by decide +kernel,by decide +kernel⟩
theorem Ak     (D:gJ K mg "_law_parts" fR ["_law_cells", "_law_names_here"] f fd) (B:Bt mg)     : Fn P w K mg base 1 "_law_parts" fR ["_law_cells", "_law_names_here"] (bL K K12.jd) f fd :=
 ⟨D,D.F.ok cH (fun _ _ _ _=>cG) fun iI A outer s H vs Q E hr h=>⟨_,
   (ae (ay (i:=2) cH.nd rfl (by first|exact Sr rfl|exact So rfl) (cw (aa (cw (aa (cw ag) ag)) ag)))
   (ae (ay (i:=3) cH.nd rfl (by first|exact Sr rfl|exact So rfl) (cw (aa ar ag)))
   (ae (ay (i:=4) cH.nd rfl (by first|exact Sr rfl|exact So rfl) (cw ag))
   (ae (ay (i:=5) cH.nd rfl (by first|exact Sr rfl|exact So rfl) ar)
   (ae (dk PassesOwn.never rfl (cC (pv 0)) (bR (i:=6) cH.nd rfl (by first|exact Sr rfl|exact So rfl))
    (ae (ay (i:=7) cH.nd rfl (by first|exact Sr rfl|exact So rfl) (aQ eX (pv 6) ar)) (ae (ay (i:=8) cH.nd rfl (by first|exact Sr rfl|exact So rfl) (fM dB (fM dB (pv 2) (jU gF ar) (fun _ _=>rfl)) (fM dB (pv 3) (jU gF ar) (fun _ _=>rfl)) (fun _ _=>rfl))) (ae (ay (i:=9) cH.nd rfl (by first|exact Sr rfl|exact So rfl) (fM dB (pv 1) (pv 5) (fun _ _=>rfl))) (ae (cZ (bQ rB (aQ eX (aQ ik (pv 6) ar) ar) ar (cF _)) (ao (ay (i:=9) cH.nd rfl (by first|exact Sr rfl|exact So rfl) (jU gF (pv 9)))) bH) (ao (cZ (bQ tW (pv 7) ar (cF _)) (ae (cv (dO Sj SC SD bT (pv 8) (aa (pv 9) ag))) (ae (ay (i:=5) cH.nd rfl (by first|exact Sr rfl|exact So rfl) (aQ fg (pv 5) ar)) (ao (cZ (bQ tW (pv 7) ar (cF _)) (ao (cv (dO Sj SC SD bT (pv 4) (aa (jU gF (pv 9)) ag)))) (ae (cv (dO Sj SC SD bT (pv 3) (aa (aG aT (by rfl) B.len PySem.boot_len (aa (fM dB (pv 2) (jU gF ar) (fun _ _=>rfl)) ag)) ag))) (ao (cv (dO Sj SC SD bT (fM dB (pv 2) (jU gF ar) (fun _ _=>rfl)) (aa (cw (aa (jU gF (pv 9)) ag)) ag))))))))) (ao (cZ (bQ tW (pv 7) ar (cF _)) (ao (cZ (nD (pv 4) (fun _=>rfl)) (ao (cv (dO Sj SC SD bT (pv 8) (aa (dO Sj UD UE ui (pv 4) (aa (aQ eX (aQ ik (pv 6) ar) (aG aT (by rfl) B.len PySem.boot_len (aa (pv 4) ag))) ag)) ag)))) bH)) (ao (cZ (bQ rB (pv 7) ar (cF _)) (ao (cZ (bQ CG (aG aT (by rfl) B.len PySem.boot_len (aa (pv 3) ag)) ar (cF _)) (ao (cv (FV Sj UD UE FS (pv 3)))) bH)) (ae (cv (dO Sj Us Ut kE (pv 8) (aa (pv 4) ag))) (ae (ay (i:=4) cH.nd rfl (by first|exact Sr rfl|exact So rfl) (cw ag)) (ae (cv (dO Sj SC SD bT (pv 2) (aa (cw (aa (cw ag) ag)) ag))) (ao (ay (i:=3) cH.nd rfl (by first|exact Sr rfl|exact So rfl) (cw (aa ar ag))))))))))))))))))
   (ae (cv (dO Sj Us Ut kE (fM dB (fM dB (pv 2) (jU gF ar) (fun _ _=>rfl)) (fM dB (pv 3) (jU gF ar) (fun _ _=>rfl)) (fun _ _=>rfl)) (aa (pv 4) ag)))
   (ao (aW (pv 2))))))))),
   aZ ["_law_cells", "_law_names_here", "_law_parts_here", "_law_trail", "_law_left", "_law_used", "_law_cell_here", "_law_way", "_law_here", "_law_end"] (K:=K) (ak (az (i:=2) (cD (aF (cD (aF (cD aJ) aJ)) aJ)))
   (ak (az (i:=3) (cD (aF (SR.kSc aq) aJ)))
   (ak (az (i:=4) (cD aJ))
   (ak (az (i:=5) (SR.kSc aq))
   (ak (gH (aA 0) (ak (az (i:=7) (SR.kSc (aE eN (af 6) aq))) (LV (va (va (xA 2) (ka gn aq)) (aE rE (af 3) (ka gn aq))) (E7 (Cg (SR.kSc (aE rE (af 1) (af 5))) (by decide)) (E7 (LQ (bS (aE qp (aE eN (aE kg (af 6) aq) aq) aq)) (Cg (SR.kSc (ka gn (af 9))) (by decide)) (E8 (fun _ _ _ h=>h))) (B1 (bS (aE uY (af 7) aq)) (GS (M9 (aA 9)) (ak (az (i:=5) (SR.kSc (aE fj (af 5) aq))) (dU (bS (aE uY (af 7) aq)) (gc (i:=4) (SR.kSc (ka gn (af 9)))) (ak (gc (i:=3) (SR.kSc (cj cB (ai (aE rE (af 2) (ka gn aq)) aw)))) (J7 (va (xA 2) (ka gn aq)) (cD (aF (SR.kSc (ka gn (af 9))) aJ))))))) (B1 (bS (aE uY (af 7) aq)) (B1 (uq (af 4)) (Ii (tF (i:=4) (aE eN (aE kg (af 6) aq) (cj cB (ai (af 4) aw))))) (KM bK)) (B1 (bS (aE qp (af 7) aq)) (KM (dU (bS (aE Cw (cj cB (ai (af 3) aw)) aq)) (HJ (Cd (i:=3))) bK)) (GS (K4 (oH 4)) (ak (az (i:=4) (cD aJ)) (ak (gc (i:=2) (cD (aF (cD aJ) aJ))) (az (i:=3) (cD (aF (SR.kSc aq) aJ))))))))))))))
   (ak (IY (va (va (xA 2) (ka gn aq)) (aE rE (af 3) (ka gn aq))) (oH 4))
   (aV (ko 2)))))))) h⟩⟩
abbrev iF:Stmt:=qE 22
theorem vw:bx ["_law_turn_here", "_law_k"] ["_law_turn_here"] (au iF):=⟨rfl,rfl,rfl,by decide +kernel,rfl,by decide +kernel,by decide +kernel⟩
theorem Eh     (D:gJ K mg "_law_turn" iF ["_law_turn_here"] f fd) (B:Bt mg)     : Fn P w K mg base 1 "_law_turn" iF ["_law_turn_here"] (bL K K13.jl) f fd :=
 ⟨D,D.F.ok vw (fun _ _ _ _=>cG) fun iI A outer s H vs Q E hr h=>⟨_,
   (ae (cZ (lY (nD (pv 0) (fun _=>rfl))) (ao (aW (cw ag))) bH)
   (ae (ay (i:=1) vw.nd rfl (by first|exact Sr rfl|exact So rfl) (dO Sj Vm We yh (pv 0) (aa (aG (vE rfl) (by rfl) B.min Wm (aa (pv 0) ag)) ag)))
   (ao (aW (aQ xk (iy kT (pv 0) (iS (pv 1)) mF) (iy kT (pv 0) mF (iS (pv 1)))))))),
   aZ ["_law_turn_here", "_law_k"] (K:=K) (ak (dU (lC (uq (af 0))) (aV (cD aJ)) bK)
   (ak (az (i:=1) (SR.kSc (Ki (T := "list") zj (af 0) (ai (cj He (ai (af 0) aw)) aw))))
   (aV (xJ (SK.lOf (tL (fD 0) (iY (af 1)) ly)) (SK.lOf (tL (fD 0) ly (iY (af 1)))))))) h⟩⟩
abbrev iT:Stmt:=qE 23
theorem FN:bx ["_law_turns"] ["_law_turns"] (au iT):=⟨rfl,rfl,rfl,by decide +kernel,rfl,by decide +kernel,by decide +kernel⟩
theorem G2  (D:gJ K mg "_law_map" iT ["_law_turns"] f fd) (B:Bt mg)   (ER:Fn P w K mg base 1 "_law_turn" iF ["_law_turn_here"] (bL K K13.jl) PJ Pa)  : Fn P w K mg base 2 "_law_map" iT ["_law_turns"] (bL K K13.iZ) f fd :=
 ⟨D,D.F.ok FN (fun _ _ _ _=>cG) fun iI A outer s H vs Q E hr h=>have hu:=hr.units;⟨_,
   (ao (aW (aG (qa hu) (by rfl) B.sorted UR (aa (lH (cl:=[]) (N:=["_law_turn_here"]) (fr:=[]) rfl rfl (by decide +kernel) rfl (by decide +kernel) rfl (gM.none (by decide +kernel)) (cC (pv 0)) (fun _ _ _ _=>oW) (fun _ _ _ _=>(bq ER (hr.mono (by decide)) (aa (pv 0) ag)))) ag)))),
   aZ ["_law_turns"] (K:=K) (aV (wx (gD (aA 0) pe (bw (aF (aA 0) aJ))))) h⟩⟩
abbrev jR:Stmt:=qE 24
theorem uL:bx ["_law_parts_here", "_law_turns", "_law_part"] ["_law_parts_here"] (au jR):=⟨rfl,rfl,rfl,by decide +kernel,rfl,by decide +kernel,by decide +kernel⟩
theorem GE     (D:gJ K mg "_law_all" jR ["_law_parts_here"] f fd) (B:Bt mg)     : Fn P w K mg base 1 "_law_all" jR ["_law_parts_here"] (bL K Zl.bo) f fd :=
 ⟨D,D.F.ok uL (fun _ _ _ _=>cG) fun iI A outer s H vs Q E hr h=>⟨_,
   (ae (ay (i:=1) uL.nd rfl (by first|exact Sr rfl|exact So rfl) (cw ag))
   (ae (dk PassesOwn.never rfl (cC (pv 0)) (bR (i:=2) uL.nd rfl (by first|exact Sr rfl|exact So rfl))
    (ao (cv (dO Sj Us Ut kE (pv 1) (aa (pv 2) ag)))))
   (ao (aW (pv 1))))),
   aZ ["_law_parts_here", "_law_turns", "_law_part"] (K:=K) (ak (az (i:=1) (cD aJ))
   (ak (gH (aA 0) (Be (i:=1) (oH 2)))
   (aV (ko 1)))) h⟩⟩
abbrev dQ:Stmt:=qE 25
theorem uT:bx ["_law_found", "_law_due", "_law_k"] ["_law_found", "_law_due"] (au dQ):=⟨rfl,rfl,rfl,by decide +kernel,rfl,by decide +kernel,by decide +kernel⟩
theorem jZ{fm:MF}{lv:Nat}     {f:Addr}{fd:FuncData}(D:gJ K mg "_law_alike" dQ ["_law_found", "_law_due"] f fd) (B:Bt mg)    (b_tuple:mg "tuple" = none)   (K0:Fn P w K mg base lv "_law_alike" dQ ["_law_found", "_law_due"] (bL K fm) f fd):Fn P w K mg base (lv+1) "_law_alike" dQ ["_law_found", "_law_due"] (bL K (K13.dc fm)) f fd :=
 ⟨D,D.F.ok uT (fun _ _ _ _=>cG) fun iI A outer s H vs Q E hr h=>⟨_,
   (ae (cZ (PW.pt (yc (kf (aG (eC.or eS fu) (by rfl) B.isi S4 (aa (pv 1) (aa (gb (v:=.ty "list") (by rfl) B.list TR rfl) ag)))) (ur (kf (aG (eC.or eS fu) (by rfl) B.isi S4 (aa (pv 1) (aa (gb (v:=.ty "tuple") (by rfl) b_tuple U0 rfl) ag))))))) (ae (cZ (PW.pt (yc (bQ wm (aG (eC.or eS fu) (by rfl) B.isi S4 (aa (pv 0) (aa (gb (v:=.ty "list") (by rfl) B.list TR rfl) ag))) (aG (eC.or eS fu) (by rfl) B.isi S4 (aa (pv 1) (aa (gb (v:=.ty "list") (by rfl) B.list TR rfl) ag))) (cF _)) (ur (bQ wm (aG (eC.or eS fu) (by rfl) B.isi S4 (aa (pv 0) (aa (gb (v:=.ty "tuple") (by rfl) b_tuple U0 rfl) ag))) (aG (eC.or eS fu) (by rfl) B.isi S4 (aa (pv 1) (aa (gb (v:=.ty "tuple") (by rfl) b_tuple U0 rfl) ag))) (cF _))))) (ao (aW iJ)) bH) (ae (cZ (bQ wm (aG aT (by rfl) B.len PySem.boot_len (aa (pv 0) ag)) (aG aT (by rfl) B.len PySem.boot_len (aa (pv 1) ag)) (cF _)) (ao (aW iJ)) bH) (ae (dk PassesOwn.never rfl (je (by rfl) B.range (aa (aG aT (by rfl) B.len PySem.boot_len (aa (pv 1) ag)) ag)) (bR (i:=2) uT.nd rfl (by first|exact Sr rfl|exact So rfl))
    (ao (cZ (lY (kf (bq K0 hr (aa (fM (JR.or dB uR) (pv 0) (pv 2) (fun _ _=>rfl)) (aa (fM (JR.or dB uR) (pv 1) (pv 2) (fun _ _=>rfl)) ag))))) (ao (aW iJ)) bH))) (ao (aW iJ))))) bH)
   (ae (cZ (bQ GM (pv 1) Fb (cF _)) (ao (aW (wF GM (pv 0) Fb (cF _)))) bH)
   (ae (cZ (kf (aG (eC.or eS fu) (by rfl) B.isi S4 (aa (pv 1) (aa (gb (v:=.ty "str") (by rfl) B.str Wn rfl) ag)))) (ao (aW (xS (aG (eC.or eS fu) (by rfl) B.isi S4 (aa (pv 0) (aa (gb (v:=.ty "str") (by rfl) B.str Wn rfl) ag))) (Az (wF rB (pv 0) (pv 1) (cF _)))))) bH)
   (ao (aW (xS (aG (eC.or eS fu) (by rfl) B.isi S4 (aa (pv 0) (aa (gb (v:=.ty "int") (by rfl) B.int Xo rfl) ag))) (xS (LH (aG (eC.or eS fu) (by rfl) B.isi S4 (aa (pv 0) (aa (gb (v:=.ty "bool") (by rfl) B.bool Xl rfl) ag)))) (Az (wF rB (pv 0) (pv 1) (cF _)))))))))),
   aZ ["_law_found", "_law_due", "_law_k"] (K:=K) (ak (dU (yC (gN (cj km (ai (af 1) (ai nt aw)))) (gN (cj km (ai (af 1) (ai nt aw))))) (ak (dU (yC (bS (aE vQ (cj km (ai (af 0) (ai nt aw))) (cj km (ai (af 1) (ai nt aw))))) (bS (aE vQ (cj km (ai (af 0) (ai nt aw))) (cj km (ai (af 1) (ai nt aw)))))) (aV (SR.kSc iK)) bK) (ak (dU (bS (aE vQ (cj cB (ai (af 0) aw)) (cj cB (ai (af 1) aw)))) (aV (SR.kSc iK)) bK) (ak (pR (ai (cj cB (ai (af 1) aw)) aw) (dU (lC (gN (cK (ai (aE Eu (af 0) (af 2)) (ai (aE Eu (af 1) (af 2)) aw))))) (aV (SR.kSc iK)) bK)) (aV (SR.kSc iK))))) bK)
   (ak (dU (bS (aE FC (af 1) Fe)) (aV (SR.kSc (aE FC (af 0) Fe))) bK)
   (ak (dU (gN (cj km (ai (af 1) (ai nt aw)))) (aV (SR.kSc (xM (cj km (ai (af 0) (ai nt aw))) (aE qp (af 0) (af 1))))) bK)
   (aV (SR.kSc (xM (cj km (ai (af 0) (ai nt aw))) (xM (KR (cj km (ai (af 0) (ai nt aw)))) (aE qp (af 0) (af 1))))))))) h⟩⟩
theorem A6     (D:gJ K mg "_law_alike" dQ ["_law_found", "_law_due"] f fd) (B:Bt mg)    (b_tuple:mg "tuple" = none)   : Fn P w K mg base 5 "_law_alike" dQ ["_law_found", "_law_due"] (bL K K13.aU) f fd:=(jZ D B b_tuple (jZ D B b_tuple (jZ D B b_tuple (jZ D B b_tuple (IH (k:=1) D)))))
abbrev fI:Stmt:=qE 26
theorem lS:bx ["_law_m", "_law_then", "_law_turn_here", "_law_k"] ["_law_m"] (au fI):=⟨rfl,rfl,rfl,by decide +kernel,rfl,by decide +kernel,by decide +kernel⟩
theorem Bg     (D:gJ K mg "_law_nexts" fI ["_law_m"] f fd) (B:Bt mg)     : Fn P w K mg base 1 "_law_nexts" fI ["_law_m"] (bL K K15.kP) f fd :=
 ⟨D,D.F.ok lS (fun _ _ _ _=>cG) fun iI A outer s H vs Q E hr h=>⟨_,
   (ae (ay (i:=1) lS.nd rfl (by first|exact Sr rfl|exact So rfl) gG)
   (ae (dk PassesOwn.never rfl (cC (pv 0)) (bR (i:=2) lS.nd rfl (by first|exact Sr rfl|exact So rfl))
    (ao (dk PassesOwn.never rfl (je (by rfl) B.range (aa (aG aT (by rfl) B.len PySem.boot_len (aa (pv 2) ag)) ag)) (bR (i:=3) lS.nd rfl (by first|exact Sr rfl|exact So rfl))
    (ao (il (eO hr) (pv 1) (fM dB (pv 2) (pv 3) (fun _ _=>rfl)) (fM dB (pv 2) (aQ eX (aQ fg (pv 3) ar) (aG aT (by rfl) B.len PySem.boot_len (aa (pv 2) ag))) (fun _ _=>rfl)) rfl)))))
   (ao (aW (pv 1))))),
   aZ ["_law_m", "_law_then", "_law_turn_here", "_law_k"] (K:=K) (ak (az (i:=1) iO)
   (ak (gH (aA 0) (pR (ai (cj cB (ai (af 2) aw)) aw) (iQ (i:=1) (SR.kSc (aE rE (af 2) (aE eN (aE fj (af 3) aq) (cj cB (ai (af 2) aw))))) (aE rE (af 2) (af 3)))))
   (aV (ko 1)))) h⟩⟩
abbrev fK:Stmt:=qE 27
theorem eY:bx ["_law_m", "_law_then", "_law_have", "_law_found", "_law_end", "_law_gone", "_law_now"] ["_law_m"] (au fK):=⟨rfl,rfl,rfl,by decide +kernel,rfl,by decide +kernel,by decide +kernel⟩
theorem AU  (D:gJ K mg "_law_lands" fK ["_law_m"] f fd) (B:Bt mg)   (C5:Fn P w K mg base 1 "_law_nexts" fI ["_law_m"] (bL K K15.kP) NM Nv) (xG:Fn P w K mg base 2 "_law_map" iT ["_law_turns"] (bL K K13.iZ) Nl H0)  : Fn P w K mg base 3 "_law_lands" fK ["_law_m"] (bL K K15.fN) f fd :=
 ⟨D,D.F.ok eY (fun _ _ _ _=>cG) fun iI A outer s H vs Q E hr h=>⟨_,
   (ae (ay (i:=1) eY.nd rfl (by first|exact Sr rfl|exact So rfl) (bq C5 (hr.mono (by decide)) (aa (pv 0) ag)))
   (ae (ay (i:=2) eY.nd rfl (by first|exact Sr rfl|exact So rfl) gG)
   (ae (sj (i:=3) (cl:=[]) (N:=["_law_turn_here"]) (fr:=[]) rfl eY.nd rfl (by first|exact Sr rfl|exact So rfl) rfl (by decide +kernel) rfl (by decide +kernel) rfl (gM.none (by decide +kernel)) (cC (pv 0)) (fun _ _ _ _=>wQ (lY (nD (pv 0) (fun _=>rfl)))) (fun _ _ _ _=>(cw ag)))
   (ae (dk PassesOwn.never rfl (Xe.BL (pv 1)) (bR (i:=4) eY.nd rfl (by first|exact Sr rfl|exact So rfl))
    (ao (cZ (oB (gX (eO hr) (pv 4) (pv 2))) (ae (ay (i:=5) eY.nd rfl (by first|exact Sr rfl|exact So rfl) (cw ag)) (ae (ay (i:=6) eY.nd rfl (by first|exact Sr rfl|exact So rfl) (pv 4)) (ae (jz PassesOwn.never (oB (gX (eO hr) (pv 6) (pv 2))) (ae (il (eO hr) (pv 2) (pv 6) iJ rfl) (ae (cv (dO Sj SC SD bT (pv 5) (aa (pv 6) ag))) (ao (ay (i:=6) eY.nd rfl (by first|exact Sr rfl|exact So rfl) (nO (eO hr) (pv 1) (jU gF (pv 6)) (by first|rfl|exact trivial|(intro _ _;rfl)))))))) (ao (cv (dO Sj SC SD bT (pv 3) (aa (pv 5) ag))))))) bH)))
   (ao (aW (bq xG (hr.mono (by decide)) (aa (pv 3) ag)))))))),
   aZ ["_law_m", "_law_then", "_law_have", "_law_found", "_law_end", "_law_gone", "_law_now"] (K:=K) (ak (az (i:=1) (bw (aF (aA 0) aJ)))
   (ak (az (i:=2) iO)
   (ak (az (i:=3) (gD (aA 0) (lC (uq (af 0))) (cD aJ)))
   (ak (Co (x:=4) (i:=1) (dU (gN (hU (af 4) (af 2))) (ak (az (i:=5) (cD aJ)) (ak (az (i:=6) (aA 4)) (ak (ju 100000 (gN (hU (af 6) (af 2))) (ak (iQ (i:=2) (SR.kSc iK) (af 6)) (ak (gc (i:=5) (aA 6)) (az (i:=6) (SR.kSc (yl (af 1) (ka gn (af 6)))))))) (gc (i:=3) (aA 5))))) bK))
   (aV (bw (aF (aA 3) aJ))))))) h⟩⟩
abbrev jQ:Stmt:=qE 28
theorem bX:bx ["_law_script", "_law_many", "_law_name", "_law_cell_here", "_law_ends", "_law_k", "_law_left", "_law_follow", "_law_end", "_law_turns", "_law_met", "_law_turn_here", "_law_names_here"] ["_law_script"] (au jQ):=⟨rfl,rfl,rfl,by decide +kernel,rfl,by decide +kernel,by decide +kernel⟩
theorem GZ  (D:gJ K mg "_law_any" jQ ["_law_script"] f fd) (B:Bt mg)   (dF:Fn P w K mg base 1 "_law_cell" fq ["_law_script", "_law_k"] (bL K Zl.aD) Ct yX)  : Fn P w K mg base 2 "_law_any" jQ ["_law_script"] (bL K K16.nS) f fd :=
 ⟨D,D.F.ok bX (fun _ _ _ _=>cG) fun iI A outer s H vs Q E hr h=>⟨_,
   (ae (ay (i:=1) bX.nd rfl (by first|exact Sr rfl|exact So rfl) (aQ eX (bq dF (hr.mono (by decide)) (aa (pv 0) (aa ar ag))) ar))
   (ae (ay (i:=2) bX.nd rfl (by first|exact Sr rfl|exact So rfl) ar)
   (ae (ay (i:=3) bX.nd rfl (by first|exact Sr rfl|exact So rfl) (bq dF (hr.mono (by decide)) (aa (pv 0) (aa ar ag))))
   (ae (ay (i:=4) bX.nd rfl (by first|exact Sr rfl|exact So rfl) (cw ag))
   (ae (dk PassesOwn.never rfl (je (by rfl) B.range (aa (pv 1) ag)) (bR (i:=5) bX.nd rfl (by first|exact Sr rfl|exact So rfl))
    (ae (ay (i:=2) bX.nd rfl (by first|exact Sr rfl|exact So rfl) (aQ fg (aQ fg (pv 2) ar) (aQ eX (pv 3) (aQ uE ar ar)))) (ae (ay (i:=3) bX.nd rfl (by first|exact Sr rfl|exact So rfl) (aQ HA (pv 3) (aQ uE ar ar))) (ao (cv (dO Sj Us Ut kE (pv 4) (aa (cw (aa (pv 2) (aa (jU gF (pv 2)) ag))) ag)))))))
   (ae (ay (i:=6) bX.nd rfl (by first|exact Sr rfl|exact So rfl) (kA gC (by rfl) B.list TR (aa (pv 4) ag)))
   (ae (ay (i:=3) bX.nd rfl (by first|exact Sr rfl|exact So rfl) (bq dF (hr.mono (by decide)) (aa (pv 0) (aa ar ag))))
   (ae (ay (i:=7) bX.nd rfl (by first|exact Sr rfl|exact So rfl) gG)
   (ae (dk PassesOwn.never rfl (cC (pv 4)) (bR (i:=8) bX.nd rfl (by first|exact Sr rfl|exact So rfl))
    (ae (il (eO hr) (pv 7) (pv 8) (dO Sj UD UE ui (pv 6) (aa (aQ eX (pv 3) (aG aT (by rfl) B.len PySem.boot_len (aa (pv 6) ag))) ag)) rfl) (ao (ay (i:=3) bX.nd rfl (by first|exact Sr rfl|exact So rfl) (aQ ik (pv 3) (aQ fg (aG aT (by rfl) B.len PySem.boot_len (aa (pv 6) ag)) ar))))))
   (ae (ay (i:=9) bX.nd rfl (by first|exact Sr rfl|exact So rfl) (cw ag))
   (ae (ay (i:=10) bX.nd rfl (by first|exact Sr rfl|exact So rfl) gG)
   (ae (dk PassesOwn.never rfl (cC (pv 4)) (bR (i:=8) bX.nd rfl (by first|exact Sr rfl|exact So rfl))
    (ae (ay (i:=11) bX.nd rfl (by first|exact Sr rfl|exact So rfl) (cw ag)) (ae (jz PassesOwn.never (oB (gX (eO hr) (pv 8) (pv 10))) (ae (il (eO hr) (pv 10) (pv 8) iJ rfl) (ae (cv (dO Sj SC SD bT (pv 11) (aa (pv 8) ag))) (ao (ay (i:=8) bX.nd rfl (by first|exact Sr rfl|exact So rfl) (nO (eO hr) (pv 7) (pv 8) (by first|rfl|exact trivial|(intro _ _;rfl)))))))) (ao (cZ (nD (pv 11) (fun _=>rfl)) (ao (cv (dO Sj SC SD bT (pv 9) (aa (pv 11) ag)))) bH)))))
   (ae (ay (i:=12) bX.nd rfl (by first|exact Sr rfl|exact So rfl) (cw ag))
   (ae (ay (i:=2) bX.nd rfl (by first|exact Sr rfl|exact So rfl) (aQ fg ar (aQ eX (bq dF (hr.mono (by decide)) (aa (pv 0) (aa ar ag))) (aQ uE ar ar))))
   (ae (jz PassesOwn.never (bQ tW (aG aT (by rfl) B.len PySem.boot_len (aa (pv 12) ag)) ar (cF _)) (ae (cZ (oB (gX (eO hr) (pv 2) (pv 10))) (ao (cv (dO Sj SC SD bT (pv 12) (aa (pv 2) ag)))) bH) (ao (ay (i:=2) bX.nd rfl (by first|exact Sr rfl|exact So rfl) (aQ fg (pv 2) ar)))))
   (ao (aW (xy (aa (aQ xk (pv 9) (lH (cl:=[]) (N:=["_law_k"]) (fr:=[]) rfl rfl (by decide +kernel) rfl (by decide +kernel) rfl (gM.none (by decide +kernel)) (je (by rfl) B.range (aa (aQ eX (aQ ik (bq dF (hr.mono (by decide)) (aa (pv 0) (aa ar ag))) ar) ar) ag)) (fun _ _ _ _=>oW) (fun _ _ _ _=>(cw ag)))) (aa (pv 12) ag)))))))))))))))))))),
   aZ ["_law_script", "_law_many", "_law_name", "_law_cell_here", "_law_ends", "_law_k", "_law_left", "_law_follow", "_law_end", "_law_turns", "_law_met", "_law_turn_here", "_law_names_here"] (K:=K) (ak (az (i:=1) (SR.kSc (aE eN (cK (ai (af 0) (ai aq aw))) aq)))
   (ak (az (i:=2) (SR.kSc aq))
   (ak (az (i:=3) (SR.kSc (cK (ai (af 0) (ai aq aw)))))
   (ak (az (i:=4) (cD aJ))
   (ak (pR (ai (af 1) aw) (ak (az (i:=2) (SR.kSc (aE fj (aE fj (af 2) aq) (aE eN (af 3) (aE ug aq aq))))) (ak (az (i:=3) (SR.kSc (aE II (af 3) (aE ug aq aq)))) (Be (i:=4) (SK.lOf (cD (aF (aA 2) (aF (SR.kSc (ka gn (af 2))) aJ))))))))
   (ak (az (i:=6) (pP (fD 4)))
   (ak (az (i:=3) (SR.kSc (cK (ai (af 0) (ai aq aw)))))
   (ak (az (i:=7) iO)
   (ak (gH (aA 4) (ak (GI (i:=7) (tF (i:=6) (aE eN (af 3) (cj cB (ai (af 6) aw)))) (af 8)) (az (i:=3) (SR.kSc (aE kg (af 3) (aE fj (cj cB (ai (af 6) aw)) aq))))))
   (ak (az (i:=9) (cD aJ))
   (ak (az (i:=10) iO)
   (ak (gH (aA 4) (ak (az (i:=11) (cD aJ)) (ak (ju 100000 (gN (hU (af 8) (af 10))) (ak (iQ (i:=10) (SR.kSc iK) (af 8)) (ak (gc (i:=11) (aA 8)) (az (i:=8) (SR.kSc (si (af 7) (af 8))))))) (dU (uq (af 11)) (gc (i:=9) (aA 11)) bK))))
   (ak (az (i:=12) (cD aJ))
   (ak (az (i:=2) (SR.kSc (aE fj aq (aE eN (cK (ai (af 0) (ai aq aw))) (aE ug aq aq)))))
   (ak (ju 100000 (bS (aE uY (cj cB (ai (af 12) aw)) aq)) (ak (dU (gN (hU (af 2) (af 10))) (gc (i:=12) (aA 2)) bK) (az (i:=2) (SR.kSc (aE fj (af 2) aq)))))
   (aV (wL (aF (xJ (oH 9) (SK.lOf (wq (ai (aE eN (aE kg (cK (ai (af 0) (ai aq aw))) aq) aq) aw) pe (cD aJ)))) (aF (aA 12) aJ))))))))))))))))))) h⟩⟩
abbrev dW:Stmt:=qE 29
theorem dC:bx ["_law_turns", "_law_parts_here", "_law_left", "_law_part", "_law_k", "_law_end", "_law_turn_here"] ["_law_turns"] (au dW):=⟨rfl,rfl,rfl,by decide +kernel,rfl,by decide +kernel,by decide +kernel⟩
theorem xp     (D:gJ K mg "_law_grouped" dW ["_law_turns"] f fd) (B:Bt mg)     : Fn P w K mg base 1 "_law_grouped" dW ["_law_turns"] (bL K K17.fL) f fd :=
 ⟨D,D.F.ok dC (fun _ _ _ _=>cG) fun iI A outer s H vs Q E hr h=>have hu65:=jH.units65 hr;⟨_,
   (ae (ay (i:=1) dC.nd rfl (by first|exact Sr rfl|exact So rfl) (cw ag))
   (ae (ay (i:=2) dC.nd rfl (by first|exact Sr rfl|exact So rfl) (kA gC (by rfl) B.list TR (aa (pv 0) ag)))
   (ae (jz PassesOwn.never (nD (pv 2) (fun _=>rfl)) (ae (ay (i:=3) dC.nd rfl (by first|exact Sr rfl|exact So rfl) (cw (aa (dO Sj UD UE ui (pv 2) (aa ar ag)) ag))) (ae (ay (i:=4) dC.nd rfl (by first|exact Sr rfl|exact So rfl) ar) (ae (jz PassesOwn.never (bQ tW (pv 4) (aG aT (by rfl) B.len PySem.boot_len (aa (pv 3) ag)) (cF _)) (ae (dk PassesOwn.never rfl (cC (fM dB (pv 3) (pv 4) (fun _ _=>rfl))) (bR (i:=5) dC.nd rfl (by first|exact Sr rfl|exact So rfl))
    (ao (dk PassesOwn.never rfl (cC (kA gC (by rfl) B.list TR (aa (pv 2) ag))) (bR (i:=6) dC.nd rfl (by first|exact Sr rfl|exact So rfl))
    (ao (cZ (bQ DR (jU gF (pv 5)) (pv 6) rfl) (ae (cv (dO Sj V6 PySem.F.type_list_remove (JV hu65) (pv 2) (aa (pv 6) ag))) (ao (cv (dO Sj SC SD bT (pv 3) (aa (pv 6) ag))))) bH))))) (ao (ay (i:=4) dC.nd rfl (by first|exact Sr rfl|exact So rfl) (aQ fg (pv 4) ar))))) (ao (cv (dO Sj SC SD bT (pv 1) (aa (pv 3) ag))))))))
   (ao (aW (pv 1)))))),
   aZ ["_law_turns", "_law_parts_here", "_law_left", "_law_part", "_law_k", "_law_end", "_law_turn_here"] (K:=K) (ak (az (i:=1) (cD aJ))
   (ak (az (i:=2) (pP (fD 0)))
   (ak (ju 100000 (uq (af 2)) (ak (Iq (i:=3) (tF (i:=2) aq)) (ak (az (i:=4) (SR.kSc aq)) (ak (ju 100000 (bS (aE uY (af 4) (cj cB (ai (af 3) aw)))) (ak (gH (FF (fD 3) (af 4)) (gH (pP (fD 2)) (dU (bS (aE (M5 false) (ka gn (af 5)) (af 6))) (ak (JH (i:=2) (af 6)) (gc (i:=3) (aA 6))) bK))) (az (i:=4) (SR.kSc (aE fj (af 4) aq))))) (gc (i:=1) (aA 3))))))
   (aV (ko 1))))) h⟩⟩
abbrev ox:Stmt:=qE 30
theorem jE:bx ["_law_script", "_law_parts_here", "_law_m", "_law_places", "_law_roads", "_law_fields", "_law_handed", "_law_found", "_law_many"] ["_law_script"] (au ox):=⟨rfl,rfl,rfl,by decide +kernel,rfl,by decide +kernel,by decide +kernel⟩
theorem Mm  (D:gJ K mg "law" ox ["_law_script"] f fd) (B:Bt mg)    (b_tuple:mg "tuple" = none) (Ec:Fn P w K mg base 1 "_law_parts" fR ["_law_cells", "_law_names_here"] (bL K K12.jd) NU Nz) (xG:Fn P w K mg base 2 "_law_map" iT ["_law_turns"] (bL K K13.iZ) Nl H0) (nu:Fn P w K mg base 4 "counts" gm ["m"] (bL K K43.eh) fcounts fdcounts) (Dd:Fn P w K mg base 2 "_law_names" fO ["_law_script"] (bL K K12.gZ) Od NA) (yY:Fn P w K mg base 1 "_law_grouped" dW ["_law_turns"] (bL K K17.fL) KO Ks) (Cz:Fn P w K mg base 1 "_law_all" jR ["_law_parts_here"] (bL K Zl.bo) QQ Py) (C4:Fn P w K mg base 3 "_law_lands" fK ["_law_m"] (bL K K15.fN) OT Nt) (gU:Fn P w K mg base 5 "_law_alike" dQ ["_law_found", "_law_due"] (bL K K13.aU) OZ Nw) (dF:Fn P w K mg base 1 "_law_cell" fq ["_law_script", "_law_k"] (bL K Zl.aD) Ct yX) (Ik:Fn P w K mg base 2 "_law_any" jQ ["_law_script"] (bL K K16.nS) QN Pr) (CW:Fn P w K mg base 5 "handles" fG ["m"] (bL K K17.jh) fhandles fdhandles) (wM:Fn P w K mg base 3 "lands" iX ["m"] (bL K K15.cP) flands fdlands) (Hw:Fn P w K mg base 3 "mirror" iq ["m"] (bL K K19.kO) fmirror fdmirror)  : Fn P w K mg base 6 "law" ox ["_law_script"] (bL K K17.Fg) f fd :=
 ⟨D,D.F.ok jE (fun _ _ _ _=>cG) fun iI A outer s H vs Q E hr h=>have hu:=hr.units;⟨_,
   (ae (ay (i:=1) jE.nd rfl (by first|exact Sr rfl|exact So rfl) (bq Ec (hr.mono (by decide)) (aa (iy kT (pv 0) (iS ar) (iS ar)) (aa (bq Dd (hr.mono (by decide)) (aa (pv 0) ag)) ag))))
   (ae (cZ (bQ rB (aQ eX (aQ ik (bq dF (hr.mono (by decide)) (aa (pv 0) (aa ar ag))) ar) ar) ar (cF _)) (ao (sj (i:=1) (cl:=[]) (N:=["_law_part"]) (fr:=[]) rfl jE.nd rfl (by first|exact Sr rfl|exact So rfl) rfl (by decide +kernel) rfl (by decide +kernel) rfl (gM.none (by decide +kernel)) (cC (pv 1)) (fun _ _ _ _=>wQ (bQ (Lm hu) (pv 0) (cw (aa (cw ag) ag)) (cF _))) (fun _ _ _ _=>(pv 0)))) bH)
   (ae (cZ (bQ rB (aQ eX (bq dF (hr.mono (by decide)) (aa (pv 0) (aa ar ag))) ar) ar (cF _)) (ao (ay (i:=1) jE.nd rfl (by first|exact Sr rfl|exact So rfl) (bq yY (hr.mono (by decide)) (aa (fM uR (bq Ik (hr.mono (by decide)) (aa (pv 0) ag)) ar (fun _ _=>rfl)) ag)))) bH)
   (ae (ay (i:=2) jE.nd rfl (by first|exact Sr rfl|exact So rfl) (bq xG (hr.mono (by decide)) (aa (bq Cz (hr.mono (by decide)) (aa (pv 1) ag)) ag)))
   (ae (ay (i:=3) jE.nd rfl (by first|exact Sr rfl|exact So rfl) (aG aT (by rfl) B.len PySem.boot_len (aa (pv 2) ag)))
   (ae (ay (i:=4) jE.nd rfl (by first|exact Sr rfl|exact So rfl) (aQ ik (aG aT (by rfl) B.len PySem.boot_len (aa (bq Cz (hr.mono (by decide)) (aa (pv 2) ag)) ag)) ar))
   (ae (ay (i:=5) jE.nd rfl (by first|exact Sr rfl|exact So rfl) (aG aT (by rfl) B.len PySem.boot_len (aa (bq C4 (hr.mono (by decide)) (aa (pv 2) ag)) ag)))
   (ae (sj (i:=6) (cl:=[]) (N:=["_law_turn_here"]) (fr:=[]) rfl jE.nd rfl (by first|exact Sr rfl|exact So rfl) rfl (by decide +kernel) rfl (by decide +kernel) rfl (gM.none (by decide +kernel)) (cC (pv 2)) (fun _ _ _ _=>oW) (fun _ _ _ _=>(kA gC (by rfl) B.list TR (aa (pv 0) ag))))
   (ae (ay (i:=7) jE.nd rfl (by first|exact Sr rfl|exact So rfl) (bq nu (hr.mono (by decide)) (aa (pv 6) ag)))
   (ae (cZ (PW.pt (yc (lY (kf (aG eS (by rfl) B.isi S4 (aa (pv 7) (aa (gb (v:=.ty "tuple") (by rfl) b_tuple U0 rfl) ag))))) (ur (bQ wm (aG aT (by rfl) B.len PySem.boot_len (aa (pv 7) ag)) ar (cF _))))) (ao (aW iJ)) bH)
   (ae (cZ (lY (kf (bq gU (hr.mono (by decide)) (aa (iy LM (pv 7) mF (iS ar)) (aa (xy (aa (pv 3) (aa (pv 4) (aa (pv 5) (aa (aG aT (by rfl) B.len PySem.boot_len (aa (pv 1) ag)) ag))))) ag))))) (ao (aW iJ)) bH)
   (ae (ay (i:=8) jE.nd rfl (by first|exact Sr rfl|exact So rfl) (fM uR (pv 7) ar (fun _ _=>rfl)))
   (ae (cZ (PW.pt (yc (lY (kf (bq gU (hr.mono (by decide)) (aa (pv 8) (aa (aQ ik (aQ qW (aQ qM ar (aG aT (by rfl) B.len PySem.boot_len (aa (pv 1) ag))) (aQ fg (aQ qW (pv 3) (pv 4)) (pv 5))) ar) ag))))) (ur (bQ tW (pv 8) ar (cF _))))) (ao (aW iJ)) bH)
   (ae (cZ (bQ wm (aQ fg (aQ qW (pv 3) (pv 4)) (pv 5)) (aQ qW (aQ qM ar (aG aT (by rfl) B.len PySem.boot_len (aa (pv 1) ag))) (aQ qM ar (pv 8))) (cF _)) (ao (aW iJ)) bH)
   (ae (cZ (PW.pt (yc (lY (kf (bq gU (hr.mono (by decide)) (aa (bq CW (hr.mono (by decide)) (aa (pv 6) ag)) (aa (pv 8) ag))))) (ur (lY (kf (bq gU (hr.mono (by decide)) (aa (pv 6) (aa (pv 2) ag)))))))) (ao (aW iJ)) bH)
   (ae (cZ (lY (kf (bq gU (hr.mono (by decide)) (aa (bq nu (hr.mono (by decide)) (aa (bq wM (hr.mono (by decide)) (aa (pv 6) ag)) ag)) (aa (xy (aa (pv 5) (aa (pv 4) (aa (pv 3) (aa (aG aT (by rfl) B.len PySem.boot_len (aa (pv 1) ag)) (aa (pv 8) ag)))))) ag))))) (ao (aW iJ)) bH)
   (ao (aW (xS (bq gU (hr.mono (by decide)) (aa (bq nu (hr.mono (by decide)) (aa (bq Hw (hr.mono (by decide)) (aa (pv 6) ag)) ag)) (aa (pv 7) ag))) (Az (bq gU (hr.mono (by decide)) (aa (pv 6) (aa (pv 2) ag))))))))))))))))))))))),
   aZ ["_law_script", "_law_parts_here", "_law_m", "_law_places", "_law_roads", "_law_fields", "_law_handed", "_law_found", "_law_many"] (K:=K) (ak (az (i:=1) (bw (aF (tL (fD 0) (iY aq) (iY aq)) (aF (bw (aF (aA 0) aJ)) aJ))))
   (ak (dU (bS (aE qp (aE eN (aE kg (cK (ai (af 0) (ai aq aw))) aq) aq) aq)) (az (i:=1) (gD (aA 1) (bS (aE LN (af 0) (SK.rOf (cD (aF (cD aJ) aJ))))) (aA 0))) bK)
   (ak (dU (bS (aE qp (aE eN (cK (ai (af 0) (ai aq aw))) aq) aq)) (az (i:=1) (bw (aF (Lh (bw (aF (aA 0) aJ)) aq) aJ))) bK)
   (ak (az (i:=2) (bw (aF (bw (aF (aA 1) aJ)) aJ)))
   (ak (az (i:=3) (SR.kSc (cj cB (ai (af 2) aw))))
   (ak (az (i:=4) (SR.kSc (aE kg (cj cB (ai (SK.rOf (bw (aF (aA 2) aJ))) aw)) aq)))
   (ak (az (i:=5) (SR.kSc (cj cB (ai (SK.rOf (bw (aF (aA 2) aJ))) aw))))
   (ak (az (i:=6) (gD (aA 2) pe (pP (fD 0))))
   (ak (az (i:=7) (bw (aF (aA 6) aJ)))
   (ak (dU (yC (lC (gN (cj EG (ai (af 7) (ai nt aw))))) (bS (aE vQ (cj cB (ai (af 7) aw)) aq))) (aV (SR.kSc iK)) bK)
   (ak (dU (lC (gN (cK (ai (SK.rOf (L9 (aA 7) ly (iY aq))) (ai (SK.rOf (wL (aF (aA 3) (aF (aA 4) (aF (aA 5) (aF (SR.kSc (cj cB (ai (af 1) aw))) aJ)))))) aw))))) (aV (SR.kSc iK)) bK)
   (ak (az (i:=8) (SR.kSc (aE Af (af 7) aq)))
   (ak (dU (yC (lC (gN (cK (ai (af 8) (ai (aE kg (aE qu (aE qB aq (cj cB (ai (af 1) aw))) (aE fj (aE qu (af 3) (af 4)) (af 5))) aq) aw))))) (bS (aE uY (af 8) aq))) (aV (SR.kSc iK)) bK)
   (ak (dU (bS (aE vQ (aE fj (aE qu (af 3) (af 4)) (af 5)) (aE qu (aE qB aq (cj cB (ai (af 1) aw))) (aE qB aq (af 8))))) (aV (SR.kSc iK)) bK)
   (ak (dU (yC (lC (gN (cK (ai (cK (ai (af 6) aw)) (ai (af 8) aw))))) (lC (gN (cK (ai (af 6) (ai (af 2) aw)))))) (aV (SR.kSc iK)) bK)
   (ak (dU (lC (gN (cK (ai (SK.rOf (bw (aF (bw (aF (aA 6) aJ)) aJ))) (ai (SK.rOf (wL (aF (aA 5) (aF (aA 4) (aF (aA 3) (aF (SR.kSc (cj cB (ai (af 1) aw))) (aF (aA 8) aJ))))))) aw))))) (aV (SR.kSc iK)) bK)
   (aV (SR.kSc (xM (cK (ai (SK.rOf (bw (aF (Fw (ai (af 6) aw)) aJ))) (ai (af 7) aw))) (cK (ai (af 6) (ai (af 2) aw)))))))))))))))))))))) h⟩⟩
end
end K17
--ZQ3 --ZQ4 --ZQ5 --ZQ8
namespace K13
open PySem L2 Mr Z Xe Zl
def vN:Nat->D->Prop
 |0,_=>False
 |_+1,.int _=>True
 |_+1,.str _=>True
 |n+1,.list ds=>ds.length<1000000/\∀d∈ds,vN n d
 |n+1,.tup ds=>ds.length<1000000/\∀d∈ds,vN n d
 |_+1,_=>False
def ir:Nat->MF
 |0=>Ex
 |n+1=>dc (ir n)
theorem uy{fm:MF}{x:D}{ds:List D}(hx:x = .list ds∨x = .tup ds) (hd:∀d∈ds,fm [d,d]=some (.sh (.bl true))):∃v,dg 2 (gh fm) (cm 0 ds.length) [some (.sh x),some (.sh x),none]=some (.nx [some (.sh x),some (.sh x),v]):=by
 have key:=fS (x:=2) (body:=gh fm) (fun _ S=>∃v,S=[some (.sh x),some (.sh x),v]) (ds:=cm 0 ds.length) (S:=[some (.sh x),some (.sh x),none]) ⟨none,rfl⟩ (by
  rintro i d S hd' ⟨v,rfl⟩;have hi:i<ds.length:=by
   have:=(gSq.mp hd').1
   rwa [cV]at this
  rw[lW hi]at hd';cases hd';have hat:atI ds (0+(i:Int))=some ds[i]:=by
   rw[xO (by lia)]
   have:(0+(i:Int)).toNat=i:=by lia
   rw[this];exact gEg hi
  have hq:=hd ds[i] (gRq hi);refine⟨[some (.sh x),some (.sh x),some (.sh (.int (0+(i:Int))))],?_,_,rfl⟩;rcases hx with rfl|rfl
  .simp_arith [gh,hat,hq]
  .simp_arith [gh,hat,hq])
 obtain⟨S',e,v,rfl⟩:=key;exact⟨v,e⟩
theorem KB(b:Bool):Dr (.bl b) (.bl b)=some (.bl false):=by cases b <;> rfl
theorem jC:∀(n:Nat) (d:D),vN n d->ir n [d,d]=some (.sh (.bl true))
 |0,_,h=>h.elim
 |n+1,d,h=>by
  show dc (ir n) [d,d]=_;cases d with
  |int i=>simp_arith [dc,jo,eq_self,zI]
  |str x=>simp_arith [dc,jo,eq_self,yg]
  |list ds =>
   obtain⟨v,e⟩:=uy (fm:=ir n) (x:=.list ds) (.inl rfl) fun d hd=>jC n d (h.2 d hd)
   have hrg:=mC (n:=ds.length) h.1
   simp_arith [dc,jo,eq_self,KB,decide_true,Xh,hrg,e]
  |tup ds =>
   obtain⟨v,e⟩:=uy (fm:=ir n) (x:=.tup ds) (.inr rfl) fun d hd=>jC n d (h.2 d hd)
   have hrg:=mC (n:=ds.length) h.1
   simp_arith [dc,jo,eq_self,KB,decide_true,Xh,hrg,e]
  |_=>exact h.elim
theorem Jp{ns:List Int}(hl:ns.length<=500000):jl [dI ns]=some (aI (good ns)):=by
 cases ns with
 |nil =>
  simp_arith [jl,qz,qH]
  rfl
 |cons n ns =>
  obtain⟨h1,h2⟩:=wB (n:=n) (ns:=ns);have e:=mX h1 h2;have hle:=oK (n::ns);have hm:DX [dI (n::ns)]=some (.int (ns.foldl min n)):=by
   show (dG ((n::ns).map D.int)).bind (fun ns=>(wC ns).map D.int)=_
   rw[eP];rfl
  have hx:qR (dI (n::ns)) [.int (ns.foldl min n)]=some (.int (bG (n::ns) (n::ns).length:Nat)):=by
   show (dG ((n::ns).map D.int)).bind _=_;rw[eP];show (if _ then _ else _)=_
   rw[if_pos h1,e]
  have ht:qH (dI (n::ns))=some true:=rfl;generalize hN:n::ns=N at *;have hlen:(N.drop (bG N N.length)).length+(N.take (bG N N.length)).length<=cX:=by rw[SE,lTq];show _<=16777216;lia
  simp_arith [jl,qz,ht,hm,hx,kL,xN N _ hle,qP N _ hle,hlen,←mBq,sS]
  rfl
theorem Dk{rs:List (List Int)}(hl:∀r∈rs,r.length<=500000):dJ ft (bj jl (aB (aK 0) aN)) [] (rs.map dI)=some ((rs.map good).map aI):=by
 rw[Z.iw fun d=>aI (good (mw d))]
 .rw [qt fun r=>aI (good r),mPq]
  rfl
 .intro d hd;obtain⟨r,hr,rfl⟩:=oy hd;refine⟨[some (.sh (dI r))],?_⟩
  simp_arith [Jp (hl r hr),gq]
theorem Hh{rs:List (List Int)}(hl:∀r∈rs,r.length<=500000) (h7:rs.length<=cX):iZ [dM rs]=some (.ow ((eK (rs.map good)).map aI)):=by
 simp_arith [iZ,zL,Dk hl,h7]
def dL(ms:List (List (List Int))):D:=.list (ms.map dM)
theorem zZ{ms:List (List (List Int))}{i:Nat}{m:List (List Int)}(h:ms[i]?=some m):(ms.take (i+1)).flatten=(ms.take i).flatten++m:=by
 rw[UJ,h,fAq];simp
theorem HE(ms:List (List (List Int))) (i:Nat):(ms.take i).flatten.length<=ms.flatten.length:=by
 have:=congrArg TJ (congrArg Xj (Ta i ms));rw[fAq,lAq]at this;lia
theorem Ju{ms:List (List (List Int))}{i:Nat}{d:D}(h:(ms.map dM)[i]?=some d):∃m,ms[i]?=some m/\d=dM m:=by
 rw[gMq]at h;obtain⟨r,h1,h2⟩:=oMq.mp h;exact⟨r,h1,h2.symm⟩
def oM(rs:List (List Int)):AV:=.ow (rs.map fun r=>.sh (dI r))
theorem E6(rs:List (List Int)):aH (oM rs)=dM rs:=by unfold oM;rw[dR,BX]
theorem DI{ms:List (List (List Int))}{body:MS}(hb:body=Bn 1 (qo 2)) (hl:ms.flatten.length<=500000):∃v,dg 2 body (ms.map dM) [some (.sh (dL ms)),some (.ow []),none]=some (.nx [some (.sh (dL ms)),some (oM ms.flatten),v]):=by
 subst hb;have key:=fS (x:=2) (body:=Bn 1 (qo 2)) (fun i S=>∃v,S=[some (.sh (dL ms)),some (oM (ms.take i).flatten),v]) (ds:=ms.map dM) (S:=[some (.sh (dL ms)),some (.ow []),none]) ⟨none,by simp[oM]⟩ (by
  rintro i d S hd ⟨v,rfl⟩;obtain⟨m,hm,rfl⟩:=Ju hd;have h1:=zZ hm;have h2:=HE ms (i+1);rw[h1,lAq]at h2;have h3:(ms.take i).flatten.length+m.length<=cX:=mU (by lia)
  refine⟨[some (.sh (dL ms)),some (oM ((ms.take i).flatten++m)),some (.sh (dM m))],?_,some (.sh (dM m)),by rw[h1]⟩
  simp_arith [oM,h3,B9,←mBq])
 obtain⟨S',e,v,rfl⟩:=key;rw[lMq,Tg]at e;exact⟨v,e⟩
theorem L8{ms:List (List (List Int))}(hl:ms.flatten.length<=500000):bo [dL ms]=some (oM ms.flatten):=by
 obtain⟨v,e⟩:=DI (ms:=ms) (body:=gi) rfl hl;unfold dL at e ⊢
 simp_arith [bo,lJ,e]
theorem J4(n:Nat) (r:List Int) (h:r.length<1000000):vN (n+2) (dI r):=⟨by rw[lMq];exact h,fun d hd=>by obtain⟨z,_,rfl⟩:=mMq.mp hd;trivial⟩
theorem J5(n:Nat) (rs:List (List Int)) (h:rs.length<=1000) (h2:rs.flatten.length<=1000):vN (n+3) (dM rs):=⟨by rw[lMq];lia,fun d hd=>by
 obtain⟨r,hr,rfl⟩:=oy hd;exact J4 n r (by have:=Ld hr;lia)⟩
end K13
--ZQ3 --ZQ4 --ZQ5 --ZQ6 --ZQ8 --ZQ9 --ZQB --ZQC --ZQD --ZQE
namespace K12
open PySem L2 Mr Z Xe Zl
abbrev aP(part:List (List Int)):AV:=.ow (part.map aI)
theorem tD(n:Nat):xf (n+1) (-1)=some n:=by
 unfold xf;rw[if_neg (by decide),if_pos (by lia)]
 congr 1;lia
theorem Fc{P0:List (List (List Int))}{last:List (List Int)}:bO (.ow ((P0++[last]).map aP)) [P0.length]=some (last.map aI):=by
 rw[nq,gMq,gYq (Sg _),T2];rfl
theorem pK{P0:List (List (List Int))}{last:List (List Int)}{h:Nat}{r:List Int}(hr:last[h]?=some r):bO (.ow ((P0++[last]).map aP)) [P0.length,h]=some (r.map fun n=>.sh (.int n)):=by
 rw[nq,gMq,gYq (Sg _),T2];show bO (.ow (last.map aI)) [h]=_;rw[nq,gMq,hr];rfl
theorem tZ{α β:Type}(f:α->β) (l:List α) (i:Nat) (a:α):(l.map f).set i (f a)=(l.set i a).map f:=by rw[List.map_set]
theorem BR{α:Type}(l:List α) (a b:α):(l++[a]).set l.length b=l++[b]:=by
 rw[Wl _ _ (Sg _),T2];rfl
theorem QJ{P0:List (List (List Int))}{last last':List (List Int)}:putAt (.ow ((P0++[last]).map aP)) [P0.length] (last'.map aI) = .ow ((P0++[last']).map aP):=by
 rw[oA (a:=aP last) (by rw[gMq,gYq (Sg _),T2];rfl)]
 show AV.ow (((P0++[last]).map aP).set P0.length (aP last'))=_;rw[tZ,BR]
theorem Gq{P0:List (List (List Int))}{last:List (List Int)}{h:Nat}{r r':List Int}(hr:last[h]?=some r):putAt (.ow ((P0++[last]).map aP)) [P0.length,h] (r'.map fun n=>.sh (.int n)) = .ow ((P0++[last.set h r']).map aP):=by
 rw[oA (a:=aP last) (by rw[gMq,gYq (Sg _),T2];rfl)]
 have e:putAt (aP last) [h] (r'.map fun n=>.sh (.int n))=aP (last.set h r'):=by
  rw[oA (a:=aI r) (by rw[gMq,hr];rfl)]
  show AV.ow ((last.map aI).set h (aI r'))=_;rw[tZ]
 rw[e,tZ,BR]
structure Wd where
 P0:List (List (List Int))
 last:List (List Int)
 t0:List Nat
 h:Nat
 left:List Int
 used:Nat
noncomputable def IL(c e:Int):Int:=if c / 8 % 2=1 then -e else e
def wstep(nm:List Int) (w:Wd) (c:Int):Wd :=
 let e:=IL c (nm.getD w.used 0)
 let r:=w.last.getD w.h []
 if c % 8<4 then
  if c % 8<2 then { w with last:=w.last.set w.h (r++[e]),left:=w.left++[-e],used:=w.used+1 }
  else { w with last:=w.last.set w.h (r++[e])++[[-e]],t0:=w.t0++[w.h],h:=w.last.length,used:=w.used+1 }
 else if c % 8<6 then
  if w.left=[] then w else { w with last:=w.last.set w.h (r++[w.left.getD (c / 16 % w.left.length).toNat 0]),left:=w.left.eraseIdx (c / 16 % w.left.length).toNat }
 else if c % 8=6 then
  match w.t0.getLast? with
  |none=>w
  |some h'=>{ w with t0:=w.t0.dropLast,h:=h' }
 else { P0:=w.P0++[w.last.set w.h (r++w.left)],last:=[[]],t0:=[],h:=0,left:=[],used:=w.used }
noncomputable abbrev cN(ks:List Nat):List Int:=ks.map fun n:Nat=>(n:Int)
def st(v0 v1:Option AV) (w:Wd) (v6 v7 v8 v9:Option AV):AS:=[v0,v1,some (.ow ((w.P0++[w.last]).map aP)),some (aI (cN (w.t0++[w.h]))),some (aI w.left),some (.sh (.int (w.used:Int))),v6,v7,v8,v9]
def QZ:List Nat->MS:=(fun path=>aC ((Cm 2 (aK 9)) path) (aC (aO 5 (kSc (bg gW (aj 5) (rC (.int 1))))) (jM (dN (bg zz (aj 7) (rC (.int 2)))) (kJ 4 (kSc (rY jb (aj 9)))) (aC (kJ 3 (kSc (fA cS (ah (bg AX (aj 2) (rY jb (rC (.int 1)))) ax)))) (Cs 2 (HM 2 (Ax 2) (rY jb (rC (.int 1)))) (dD (aB (kSc (rY jb (aj 9))) aN)))))))
def Qd:List Nat->MS:=(vi 2 (sX (aj 4)) (xU 2 (nQ 4 (bg iE (bg nh (aj 6) (rC (.int 16))) (fA cS (ah (aj 4) ax))))) (fun _=>bD))
def QK:List Nat->MS:=(fun _=>(jM (dN (bg Er (fA cS (ah (aj 3) ax)) (rC (.int 1)))) (xK (vy 3)) bD))
def Rq:List Nat->MS:=(fun path=>aC ((Bx 2 (qo 4)) path) (aC (aO 4 (dD aN)) (aC (kJ 2 (dD (aB (dD aN) aN))) (aO 3 (dD (aB (kSc (rC (.int 0))) aN))))))
def zN:List Nat->MS:=(vi 2 (dN (bg zz (aj 7) (rC (.int 4)))) QZ (vi 2 (dN (bg zz (aj 7) (rC (.int 6)))) Qd (vi 2 (dN (bg xZ (aj 7) (rC (.int 6)))) QK Rq)))
theorem Ib:ed=(aC (aO 7 (kSc (bg iE (aj 6) (rC (.int 8))))) (JF 8 2 (HM 2 (HM 2 (Ax 2) (rY jb (rC (.int 1)))) (bg AX (aj 3) (rY jb (rC (.int 1))))) (Ai 2 (aO 9 (kSc (bg AX (aj 1) (aj 5)))) (Ai 2 (jM (dN (bg xZ (bg iE (bg nh (aj 6) (rC (.int 8))) (rC (.int 2))) (rC (.int 1)))) (aO 9 (kSc (rY jb (aj 9)))) bD) zN)))):=rfl
theorem E9{nm:List Int}{P0:List (List (List Int))}{last:List (List Int)}{t0:List Nat}{hd:Nat}{left r:List Int}{used:Nat}{c:Int}{v0 v7 v8 v9:Option AV}(hh:hd<last.length) (hr:last[hd]?=some r) (hu:used<nm.length) :
  ed (st v0 (some (.sh (dI nm))) ⟨P0,last,t0,hd,left,used⟩ (some (.sh (.int c))) v7 v8 v9)=zN [P0.length,hd] (st v0 (some (.sh (dI nm))) ⟨P0,last,t0,hd,left,used⟩ (some (.sh (.int c))) (some (.sh (.int (c % 8)))) none (some (.sh (.int (IL c (nm.getD used 0)))))):=by
 have m8:=fe (i:=c) (j:=8) (by decide)
 have d8:=mG (i:=c) (j:=8) (by decide) (by decide)
 have m2:=fe (i:=c / 8) (j:=2) (by decide)
 have n2:=pK (P0:=P0) hr;have n1:=Fc (P0:=P0) (last:=last);have lenP:(P0++[last]).length=P0.length+1:=by simp
 have iP:=tD P0.length;have iL:xf last.length (hd:Int)=some hd:=BA hh;have at3:atI ((cN (t0++[hd])).map D.int) (-1)=some (.int (hd:Int)):=by
  unfold cN;rw[mBq,mBq];exact tG _ _
 have st3:=bu (cN (t0++[hd]));have atn:atI (nm.map D.int) (used:Int)=some (.int (nm.getD used 0)):=nU (by rw[gMq,gDq,gEg hu];rfl)
 have q82:((8:Nat)≠2/\8<10)=True:=by simp
 rw[Ib]
 by_cases hs:c / 8 % 2=1
 .have es:IL c (nm.getD used 0) = -(nm.getD used 0):=if_pos hs
  simp_arith [st,m8,lenP,iP,n1,n2,iL,st3,dI,at3,q82,atn,d8,m2,hs,es,eq_self]
 .have es:IL c (nm.getD used 0)=nm.getD used 0:=if_neg hs
  simp_arith [st,m8,lenP,iP,n1,n2,iL,st3,dI,at3,q82,atn,d8,m2,hs,es,eq_self]
end K12
--ZQ3 --ZQ4 --ZQ5 --ZQ6 --ZQ8 --ZQ9 --ZQB --ZQC --ZQD --ZQE
namespace K12
open PySem L2 Mr Z Xe Zl
section
variable {nm:List Int}{P0:List (List (List Int))}{last:List (List Int)}{t0:List Nat}{hd:Nat}{left r:List Int}{used:Nat}{c e:Int}{v0 v1 v8:Option AV}
theorem wK(r:List Int) (e:Int):(r.map fun n=>AV.sh (.int n))++[.sh (.int e)]=(r++[e]).map fun n=>.sh (.int n):=by rw[mBq];rfl
theorem BO(r s:List Int):(r.map fun n=>AV.sh (.int n))++(s.map D.int).map AV.sh=(r++s).map fun n=>.sh (.int n):=by rw[mBq,mPq];rfl
theorem Je(l:List (List Int)) (e:Int):l.map aI++[.ow [.sh (.int e)]]=(l++[[e]]).map aI:=by rw[mBq];rfl
theorem JI(P:List (List (List Int))):P.map aP++[.ow [.ow []]]=(P++[[[]]]).map aP:=by rw[mBq];rfl
theorem KF(ks:List Nat) (n:Nat):(cN ks).map (fun n=>AV.sh (.int n))++[.sh (.int (n:Int))]=(cN (ks++[n])).map fun n=>.sh (.int n):=by unfold cN;rw[mBq,mBq];rfl
theorem BU(P:List (List (List Int))):(P.map aP).map aH=P.map dM:=by
 rw[mPq];refine mCq fun p _=>?_
 show aH (.ow (p.map aI))=dM p;rw[dR,mPq];show D.list _=D.list _;congr 1;exact mCq fun r _=>bu r
theorem Ql(P0:List (List (List Int))) (last:List (List Int)):atI ((P0++[last]).map dM) (-1)=some (dM last):=by rw[mBq];exact tG _ _
theorem Gd{α β:Type}(f:α->β):∀(l:List α) (i:Nat),(l.map f).eraseIdx i=(l.eraseIdx i).map f
 | [],i=>rfl
 |x::l,0=>rfl
 |x::l,i+1=>by rw[Sq,TX,TX,Gd f l i,Sq]
theorem Kn{l:List Int}(h:l≠[]):qH (.list (l.map D.int))=some true:=by
 cases l with
 |nil=>exact absurd rfl h
 |cons x l=>rfl
theorem Of(hh:hd<last.length) (hr:last[hd]?=some r) (hrl:r.length<500000) (hll:left.length<500000) (h4:c % 8<4) (h2:c % 8<2) :
  zN [P0.length,hd] (st v0 v1 ⟨P0,last,t0,hd,left,used⟩ (some (.sh (.int c))) (some (.sh (.int (c % 8)))) v8 (some (.sh (.int e))))=some (.nx (st v0 v1 ⟨P0,last.set hd (r++[e]),t0,hd,left++[-e],used+1⟩ (some (.sh (.int c))) (some (.sh (.int (c % 8)))) v8 (some (.sh (.int e))))):=by
 have n2:=pK (P0:=P0) hr;have l1:r.length<cX:=by show _<16777216;lia
 have l2:left.length<cX:=by show _<16777216;lia
 have p2:=Gq (P0:=P0) (r':=r++[e]) hr;have a1:=wK r e;have a2:=wK left (-e);have eu:((used+1:Nat):Int)=(used:Int)+1:=by lia
 simp_arith [zN,QZ,st,h4,n2,l1,a1,p2,h2,l2,a2,eu]
theorem Pf(hh:hd<last.length) (hr:last[hd]?=some r) (hrl:r.length<500000) (hll:last.length<500000) (htl:t0.length<500000) (h4:c % 8<4) (h2:¬ c % 8<2) :
  zN [P0.length,hd] (st v0 v1 ⟨P0,last,t0,hd,left,used⟩ (some (.sh (.int c))) (some (.sh (.int (c % 8)))) v8 (some (.sh (.int e))))=some (.nx (st v0 v1 ⟨P0,last.set hd (r++[e])++[[-e]],t0++[hd],last.length,left,used+1⟩ (some (.sh (.int c))) (some (.sh (.int (c % 8)))) v8 (some (.sh (.int e))))):=by
 have n2:=pK (P0:=P0) hr;have l1:r.length<cX:=by show _<16777216;lia
 have p2:=Gq (P0:=P0) (r':=r++[e]) hr;have a1:=wK r e;have eu:((used+1:Nat):Int)=(used:Int)+1:=by lia
 have sP:=BU (P0++[last.set hd (r++[e])]);have aP':=Ql P0 (last.set hd (r++[e]));have n1:=Fc (P0:=P0) (last:=last.set hd (r++[e]));have lenP:(P0++[last.set hd (r++[e])]).length=P0.length+1:=by simp
 have lenL:(last.set hd (r++[e])).length=last.length:=lZq;have iP:=tD P0.length;have l2:last.length<cX:=by show _<16777216;lia
 have lt':(t0++[hd]).length<cX:=by rw[lAq];show t0.length+1<16777216;lia
 have a2:=KF (t0++[hd]) last.length;have a3:=Je (last.set hd (r++[e])) (-e);have p1:=QJ (P0:=P0) (last:=last.set hd (r++[e])) (last':=last.set hd (r++[e])++[[-e]])
 simp_arith [zN,QZ,st,h4,n2,l1,a1,p2,h2,sP,aP',n1,lenP,lenL,iP,l2,lt',a2,a3,p1,eu]
theorem Oi(hr:last[hd]?=some r) (h4:¬ c % 8<4) (h6:c % 8<6) :
  zN [P0.length,hd] (st v0 v1 ⟨P0,last,t0,hd,[],used⟩ (some (.sh (.int c))) (some (.sh (.int (c % 8)))) v8 (some (.sh (.int e))))=some (.nx (st v0 v1 ⟨P0,last,t0,hd,[],used⟩ (some (.sh (.int c))) (some (.sh (.int (c % 8)))) v8 (some (.sh (.int e))))):=by
 have n2:=pK (P0:=P0) hr;have tr:qH (.list [])=some false:=rfl
 simp_arith [zN,Qd,st,h4,n2,h6,tr]
theorem Pg(hr:last[hd]?=some r) (hrl:r.length<500000) (hll:left.length<500000) (hne:left≠[]) (h4:¬ c % 8<4) (h6:c % 8<6) :
  zN [P0.length,hd] (st v0 v1 ⟨P0,last,t0,hd,left,used⟩ (some (.sh (.int c))) (some (.sh (.int (c % 8)))) v8 (some (.sh (.int e))))=some (.nx (st v0 v1 ⟨P0,last.set hd (r++[left.getD (c / 16 % left.length).toNat 0]),t0,hd,left.eraseIdx (c / 16 % left.length).toNat,used⟩ (some (.sh (.int c))) (some (.sh (.int (c % 8)))) v8 (some (.sh (.int e))))):=by
 have n2:=pK (P0:=P0) hr;have l1:r.length<cX:=by show _<16777216;lia
 have hpos:0<left.length:=UU.mpr hne;have d16:=mG (i:=c) (j:=16) (by decide) (by decide)
 have ml:=fe (i:=c / 16) (j:=(left.length:Int)) (by lia)
 have b0:0<=c / 16 % (left.length:Int):=TH _ (by lia)
 have b1:c / 16 % (left.length:Int)<(left.length:Int):=TC _ (by lia)
 have hlt:(c / 16 % (left.length:Int)).toNat<left.length:=by lia
 have ll:left.length<=cX:=by show _<=16777216;lia
 have g1:(left.map fun n=>AV.sh (.int n))[(c / 16 % (left.length:Int)).toNat]?=some (.sh (.int (left.getD (c / 16 % (left.length:Int)).toNat 0))):=by
  rw[gMq,gEg hlt,gDq,gEg hlt];rfl
 have g2:(left.map fun n=>AV.sh (.int n)).eraseIdx (c / 16 % (left.length:Int)).toNat=(left.eraseIdx (c / 16 % (left.length:Int)).toNat).map fun n=>.sh (.int n):=Gd _ _ _
 have p2:=Gq (P0:=P0) (r':=r++[left.getD (c / 16 % (left.length:Int)).toNat 0]) hr;have a1:=wK r (left.getD (c / 16 % (left.length:Int)).toNat 0);have sl:=bu left;have q:(0<=c / 16 % (left.length:Int)/\c / 16 % (left.length:Int)<(left.length:Int)/\left.length<=cX)=True:=by simp[b0,b1,ll]
 have tr:=Kn hne
 simp_arith [zN,Qd,st,h4,n2,h6,l1,d16,ml,q,g1,g2,a1,p2,sl,dI,tr,eq_self,true_and]
theorem On(hr:last[hd]?=some r) (h6:c % 8=6) :
  zN [P0.length,hd] (st v0 v1 ⟨P0,last,[],hd,left,used⟩ (some (.sh (.int c))) (some (.sh (.int (c % 8)))) v8 (some (.sh (.int e))))=some (.nx (st v0 v1 ⟨P0,last,[],hd,left,used⟩ (some (.sh (.int c))) (some (.sh (.int (c % 8)))) v8 (some (.sh (.int e))))):=by
 have n2:=pK (P0:=P0) hr;have h4:¬ (6:Int)<4:=by decide
 have h5:¬ (6:Int)<6:=by decide
 have sl:=bu (cN [hd]);have k1:decide ((1:Int)<((1:Nat):Int))=false:=by decide
 simp_arith [zN,QK,st,h6,n2,h4,h5,sl,dI,cN,k1]
theorem NN{t:List Nat}{h':Nat}(hr:last[hd]?=some r) (h6:c % 8=6) :
  zN [P0.length,hd] (st v0 v1 ⟨P0,last,t++[h'],hd,left,used⟩ (some (.sh (.int c))) (some (.sh (.int (c % 8)))) v8 (some (.sh (.int e))))=some (.nx (st v0 v1 ⟨P0,last,t,h',left,used⟩ (some (.sh (.int c))) (some (.sh (.int (c % 8)))) v8 (some (.sh (.int e))))):=by
 have n2:=pK (P0:=P0) hr;have h4:¬ (6:Int)<4:=by decide
 have h5:¬ (6:Int)<6:=by decide
 have sl:=bu (cN (t++[h']++[hd]));have k1:(1:Int)<((t++[h']++[hd]).length:Int):=by simp;lia
 have ec:(cN (t++[h']++[hd])).map (fun n=>AV.sh (.int n))=(cN (t++[h'])).map (fun n=>AV.sh (.int n))++[.sh (.int (hd:Int))]:=(KF (t++[h']) hd).symm
 have p1:((cN (t++[h'])).map (fun n=>AV.sh (.int n))++[AV.sh (.int (hd:Int))])[((cN (t++[h'])).map (fun n=>AV.sh (.int n))++[AV.sh (.int (hd:Int))]).length-1]?=some (.sh (.int (hd:Int))):=by
  rw[lAq,lSq,gYq (by lia)]
  simp
 have p2:((cN (t++[h'])).map (fun n=>AV.sh (.int n))++[AV.sh (.int (hd:Int))]).dropLast=(cN (t++[h'])).map (fun n=>AV.sh (.int n)):=VH
 simp_arith [zN,QK,st,h6,n2,h4,h5,sl,dI,k1,ec,p1,p2]
theorem QC(hr:last[hd]?=some r) (hrl:r.length+left.length<500000) (hPl:P0.length<500000) (h4:¬ c % 8<4) (h5:¬ c % 8<6) (h6:¬ c % 8=6) :
  zN [P0.length,hd] (st v0 v1 ⟨P0,last,t0,hd,left,used⟩ (some (.sh (.int c))) (some (.sh (.int (c % 8)))) v8 (some (.sh (.int e))))=some (.nx (st v0 v1 ⟨P0++[last.set hd (r++left)],[[]],[],0,[],used⟩ (some (.sh (.int c))) (some (.sh (.int (c % 8)))) v8 (some (.sh (.int e))))):=by
 have n2:=pK (P0:=P0) hr;have l1:r.length+left.length<=cX:=by show _<=16777216;lia
 have p2:=Gq (P0:=P0) (r':=r++left) hr;have a1:=BO r left;have a1':(r.map fun n=>AV.sh (.int n))++(left.map fun n=>AV.sh (.int n))=(r++left).map fun n=>.sh (.int n):=mBq.symm
 have lenP:(P0++[last.set hd (r++left)]).length<cX:=by rw[lAq];show P0.length+1<16777216;lia
 have a2:=JI (P0++[last.set hd (r++left)]);have sl:=bu left
 simp_arith [zN,Rq,st,h4,n2,h5,h6,l1,a1,a1',p2,lenP,a2,sl,dI]
 first|rfl|(simp[cN];done)
end
end K12
--ZQ3 --ZQ4 --ZQ5 --ZQ6 --ZQ8 --ZQ9 --ZQB --ZQC --ZQD --ZQE
namespace K12
open PySem L2 Mr Z Xe Zl
noncomputable def pB(nm:List Int) (k:Nat):List Int:=(nm.take k).flatMap fun x=>[x, -x]
theorem qZ{nm:List Int}{k:Nat}{x:Int}(h:nm[k]?=some x):pB nm (k+1)=pB nm k++[x, -x]:=by
 unfold pB;rw[bU h,WC];rfl
theorem uB{nm:List Int}:∀{k:Nat},k<=nm.length->(pB nm k).length=2*k
 |0,_=>rfl
 |k+1,h=>by
  rw[qZ (gEg (show k<nm.length by lia)),lAq,uB (by lia)]
  show 2*k+2=_;lia
theorem lV{x r:List Int}(a:Int):∀{l:List (List Int)}{h:Nat},l[h]?=some r->(l.set h (r++x)).flatten.count a=l.flatten.count a+x.count a
 | [],_,h=>by simp at h
 |s::l,0,h=>by
  cases h;rw[U3,fCq,fCq,cAq,cAq,cAq];lia
 |s::l,h+1,e=>by
  rw[Vl,fCq,fCq,cAq,cAq,lV a (by simpa using e)]
  lia
theorem qT(a:Int):∀{l:List Int}{j:Nat},j<l.length->(l.eraseIdx j).count a+[l.getD j 0].count a=l.count a
 | [],_,h=>by simp at h
 |x::l,0,_=>by
  rw[List.eraseIdx_cons_zero,show x::l=[x]++l from rfl,cAq]
  show l.count a+[x].count a=_;lia
 |x::l,j+1,h=>by
  have ih:=qT a (l:=l) (j:=j) (by simpa using h)
  rw[TX,show x::l.eraseIdx j=[x]++l.eraseIdx j from rfl,show (x::l).getD (j+1) 0=l.getD j 0 from rfl,show x::l=[x]++l from rfl,cAq,cAq]
  lia
theorem BD(a c x:Int):[IL c x].count a+[-(IL c x)].count a=[x, -x].count a:=by
 rw[show [x, -x]=[x]++[-x] from rfl,cAq]
 unfold IL;split
 .rw [Tw];lia
 .rfl
structure WOk (nm:List Int) (w:Wd) (n:Nat):Prop where
 hh:w.h<w.last.length
 ht:∀k∈w.t0,k<w.last.length
 us:w.used<=n
 lP:w.P0.length<=n
 lt:w.t0.length<=n
 tl:w.P0.flatten.length+w.last.length<=n+1
 cnt:∀a,w.P0.flatten.flatten.count a+w.last.flatten.count a+w.left.count a=(pB nm w.used).count a
theorem WOk.perm{nm:List Int}{w:Wd}{n:Nat}(h:WOk nm w n):(w.P0.flatten.flatten++w.last.flatten++w.left).Perm (pB nm w.used):=by
 rw[WD];intro a;rw[cAq,cAq];exact h.cnt a
theorem WOk.len{nm:List Int}{w:Wd}{n:Nat}(h:WOk nm w n) (hu:w.used<=nm.length):w.last.flatten.length+w.left.length<=2*n:=by
 have:=h.perm.length_eq;rw[uB hu,lAq,lAq]at this;have:=h.us;lia
theorem BS{l:List (List Int)}{h:Nat}{r:List Int}(e:l[h]?=some r):r.length<=l.flatten.length:=T9.length_le (SG (mGq e))
theorem WOk.step{nm:List Int}{w:Wd}{n:Nat}(h:WOk nm w n) (hu:w.used<nm.length) (c:Int):WOk nm (wstep nm w c) (n+1):=by
 obtain⟨P0,last,t0,hd,left,used⟩:=w;obtain⟨hh,ht,us,lP,lt,tl,cnt⟩:=h;simp only at hh ht us lP lt tl cnt hu;have hr:last[hd]?=some (last.getD hd []):=by rw[gDq,gEg hh];rfl
 have hx:nm[used]?=some (nm.getD used 0):=by rw[gDq,gEg hu];rfl
 unfold wstep;simp only;split
 .split
  .refine ⟨?_,?_,?_,?_,?_,?_,fun a=>?_⟩
   .simp only [lZq];exact hh
   .simp only [lZq];exact ht
   .simp only;lia
   .simp only;lia
   .simp only;lia
   .simp only [lZq];lia
   .simp only;rw[lV a hr,qZ hx,cAq,cAq,←cnt a,←BD a c (nm.getD used 0)];lia
  .refine ⟨?_,?_,?_,?_,?_,?_,fun a=>?_⟩
   .simp only [lAq,lZq,lSq];lia
   .intro k hk;simp only[lAq,lZq,lSq];rcases mAq.mp hk with q|q
    .have:=ht k q;lia
    .rw [mSq.mp q];lia
   .simp only;lia
   .simp only;lia
   .simp only [lAq,lSq];lia
   .simp only [lAq,lZq,lSq];lia
   .simp only;rw[fAq,cAq,SZ,lV a hr,qZ hx,cAq,←cnt a,←BD a c (nm.getD used 0)];lia
 .split
  .split
   .exact ⟨hh,ht,by simp only;lia,by simp only;lia,by simp only;lia,by simp only;lia,cnt⟩
   .rename_i hne;have hpos:0<left.length:=UU.mpr hne;have hlt:(c / 16 % (left.length:Int)).toNat<left.length:=by
     have b0:0<=c / 16 % (left.length:Int):=TH _ (by lia)
     have b1:c / 16 % (left.length:Int)<(left.length:Int):=TC _ (by lia)
     lia
    refine⟨?_,?_,?_,?_,?_,?_,fun a=>?_⟩
    .simp only [lZq];exact hh
    .simp only [lZq];exact ht
    .simp only;lia
    .simp only;lia
    .simp only;lia
    .simp only [lZq];lia
    .simp only;have:=qT a hlt;rw[lV a hr,←cnt a];lia
  .split
   .split
    .exact ⟨hh,ht,by simp only;lia,by simp only;lia,by simp only;lia,by simp only;lia,cnt⟩
    .rename_i h' hl;refine⟨ht h' (List.mem_of_getLast? hl),fun k hk=>ht k (List.dropLast_subset _ hk),by simp only;lia,by simp only;lia,?_,by simp only;lia,cnt⟩
     simp only[Ws];lia
   .refine ⟨?_,?_,?_,?_,?_,?_,fun a=>?_⟩
    .simp
    .intro k hk;cases hk
    .simp only;lia
    .simp only [lAq,lSq];lia
    .simp
    .simp only [fAq,lAq,SZ,lZq,lSq];lia
    .simp only;rw[fAq,fAq,SZ,cAq,lV a hr,←cnt a];simp;lia
theorem CM{nm:List Int}{w:Wd}{n:Nat}{c:Int}{v0 v7 v8 v9:Option AV}(h:WOk nm w n) (hn:n<1000) (hu:w.used<nm.length):∃v7' v8' v9',ed (st v0 (some (.sh (dI nm))) w (some (.sh (.int c))) v7 v8 v9)=some (.nx (st v0 (some (.sh (dI nm))) (wstep nm w c) (some (.sh (.int c))) v7' v8' v9')):=by
 have hlen:=h.len (T8 hu);obtain⟨P0,last,t0,hd,left,used⟩:=w;obtain⟨hh,ht,us,lP,lt,tl,cnt⟩:=h;simp only at hh ht us lP lt tl cnt hu hlen;have hr:last[hd]?=some (last.getD hd []):=by rw[gDq,gEg hh];rfl
 have hrl:=BS hr;have pre:=E9 (P0:=P0) (t0:=t0) (left:=left) (c:=c) (v0:=v0) (v7:=v7) (v8:=v8) (v9:=v9) hh hr hu;refine⟨some (.sh (.int (c % 8))),none,some (.sh (.int (IL c (nm.getD used 0)))),?_⟩;rw[pre];unfold wstep;simp only
 by_cases h4:c % 8<4
 .rw [if_pos h4]
  by_cases h2:c % 8<2
  .rw [if_pos h2];exact Of hh hr (by lia) (by lia) h4 h2
  .rw [if_neg h2];exact Pf hh hr (by lia) (by lia) (by lia) h4 h2
 .rw [if_neg h4]
  by_cases h6:c % 8<6
  .rw [if_pos h6]
   by_cases hl:left=[]
   .subst hl;rw[if_pos rfl];exact Oi hr h4 h6
   .rw [if_neg hl];exact Pg hr (by lia) (by lia) hl h4 h6
  .rw [if_neg h6]
   by_cases h66:c % 8=6
   .rw [if_pos h66];rcases Wo t0 with rfl|⟨t,h',rfl⟩
    .exact On hr h66
    .rw [Wp,List.getLast?_append];simp only[List.getLast?_singleton,Option.some_or,VH];exact NN hr h66
   .rw [if_neg h66];exact QC hr (by lia) (by lia) h4 h6 h66
end K12
--ZQ3 --ZQ4 --ZQ5 --ZQ6 --ZQ8 --ZQ9 --ZQB --ZQC --ZQD --ZQE
namespace K12
open PySem L2 Mr Z Xe Zl
noncomputable def w0:Wd:=⟨[],[[]],[],0,[],0⟩
theorem Ha(nm:List Int):WOk nm w0 0:=⟨by decide,(fun k h=>by cases h),Sg _,Sg _,Sg _,by decide,fun a=>by simp[w0,pB]⟩
theorem tY{nm:List Int}:∀(cs:List Int) {w:Wd}{n:Nat},WOk nm w n->n+cs.length<=nm.length->WOk nm (cs.foldl (wstep nm) w) (n+cs.length)
 | [],w,n,h,_=>h
 |c::cs,w,n,h,hl=>by
  rw[lCq]at hl;have h1:=h.step (by have:=h.us;lia) c
  have:=tY cs h1 (by lia)
  rw[Ug,lCq,show n+(cs.length+1)=n+1+cs.length by lia]
  exact this
def xC(w:Wd):List (List (List Int)):=w.P0++[w.last.set w.h (w.last.getD w.h []++w.left)]
theorem Bk{nm cs:List Int}{v6 v7 v8 v9:Option AV}(hc:cs.length<=63) (hn:nm.length=66):∃v6' v7' v8' v9',dg 6 ed (cs.map D.int) (st (some (.sh (dI cs))) (some (.sh (dI nm))) w0 v6 v7 v8 v9)=some (.nx (st (some (.sh (dI cs))) (some (.sh (dI nm))) (cs.foldl (wstep nm) w0) v6' v7' v8' v9')):=by
 have key:=fS (x:=6) (body:=ed) (fun i S=>∃v6 v7 v8 v9,S=st (some (.sh (dI cs))) (some (.sh (dI nm))) ((cs.take i).foldl (wstep nm) w0) v6 v7 v8 v9) (ds:=cs.map D.int) (S:=st (some (.sh (dI cs))) (some (.sh (dI nm))) w0 v6 v7 v8 v9) ⟨v6,v7,v8,v9,rfl⟩ (by
  rintro i d S hd ⟨v6,v7,v8,v9,rfl⟩;rw[gMq]at hd;obtain⟨c,hc',rfl⟩:=oMq.mp hd;have hi:i<cs.length:=(gSq.mp hc').1;have ok:=tY (nm:=nm) (cs.take i) (Ha nm) (by rw[lTq];lia)
  rw[lTq]at ok;obtain⟨v7',v8',v9',e⟩:=CM (c:=c) (v0:=some (.sh (dI cs))) (v7:=v7) (v8:=v8) (v9:=v9) ok (by lia) (by have:=ok.us;lia)
  refine⟨_,e,some (.sh (.int c)),v7',v8',v9',?_⟩;rw[CQ hc'])
 obtain⟨S',e,v6',v7',v8',v9',rfl⟩:=key;rw[lMq,Tg]at e;exact⟨v6',v7',v8',v9',e⟩
end K12
--ZQ3 --ZQ4 --ZQ5 --ZQ6 --ZQ8 --ZQ9 --ZQB --ZQC --ZQD --ZQE
namespace K12
open PySem L2 Mr Z Xe Zl
def LS(st sh a b k:Int):Int:=st*((a*k+b) % 67+1)+sh
def Kk(st sh a b:Int):List Int:=(To 66).map fun k:Nat=>LS st sh a b k
theorem uc{st sh a b:Int}(h1:1<=a) (h2:a<=66):dJ ft (kSc (bg gW (bg mM (aj 2) (bg gW (bg iE (bg gW (bg mM (aj 4) (aj 0)) (aj 3)) (rC (.int 67))) (rC (.int 1)))) (aj 1))) [some (.sh (.int sh)),some (.sh (.int st)),some (.sh (.int b)),some (.sh (.int a))] (cm 0 66)=some ((Kk st sh a b).map fun z=>.sh (.int z)):=by
 have key:=iw (te:=kSc (bg gW (bg mM (aj 2) (bg gW (bg iE (bg gW (bg mM (aj 4) (aj 0)) (aj 3)) (rC (.int 67))) (rC (.int 1)))) (aj 1))) (cap:=[some (.sh (.int sh)),some (.sh (.int st)),some (.sh (.int b)),some (.sh (.int a))])
  (fun d=>match d with|.int k=>.sh (.int (LS st sh a b k))|_=>.sh .non) (ds:=cm 0 66) (by
  intro d hd;rw[rM]at hd;obtain⟨k,_,rfl⟩:=mMq.mp hd;have b1:0<=(a*(k:Int)+b) % 67:=TH _ (by decide)
  have b2:(a*(k:Int)+b) % 67<67:=TC _ (by decide)
  have c1:=EU (i:=a) (j:=(k:Int)) (by lia) (by lia)
  have c2:=OV (i:=st) (j:=(a*(k:Int)+b) % 67+1) (by lia) (by lia)
  have m67:=fun i:Int=>fe (i:=i) (j:=67) (by decide)
  refine⟨[some (.sh (.int (k:Int))),some (.sh (.int sh)),some (.sh (.int st)),some (.sh (.int b)),some (.sh (.int a))],?_⟩
  simp_arith [c1,c2,m67,LS])
 rw[key,rM,mPq];unfold Kk;rw[mPq];rfl
theorem Ge(ns:List Int):∃st sh a b:Int,1<=st/\st<=10 ^ 58/\0<=sh/\sh<10 ^ 58/\1<=a/\a<=66/\gZ [.scr ns]=some (aI (Kk st sh a b)):=by
 have a1:0<=cell ns 0 / 3 % 66:=TH _ (by decide)
 have a2:cell ns 0 / 3 % 66<66:=TC _ (by decide)
 have s1:0<=cell ns 1 % 10 ^ 58:=TH _ (by decide)
 have s2:cell ns 1 % 10 ^ 58<10 ^ 58:=TC _ (by decide)
 have s3:0<=cell ns 2 % 10 ^ 58:=TH _ (by decide)
 have s4:cell ns 2 % 10 ^ 58<10 ^ 58:=TC _ (by decide)
 have m3:=fun i:Int=>fe (i:=i) (j:=3) (by decide)
 have m66:=fun i:Int=>fe (i:=i) (j:=66) (by decide)
 have m67:=fun i:Int=>fe (i:=i) (j:=67) (by decide)
 have m58:=fun i:Int=>fe (i:=i) (j:=10 ^ 58) (by decide)
 have d3:=fun i:Int=>mG (i:=i) (j:=3) (by decide) (by decide)
 have d198:=fun i:Int=>mG (i:=i) (j:=198) (by decide) (by decide)
 have r66:vq [.int 66]=some (cm 0 66):=mC (n:=66) (by decide)
 have l66:(cm 0 66).length<=cX:=by rw[cV];show 66<=16777216;decide
 by_cases h0:0<cell ns 0 % 3
 .refine ⟨1+cell ns 1 % 10 ^ 58,cell ns 2 % 10 ^ 58,1+cell ns 0 / 3 % 66,cell ns 0 / 198 % 67,by lia,by lia,s3,s4,by lia,by lia,?_⟩
  have rc:=uc (st:=1+cell ns 1 % 10 ^ 58) (sh:=cell ns 2 % 10 ^ 58) (a:=1+cell ns 0 / 3 % 66) (b:=cell ns 0 / 198 % 67) (by lia) (by lia)
  simp_arith [gZ,oJ,Bu,NR,O3,h0,m3,m66,m67,m58,d3,d198,Rf,r66,l66,rc]
 .refine ⟨1,0,1+cell ns 0 / 3 % 66,cell ns 0 / 198 % 67,by decide,by decide,by decide,by decide,by lia,by lia,?_⟩
  have rc:=uc (st:=1) (sh:=0) (a:=1+cell ns 0 / 3 % 66) (b:=cell ns 0 / 198 % 67) (by lia) (by lia)
  simp_arith [gZ,oJ,Bu,h0,m3,m66,m67,d3,d198,r66,l66,rc]
theorem Cp{st sh a b:Int}(h1:1<=st) (h2:1<=a) (h3:a<=66) {j k:Nat}(hj:j<67) (hk:k<67) (h:LS st sh a b j=LS st sh a b k):j=k:=by
 unfold LS at h;have e1:st*((a*j+b) % 67+1)=st*((a*k+b) % 67+1):=by lia
 have e2:=Int.eq_of_mul_eq_mul_left (by lia) e1
 have e3:((a*j+b)-(a*k+b)) % 67=0:=Int.emod_eq_emod_iff_emod_sub_eq_zero.mp (by lia)
 have e4:(a*((j:Int)-k)) % 67=0:=by
  rw[←e3];congr 1;rw[Int.mul_sub];lia
 obtain⟨tn,rfl⟩:∃tn:Nat,a=(tn:Int)+1:=⟨(a-1).toNat,by lia⟩
 rcases WO j k with q|q|q
 .exfalso;refine Mr.Ck ⟨tn,by lia⟩ ⟨k-j,by lia⟩ (by show 0<k-j;lia) ?_
  show (tn+1)*(k-j) % 67=0;have e5:(((tn:Int)+1)*((k:Int)-j)) % 67=0:=by
   have:((tn:Int)+1)*((k:Int)-j) = -(((tn:Int)+1)*((j:Int)-k)):=by
    rw[←Int.mul_neg];congr 1;lia
   rw[this];lia
  have e6:(((tn+1)*(k-j) % 67:Nat):Int)=0:=by
   rw[←e5];push_cast [T8 q];rfl
  lia
 .exact q
 .exfalso;refine Mr.Ck ⟨tn,by lia⟩ ⟨j-k,by lia⟩ (by show 0<j-k;lia) ?_
  show (tn+1)*(j-k) % 67=0;have e6:(((tn+1)*(j-k) % 67:Nat):Int)=0:=by
   rw[←e4];push_cast [T8 q];rfl
  lia
structure Nm (nm:List Int):Prop where
 len:nm.length=66
 nd:nm.Nodup
 lo:∀x∈nm,1<=x
 hi:∀x∈nm,x<10 ^ 60
theorem Lr{st sh a b:Int}(h1:1<=st) (h1':st<=10 ^ 58) (h2:0<=sh) (h2':sh<10 ^ 58) (h3:1<=a) (h4:a<=66):Nm (Kk st sh a b):=by
 have key:∀x∈Kk st sh a b,1<=x/\x<10 ^ 60:=fun x h=>by
  obtain⟨k,_,rfl⟩:=mMq.mp h;have b1:0<=(a*(k:Int)+b) % 67:=TH _ (by decide)
  have b2:(a*(k:Int)+b) % 67<67:=TC _ (by decide)
  have l1:1*1<=st*((a*(k:Int)+b) % 67+1):=Xb h1 (by lia) (by decide) (by lia)
  have l2:st*((a*(k:Int)+b) % 67+1)<=10 ^ 58*67:=Xb h1' (by lia) (by lia) (by decide)
  show 1<=st*((a*(k:Int)+b) % 67+1)+sh/\st*((a*(k:Int)+b) % 67+1)+sh<10 ^ 60;lia
 refine⟨by unfold Kk;rw[lMq,Te],?_,fun x h=>(key x h).1,fun x h=>(key x h).2⟩
 unfold Kk;rw[Su,S8];refine Sy.imp_of_mem (fun {x y} hx hy hne e=>hne (Cp h1 h3 h4 (by have:=US.mp hx;lia) (by have:=US.mp hy;lia) e)) (Su.mp VC)
theorem uG{nm:List Int}{k:Nat}{z:Int}:z∈pB nm k↔∃x∈nm.take k,z=x∨z = -x:=by
 unfold pB;rw[VD];simp
theorem uI:∀{l:List Int},l.Nodup->(∀x∈l,1<=x)->(l.flatMap fun x=>[x, -x]).Nodup
 | [],_,_=>Tc
 |x::l,hn,hp=>by
  have hn':=Sm.mp hn;have px:=hp x (Ss ..);rw[WR,nAq];refine⟨?_,uI hn'.2 fun y hy=>hp y (mCo _ hy),fun a ha b hb e=>?_⟩
  .rw [Sm];refine⟨?_,by simp⟩
   rw[mSq];lia
  .subst e;obtain⟨y,hy,q⟩:=VD.mp hb;have py:=hp y (mCo _ hy);simp at ha q;have:y=x:=by lia
   exact hn'.1 (this ▸ hy)
theorem zT{nm:List Int}(h:Nm nm) (k:Nat):(pB nm k).Nodup:=uI (h.nd.sublist (Tj ..)) fun x hx=>h.lo x (Tq hx)
theorem FR{nm:List Int}{k:Nat}{z:Int}(h:z∈pB nm k):-z∈pB nm k:=by
 obtain⟨x,hx,q⟩:=uG.mp h;refine uG.mpr ⟨x,hx,?_⟩;lia
end K12
--ZQ3 --ZQ4 --ZQ5 --ZQ6 --ZQ8 --ZQ9
namespace K51
open PySem L2 Mr Z Xe Zl
def rd(st sh a b k:Int):Int:=st*(1+(a*k+b) % 67)+sh
def rds(st sh a b:Int):List Int:=(To 67).map fun k:Nat=>rd st sh a b k
end K51
--ZQ3 --ZQ4 --ZQ5 --ZQ6 --ZQ8 --ZQ9
namespace K51
open PySem L2 Mr Z Xe Zl
end K51
--ZQ3 --ZQ4 --ZQ5 --ZQ6 --ZQ8 --ZQ9
namespace K51
open PySem L2 Mr Z Xe Zl
end K51
--ZQ3 --ZQ4 --ZQ5 --ZQ6 --ZQ8 --ZQ9
namespace K51
open PySem L2 Mr Z Xe Zl
noncomputable def kd(ks:List Nat):List (aX×D):=ks.map fun k:Nat=>((SY (k:Int):aX),D.bl true)
noncomputable def wd(ws:List Nat):List AV:=ws.map fun k:Nat=>AV.sh (.int (k:Int))
theorem Am(ks:List Nat) (t:Nat):(kd ks).any (fun kv=>decide (kv.1=(SY (t:Int):aX)))=decide (t∈ks):=by
 induction ks with
 |nil=>simp[kd]
 |cons k ks ih =>
  unfold kd at ih ⊢;rw[Sq,UH,ih]
  by_cases h:t=k
  .subst h;simp
  .have h':¬ (SY (k:Int):aX)=SY (t:Int):=fun q=>h (by have:=SY.inj q;lia)
   simp[h',h]
theorem GA(ks:List Nat) (t:Nat):(getD (kd ks) (SY (t:Int))).isSome=decide (t∈ks):=by
 unfold getD;rw[Vp,←Am,T3,WS,V8]
theorem FM{ks:List Nat}{t:Nat}(h:t∉ks):mN (kd ks) (SY (t:Int)) (.bl true)=kd (ks++[t]):=by
 unfold mN;rw[Am,decide_eq_false h,if_neg (by simp)]
 simp[kd]
theorem Bl{kvs:List (aX×D)}{ks ws:List Nat}{e:Int}{t:Nat}{v0 v1 v5 v7:Option AV}(hg:getD kvs (SY (-e))=some (.int (t:Int))) (hk:ks.length<500000) (hw:ws.length<500000) :
  fb [v0,v1,some (.owd kvs),some (.owd (kd ks)),some (.ow (wd ws)),v5,some (.sh (.int e)),v7]=some (.nx [v0,v1,some (.owd kvs),some (.owd (kd (if t∈ks then ks else ks++[t]))),some (.ow (wd (if t∈ks then ws else ws++[t]))),v5,some (.sh (.int e)),some (.sh (.int (t:Int)))]):=by
 have l1:(kd ks).length<cX:=by unfold kd;rw[lMq];show _<16777216;lia
 have l2:(wd ws).length<cX:=by unfold wd;rw[lMq];show _<16777216;lia
 have hg2:=GA ks t
 by_cases h:t∈ks
 .rw [decide_eq_true h]at hg2
  simp_arith [fb,hg,hg2,h]
 .rw [decide_eq_false h]at hg2;have hp:=FM h;have hw2:wd ws++[.sh (.int (t:Int))]=wd (ws++[t]):=by simp[wd]
  simp_arith [fb,hg,hg2,h,hp,l1,l2,hw2]
noncomputable def sq(pl:Int->Nat) (x:List Nat×List Nat) (e:Int):List Nat×List Nat:=if pl (-e)∈x.1 then x else (x.1++[pl (-e)],x.2++[pl (-e)])
theorem BW(pl:Int->Nat):∀(r:List Int) (x:List Nat×List Nat),(r.foldl (sq pl) x).1.length<=x.1.length+r.length/\(r.foldl (sq pl) x).2.length<=x.2.length+r.length
 | [],x=>⟨Sg _,Sg _⟩
 |e::r,x=>by
  obtain⟨h1,h2⟩:=BW pl r (sq pl x e);have h3:(sq pl x e).1.length<=x.1.length+1/\(sq pl x e).2.length<=x.2.length+1:=by
   unfold sq;split
   .exact ⟨Ua _,Ua _⟩
   .simp
  rw[Ug,lCq];lia
theorem Ei{kvs:List (aX×D)}{ks ws:List Nat}{r:List Int}{pl:Int->Nat}{v0 v1 v5 v6 v7:Option AV}(hg:∀e∈r,getD kvs (SY (-e))=some (.int (pl (-e):Int))) (hk:ks.length+r.length<500000) (hw:ws.length+r.length<500000) :
  ∃v6' v7',dg 6 fb (r.map D.int) [v0,v1,some (.owd kvs),some (.owd (kd ks)),some (.ow (wd ws)),v5,v6,v7]=some (.nx [v0,v1,some (.owd kvs),some (.owd (kd (r.foldl (sq pl) (ks,ws)).1)),some (.ow (wd (r.foldl (sq pl) (ks,ws)).2)),v5,v6',v7']):=by
 have key:=fS (x:=6) (body:=fb) (fun i S=>∃v6' v7',S=[v0,v1,some (.owd kvs),some (.owd (kd ((r.take i).foldl (sq pl) (ks,ws)).1)),some (.ow (wd ((r.take i).foldl (sq pl) (ks,ws)).2)),v5,v6',v7']) (ds:=r.map D.int) (S:=[v0,v1,some (.owd kvs),some (.owd (kd ks)),some (.ow (wd ws)),v5,v6,v7])
  ⟨v6,v7,rfl⟩ (by
  rintro i d S hd ⟨v6',v7',rfl⟩;rw[gMq]at hd;obtain⟨e,he,rfl⟩:=oMq.mp hd;have hi:i<r.length:=(gSq.mp he).1;have hm:e∈r:=mGq he;obtain⟨n1,n2⟩:=BW pl (r.take i) (ks,ws);rw[lTq]at n1 n2;have n1':((r.take i).foldl (sq pl) (ks,ws)).1.length<=ks.length+min i r.length:=n1;have n2':((r.take i).foldl (sq pl) (ks,ws)).2.length<=ws.length+min i r.length:=n2;have step:=Bl (v0:=v0) (v1:=v1) (v5:=v5) (v7:=v7') (hg e hm) (ks:=((r.take i).foldl (sq pl) (ks,ws)).1) (ws:=((r.take i).foldl (sq pl) (ks,ws)).2) (by lia) (by lia)
  have et:(r.take (i+1)).foldl (sq pl) (ks,ws)=sq pl ((r.take i).foldl (sq pl) (ks,ws)) e:=by
   have:r[i]'hi=e:=by rw[gEg hi]at he;exact Sz.inj he
   rw[UN hi,V0,this];rfl
  refine⟨_,step,some (.sh (.int e)),some (.sh (.int (pl (-e):Int))),?_⟩;rw[et];unfold sq;split <;> rfl)
 obtain⟨S',e,v6',v7',rfl⟩:=key;rw[lMq,Tg]at e;exact⟨v6',v7',e⟩
end K51
--ZQ3 --ZQ4 --ZQ5 --ZQ6 --ZQ8 --ZQ9
namespace K51
open PySem L2 Mr Z Xe Zl
theorem Ny:∀(N:Nat) (l:List Nat),l.Nodup->(∀x∈l,x<N)->l.length<=N
 |0,l,_,h=>by
  cases l with
  |nil=>exact Sg _
  |cons x l=>exact absurd (h x (Ss ..)) (Uc _)
 |N+1,l,hn,h=>by
  have h2:=Ny N (l.erase N) (hn.erase N) (fun x hx=>by
   have:=(hn.mem_erase_iff).mp hx;have:=h x this.2;lia)
  rw[List.length_erase]at h2;split at h2 <;> lia
noncomputable def plc(rs:List (List Int)) (e:Int):Nat:=rs.findIdx fun r=>decide (e∈r)
theorem same_place{rs:List (List Int)}(hn:rs.flatten.Nodup) {i j:Nat}{r s:List Int}{e:Int}(hi:rs[i]?=some r) (hj:rs[j]?=some s) (h1:e∈r) (h2:e∈s):i=j:=by
 have a:=nW 0 hn hi h1;have b:=nW 0 hn hj h2;rw[a]at b;have:=D.int.inj (Sz.inj b);lia
theorem plc_eq{rs:List (List Int)}(hn:rs.flatten.Nodup) {i:Nat}{r:List Int}{e:Int}(hi:rs[i]?=some r) (h1:e∈r):plc rs e=i:=by
 have hl:rs.findIdx (fun r=>decide (e∈r))<rs.length:=UM ⟨r,mGq hi,decide_eq_true h1⟩
 have h2:=VG (xs:=rs) (p:=fun r=>decide (e∈r)) (w:=hl)
 exact same_place hn (gEg hl) hi (of_decide_eq_true h2) h1
structure Mp (rs:List (List Int)):Prop where
 hn:rs.flatten.Nodup
 hl:rs.flatten.length<=1000
 hr:rs.length<=1000
 hneg:∀e∈rs.flatten, -e∈rs.flatten
theorem Mp.at{rs:List (List Int)}(h:Mp rs) {e:Int}(he:e∈rs.flatten):∃r,rs[plc rs e]?=some r/\e∈r:=by
 obtain⟨r,h1,h2⟩:=mFq.mp he;obtain⟨i,h3⟩:=Sw.mp h1;exact⟨r,by rw[plc_eq h.hn h3 h2];exact h3,h2⟩
theorem Mp.other{rs:List (List Int)}(h:Mp rs) {k:Nat}{r:List Int}{e:Int}(hk:rs[k]?=some r) (he:e∈r):-e∈rs.flatten:=h.hneg e (mFq.mpr ⟨r,mGq hk,he⟩)
theorem Mp.kv{rs:List (List Int)}(h:Mp rs) {e:Int}(he:e∈rs.flatten):getD (cU 0 rs) (SY e)=some (.int (plc rs e:Int)):=by
 obtain⟨r,h1,h2⟩:=h.at he;have:=nW 0 h.hn h1 h2
 rwa [T1]at this
theorem Mp.lt{rs:List (List Int)}(h:Mp rs) {e:Int}(he:e∈rs.flatten):plc rs e<rs.length:=by
 obtain⟨r,h1,_⟩:=h.at he;exact(gSq.mp h1).1
theorem Mp.row{rs:List (List Int)}(h:Mp rs) {k:Nat}{r:List Int}(hk:rs[k]?=some r):r.length<=1000:=by
 have:=T9.length_le (SG (mGq hk));have:=h.hl;lia
inductive fB (rs:List (List Int)) (s:Nat):Nat->Prop
 |base:fB rs s s
 |step {k:Nat}{r:List Int}{e:Int}:fB rs s k->rs[k]?=some r->e∈r->fB rs s (plc rs (-e))
theorem uQ(pl:Int->Nat):∀(r:List Int) (ks ws:List Nat),∃a,r.foldl (sq pl) (ks,ws)=(ks++a,ws++a)/\(∀k∈a,∃e∈r,k=pl (-e))/\(∀e∈r,pl (-e)∈ks++a)/\(ks.Nodup->(ks++a).Nodup)
 | [],ks,ws=>⟨[],by simp,by simp,by simp,by simp⟩
 |e::r,ks,ws=>by
  rw[Ug]
  by_cases h:pl (-e)∈ks
  .have e1:sq pl (ks,ws) e=(ks,ws):=by unfold sq;rw[if_pos h]
   rw[e1];obtain⟨a,h1,h2,h3,h4⟩:=uQ pl r ks ws;refine⟨a,h1,fun k hk=>?_,fun x hx=>?_,h4⟩
   .obtain ⟨x,hx,q⟩:=h2 k hk;exact⟨x,mCo _ hx,q⟩
   .rcases Si.mp hx with rfl|hx
    .exact mAq.mpr (.inl h)
    .exact h3 x hx
  .have e1:sq pl (ks,ws) e=(ks++[pl (-e)],ws++[pl (-e)]):=by unfold sq;rw[if_neg h]
   rw[e1];obtain⟨a,h1,h2,h3,h4⟩:=uQ pl r (ks++[pl (-e)]) (ws++[pl (-e)]);refine⟨pl (-e)::a,by rw[h1,Sk,Sk];rfl,fun k hk=>?_,fun x hx=>?_,fun hn=>?_⟩
   .rcases Si.mp hk with rfl|hk
    .exact ⟨e,Ss ..,rfl⟩
    .obtain ⟨x,hx,q⟩:=h2 k hk;exact⟨x,mCo _ hx,q⟩
   .rcases Si.mp hx with rfl|hx
    .exact mAq.mpr (.inr (Ss ..))
    .have:=h3 x hx
     rwa [Sk]at this
   .have:=h4 (by
     rw[nAq];exact⟨hn,by simp,fun x hx y hy q=>h (by rw[mSq.mp hy]at q;rw[←q];exact hx)⟩)
    rwa [Sk]at this
structure Inv (rs:List (List Int)) (s:Nat) (ks ws:List Nat):Prop where
 nd:ks.Nodup
 lt:∀k∈ks,k<rs.length
 st:s∈ks
 rc:∀k∈ks,fB rs s k
 sub:∀w∈ws,w∈ks
 cl:∀k∈ks,k∉ws->∀r e,rs[k]?=some r->e∈r->plc rs (-e)∈ks
 few:2*(rs.length-ks.length)+ws.length<=2*rs.length+1
theorem Inv.go{rs:List (List Int)}(hm:Mp rs) {s h:Nat}{ks ws:List Nat}{r:List Int}(hi:Inv rs s ks (ws++[h])) (hr:rs[h]?=some r):∃a,r.foldl (sq (plc rs)) (ks,ws)=(ks++a,ws++a)/\Inv rs s (ks++a) (ws++a)/\2*(rs.length-(ks++a).length)+(ws++a).length<2*(rs.length-ks.length)+(ws++[h]).length:=by
 obtain⟨a,h1,h2,h3,h4⟩:=uQ (plc rs) r ks ws;have hh:h∈ks:=hi.sub h (by simp)
 have nd:=h4 hi.nd;have lt:∀k∈ks++a,k<rs.length:=by
  intro k hk;rcases mAq.mp hk with q|q
  .exact hi.lt k q
  .obtain ⟨e,he,rfl⟩:=h2 k q;exact hm.lt (hm.other hr he)
 have pl:=Ny _ _ nd lt;have p0:=hi.few;rw[lAq]at pl;rw[lAq,lSq]at p0;have key:2*(rs.length-(ks++a).length)+(ws++a).length<2*(rs.length-ks.length)+(ws++[h]).length:=by
  rw[lAq,lAq,lAq,lSq];lia
 refine⟨a,h1,⟨nd,lt,mAq.mpr (.inl hi.st),fun k hk=>?_,fun w hw=>?_,fun k hk hw=>?_,?_⟩,key⟩
 .rcases mAq.mp hk with q|q
  .exact hi.rc k q
  .obtain ⟨e,he,rfl⟩:=h2 k q;exact .step (hi.rc h hh) hr he
 .rcases mAq.mp hw with q|q
  .exact mAq.mpr (.inl (hi.sub w (mAq.mpr (.inl q))))
  .exact mAq.mpr (.inr q)
 .intro r' e hr' he;have k1:k∈ks:=(mAq.mp hk).resolve_right fun q=>hw (mAq.mpr (.inr q))
  by_cases q:k=h
  .subst q;rw[hr]at hr';cases hr';exact h3 e he
  .exact mAq.mpr (.inl (hi.cl k k1 (fun z=>by
    rcases mAq.mp z with z|z
    .exact hw (mAq.mpr (.inl z))
    .exact q (mSq.mp z)) r' e hr' he))
 .rw [lAq,lAq]at key ⊢;rw[lAq,lSq]at key;lia
noncomputable def mu(N:Nat):AS->Nat
 | [_,_,_,some (.owd kv),some (.ow w),_,_,_]=>2*(N-kv.length)+w.length
 |_=>0
theorem AH{rs:List (List Int)}(hm:Mp rs) {s:Nat}(hs:s<rs.length):∃S',dq (dN (bg Er (fA cS (ah (aj 4) ax)) (rC (.int 0)))) ja 100000 [some (.sh (dM rs)),some (.sh (.int (s:Int))),some (.owd (cU 0 rs)),some (.owd (kd [s])),some (.ow (wd [s])),none,none,none]=some (.nx S') /\
  ∃ks v5 v6 v7,S'=[some (.sh (dM rs)),some (.sh (.int (s:Int))),some (.owd (cU 0 rs)),some (.owd (kd ks)),some (.ow (wd [])),v5,v6,v7]/\Inv rs s ks []:=by
 have h1000:=hm.hr;refine iA (c:=dN (bg Er (fA cS (ah (aj 4) ax)) (rC (.int 0)))) (body:=ja) (fun S=>∃ks ws v5 v6 v7,S=[some (.sh (dM rs)),some (.sh (.int (s:Int))),some (.owd (cU 0 rs)),some (.owd (kd ks)),some (.ow (wd ws)),v5,v6,v7]/\Inv rs s ks ws) (mu rs.length) (fun S'=>∃ks v5 v6 v7,S'=[some (.sh (dM rs)),some (.sh (.int (s:Int))),some (.owd (cU 0 rs)),some (.owd (kd ks)),some (.ow (wd [])),v5,v6,v7]/\Inv rs s ks []) ?_ 100000 _ ⟨[s],[s],none,none,none,rfl,?_⟩ ?_
 .rintro S ⟨ks,ws,v5,v6,v7,rfl,hi⟩;rcases Wo ws with rfl|⟨ws,h,rfl⟩
  .refine ⟨false,_,?_,fun q=>(nomatch q),fun _=>⟨ks,v5,v6,v7,rfl,hi⟩⟩
   simp_arith [wd]
   rfl
  .rw [Wp]at hi ⊢;have hlt:h<rs.length:=hi.lt h (hi.sub h (by simp))
   have hr:rs[h]?=some rs[h]:=gEg hlt;obtain⟨a,e1,hi2,mlt⟩:=hi.go hm hr;have few:=hi.few;have kl:=Ny _ _ hi.nd hi.lt;have rl:=hm.row hr;rw[lAq,lSq]at few;obtain⟨v6',v7',e2⟩:=Ei (kvs:=cU 0 rs) (ks:=ks) (ws:=ws) (r:=rs[h]) (pl:=plc rs) (v0:=some (.sh (dM rs))) (v1:=some (.sh (.int (s:Int)))) (v5:=some (.sh (.int (h:Int)))) (v6:=v6) (v7:=v7) (fun e he=>hm.kv (hm.other hr he)) (by lia) (by lia)
   rw[e1]at e2;have hw:wd (ws++[h])=wd ws++[.sh (.int (h:Int))]:=by simp[wd]
   have wl:(wd ws).length=ws.length:=by simp[wd]
   have c1:(0:Int)<((wd ws++[AV.sh (.int (h:Int))]).length:Int):=by
    rw[lAq,lSq];lia
   have p1:(wd ws++[AV.sh (.int (h:Int))])[(wd ws++[AV.sh (.int (h:Int))]).length-1]?=some (.sh (.int (h:Int))):=by
    rw[lAq,lSq,gYq (by lia)]
    simp
   have p2:(wd ws++[AV.sh (.int (h:Int))]).dropLast=wd ws:=VH;have at1:atI (rs.map dI) (h:Int)=some (dI rs[h]):=nU (by rw[gMq,hr];rfl)
   refine⟨true,[some (.sh (dM rs)),some (.sh (.int (s:Int))),some (.owd (cU 0 rs)),some (.owd (kd ks)),some (.ow (wd ws++[.sh (.int (h:Int))])),v5,v6,v7],?_,fun _=>⟨[some (.sh (dM rs)),some (.sh (.int (s:Int))),some (.owd (cU 0 rs)),some (.owd (kd (ks++a))),some (.ow (wd (ws++a))),some (.sh (.int (h:Int))),v6',v7'],?_,⟨_,_,_,_,_,rfl,hi2⟩,?_⟩,fun q=>(nomatch q)⟩
   .simp_arith [hw,c1]
   .simp_arith [ja,p1,p2,dM,at1,e2]
   .show 2*(rs.length-(kd (ks++a)).length)+(wd (ws++a)).length<2*(rs.length-(kd ks).length)+(wd (ws++[h])).length;unfold kd wd;rw[lMq,lMq,lMq,lMq];exact mlt
 .refine ⟨by simp,?_,by simp,?_,fun w h=>h,?_,?_⟩
  .intro k hk;rw[mSq.mp hk];exact hs
  .intro k hk;rw[mSq.mp hk];exact .base
  .intro k hk hn;exact absurd hk hn
  .simp only [lSq];lia
 .show 2*(rs.length-(kd [s]).length)+(wd [s]).length<100000;simp only[kd,wd,lMq,lSq];lia
theorem zQ{rs:List (List Int)}(hm:Mp rs) {s:Nat}(hs:s<rs.length):∃ks,Inv rs s ks []/\ji [dM rs,.int (s:Int)]=some (aI (ff (ks.map fun k:Nat=>(k:Int)))):=by
 obtain⟨S',e,ks,v5,v6,v7,rfl,hi⟩:=AH hm hs;have hl:=hm.hl;have pa:=xw hm.hn (by lia)
 have e1:[((SY (s:Int):aX),D.bl true)]=kd [s]:=rfl;have e2:[AV.sh (.int (s:Int))]=wd [s]:=rfl;have e3:ou (kd ks)=some (ks.map fun k:Nat=>(k:Int)):=vO (fun k:Nat=>(k:Int)) (fun _=>D.bl true) ks
 have l1:(wd [s]).length<=cX:=by show 1<=16777216;decide
 refine⟨ks,hi,?_⟩
 simp_arith [ji,uU,pa,e1,e2,e,e3,l1]
end K51
--ZQ3 --ZQ4 --ZQ5 --ZQ6 --ZQ8 --ZQ9
namespace K51
open PySem L2 Mr Z Xe Zl
theorem Jk(ks:List Nat):∃ps:List Nat,ps.Perm ks/\ps.Pairwise (·<=·)/\ff (ks.map fun k:Nat=>(k:Int))=ps.map fun k:Nat=>(k:Int):=by
 have hp:=gP (ks.map fun k:Nat=>(k:Int))
 have hs:=rJ (ks.map fun k:Nat=>(k:Int))
 have hc:(ff (ks.map fun k:Nat=>(k:Int)))=((ff (ks.map fun k:Nat=>(k:Int))).map Vs).map fun k:Nat=>(k:Int):=by
  rw[mPq]
  conv=>lhs;rw[←Vb (ff (ks.map fun k:Nat=>(k:Int)))]
  refine mCq fun z hz=>?_
  obtain⟨k,_,rfl⟩:=mMq.mp (hp.mem_iff.mp hz);rfl
 refine⟨(ff (ks.map fun k:Nat=>(k:Int))).map Vs,?_,?_,hc⟩
 .have:=hp.map Vs;rw[mPq]at this;have e:ks.map (Vs∘fun k:Nat=>(k:Int))=ks:=by
   conv=>rhs;rw[←Vb ks]
   refine mCq fun k _=>?_
   show Vs (k:Int)=k;exact Ub k
  rwa [e]at this
 .rw [S8];refine Sy.imp (fun h=>?_) hs
  lia
structure Pc (rs:List (List Int)) (s:Nat) (ps:List Nat):Prop where
 nd:ps.Nodup
 so:ps.Pairwise (·<=·)
 lt:∀k∈ps,k<rs.length
 iff:∀k,k∈ps↔fB rs s k
theorem Bh{rs:List (List Int)}(hm:Mp rs) {s:Nat}(hs:s<rs.length):∃ps,Pc rs s ps/\ji [dM rs,.int (s:Int)]=some (aI (ps.map fun k:Nat=>(k:Int))):=by
 obtain⟨ks,hi,e⟩:=zQ hm hs;obtain⟨ps,h1,h2,h3⟩:=Jk ks;rw[h3]at e;refine⟨ps,⟨h1.symm.nodup hi.nd,h2,fun k hk=>hi.lt k (h1.mem_iff.mp hk),fun k=>⟨fun hk=>hi.rc k (h1.mem_iff.mp hk),fun hk=>h1.mem_iff.mpr ?_⟩⟩,e⟩
 induction hk with
 |base=>exact hi.st
 |step _ a b c=>exact hi.cl _ c (UV) _ _ a b
noncomputable def addN(kn:List Nat) (t:Nat):List Nat:=if t∈kn then kn else kn++[t]
theorem JJ(ks:List Nat) (t:Nat):mN (kd ks) (SY (t:Int)) (.bl true)=kd (addN ks t):=by
 unfold addN
 by_cases h:t∈ks
 .rw [if_pos h];unfold mN;rw[Am,decide_eq_true h,if_pos rfl];unfold kd;rw[mPq];refine mCq fun k _=>?_
  show (if _ then _ else _)=_
  split <;> rfl
 .rw [if_neg h];exact FM h
theorem GY(kn:List Nat) (t:Nat):(addN kn t).length<=kn.length+1:=by
 unfold addN;split
 .lia
 .simp
theorem yv:∀(ps kn:List Nat),(ps.foldl addN kn).length<=kn.length+ps.length
 | [],kn=>Sg _
 |p::ps,kn=>by
  have h1:=yv ps (addN kn p);have h2:=GY kn p;rw[Ug,lCq];lia
theorem GW{kn:List Nat}{t k:Nat}:k∈addN kn t↔k∈kn∨k=t:=by
 unfold addN;split
 .rename_i h;exact⟨.inl,fun q=>q.elim id fun q=>q ▸ h⟩
 .simp
theorem jA:∀{ps kn:List Nat}{k:Nat},k∈ps.foldl addN kn↔k∈kn∨k∈ps
 | [],kn,k=>by simp
 |p::ps,kn,k=>by
  rw[Ug,jA,GW,Si,or_assoc]
theorem J0{kn:List Nat}{t:Nat}(h:kn.Nodup):(addN kn t).Nodup:=by
 unfold addN;split
 .exact h
 .rename_i q;rw[nAq];exact⟨h,by simp,fun x hx y hy z=>q (by rw[mSq.mp hy]at z;rw[←z];exact hx)⟩
theorem BF:∀{ps kn:List Nat},kn.Nodup->(ps.foldl addN kn).Nodup
 | [],kn,h=>h
 |p::ps,kn,h=>by
  rw[Ug];exact BF (J0 h)
theorem Da{ps kn:List Nat}{v0 v2 v3 v4 v5:Option AV}(hk:kn.length+ps.length<500000):∃v5',dg 5 jV ((ps.map fun k:Nat=>(k:Int)).map D.int) [v0,some (.owd (kd kn)),v2,v3,v4,v5]=some (.nx [v0,some (.owd (kd (ps.foldl addN kn))),v2,v3,v4,v5']):=by
 have key:=fS (x:=5) (body:=jV) (fun i S=>∃v5',S=[v0,some (.owd (kd ((ps.take i).foldl addN kn))),v2,v3,v4,v5']) (ds:=(ps.map fun k:Nat=>(k:Int)).map D.int) (S:=[v0,some (.owd (kd kn)),v2,v3,v4,v5]) ⟨v5,rfl⟩ (by
  rintro i d S hd ⟨v5',rfl⟩;rw[gMq,gMq]at hd;obtain⟨z,hz,rfl⟩:=oMq.mp hd;obtain⟨k,hk',rfl⟩:=oMq.mp hz;have hi:i<ps.length:=(gSq.mp hk').1;have n1:=yv (ps.take i) kn;rw[lTq]at n1;have l1:(kd ((ps.take i).foldl addN kn)).length<cX:=by unfold kd;rw[lMq];show _<16777216;lia
  have et:(ps.take (i+1)).foldl addN kn=addN ((ps.take i).foldl addN kn) k:=by
   have:ps[i]'hi=k:=by rw[gEg hi]at hk';exact Sz.inj hk'
   rw[UN hi,V0,this];rfl
  have hp:=JJ ((ps.take i).foldl addN kn) k;rw[←et]at hp;refine⟨_,?_,some (.sh (.int (k:Int))),rfl⟩
  simp_arith [jV,l1,hp])
 obtain⟨S',e,v5',rfl⟩:=key;rw[lMq,lMq,Tg]at e;exact⟨v5',e⟩
theorem AY{rs:List (List Int)}{ps:List Nat}(h:∀k∈ps,k<rs.length):dJ ft (kM (lOf (LI (gY 1) (aj 0)))) [some (.sh (dM rs))] ((ps.map fun k:Nat=>(k:Int)).map D.int)=some (ps.map fun k=>aI (rs.getD k [])):=by
 have key:=iw (te:=kM (lOf (LI (gY 1) (aj 0)))) (cap:=[some (.sh (dM rs))]) (fun d=>match d with|.int k=>aI (rs.getD k.toNat [])|_=>.sh .non) (ds:=(ps.map fun k:Nat=>(k:Int)).map D.int) (by
  intro d hd;rw[mPq]at hd;obtain⟨k,hk,rfl⟩:=mMq.mp hd;have at1:=N9 (h k hk);refine⟨[some (.sh (.int (k:Int))),some (.sh (dM rs))],?_⟩
  simp_arith [dM,at1,Function.comp,Ub,dI,aI,mPq]
  rfl)
 rw[key,mPq,mPq];rfl
def pA(rs:List (List Int)) (ps:List Nat):AV:=.ow (ps.map fun k=>aI (rs.getD k []))
theorem fB.trans{rs:List (List Int)}{a b c:Nat}(h:fB rs a b) (h2:fB rs b c):fB rs a c:=by
 induction h2 with
 |base=>exact h
 |step _ p q r=>exact .step r p q
theorem fB.symm{rs:List (List Int)}(hm:Mp rs) {a b:Nat}(h:fB rs a b):fB rs b a:=by
 induction h with
 |base=>exact .base
 | @step k r e _ p q ih =>
  obtain⟨r',h1,h2⟩:=hm.at (hm.other p q);have:=fB.step (s:=plc rs (-e)) .base h1 h2;rw[Tw,plc_eq hm.hn p q]at this;exact this.trans ih
structure Ps (rs:List (List Int)) (i:Nat) (kn:List Nat) (PS:List (List Nat)):Prop where
 sub:∀ps∈PS,∀k∈ps,k∈kn
 dj:PS.Pairwise fun a b=>∀k∈a,k∉b
 pc:∀ps∈PS,∃s,s<rs.length/\Pc rs s ps
 all:∀k,k<i->k∈kn
 mem:∀k,k∈kn->∃ps∈PS,k∈ps
 nd:kn.Nodup
 lt:∀k∈kn,k<rs.length
 len:PS.length<=i
theorem qJ{rs:List (List Int)}(hm:Mp rs):∃kn PS,Ps rs rs.length kn PS/\ky [dM rs]=some (.ow (PS.map (pA rs))):=by
 have h1000:=hm.hr;have key:=fS (x:=3) (body:=jI) (fun i S=>∃kn PS v3 v4 v5,S=[some (.sh (dM rs)),some (.owd (kd kn)),some (.ow (PS.map (pA rs))),v3,v4,v5]/\Ps rs i kn PS) (ds:=cm 0 rs.length) (S:=[some (.sh (dM rs)),some (.owd []),some (.ow []),none,none,none])
  ⟨[],[],none,none,none,rfl,⟨by simp,by simp,by simp,by simp,by simp,by simp,by simp,by simp⟩⟩ (by
  rintro i d S hd ⟨kn,PS,v3,v4,v5,rfl,hp⟩;have hi:i<rs.length:=by
   have:=(gSq.mp hd).1
   rwa [cV]at this
  rw[lW hi,WM]at hd;cases hd;have hg:=GA kn i
  by_cases c:i∈kn
  .rw [decide_eq_true c]at hg;refine⟨[some (.sh (dM rs)),some (.owd (kd kn)),some (.ow (PS.map (pA rs))),some (.sh (.int (i:Int))),v4,v5],?_,kn,PS,_,_,_,rfl,hp.sub,hp.dj,hp.pc,?_,hp.mem,hp.nd,hp.lt,?_⟩
   .simp_arith [jI,hg]
   .intro k hk;rcases T6.mp hk with q|rfl
    .exact hp.all k q
    .exact c
   .have:=hp.len;lia
  .rw [decide_eq_false c]at hg;obtain⟨ps,h1,e1⟩:=Bh hm hi;have p1:=Ny _ _ hp.nd hp.lt;have p2:=Ny _ _ h1.nd h1.lt;have p3:=hp.len;have l2:ps.length<=cX:=by show _<=16777216;lia
   have l3:PS.length<cX:=by show _<16777216;lia
   obtain⟨v5',e2⟩:=Da (ps:=ps) (kn:=kn) (v0:=some (.sh (dM rs))) (v2:=some (.ow (PS.map (pA rs)))) (v3:=some (.sh (.int (i:Int)))) (v4:=some (.sh (dI (ps.map fun k:Nat=>(k:Int))))) (v5:=v5) (by lia)
   have e3:=AY h1.lt;refine⟨[some (.sh (dM rs)),some (.owd (kd (ps.foldl addN kn))),some (.ow ((PS++[ps]).map (pA rs))),some (.sh (.int (i:Int))),some (.sh (dI (ps.map fun k:Nat=>(k:Int)))),v5'],?_,ps.foldl addN kn,PS++[ps],_,_,_,rfl,?_,?_,?_,?_,?_,BF hp.nd,?_,?_⟩
   .simp_arith [jI,hg,e1,e2,e3,l2,l3,mBq,pA]
   .intro qs hq k hk;rcases mAq.mp hq with q|q
    .exact jA.mpr (.inl (hp.sub qs q k hk))
    .rw [mSq.mp q]at hk;exact jA.mpr (.inr hk)
   .rw [SV];refine⟨hp.dj,List.pairwise_singleton ..,fun qs hq b hb k hk hk2=>c ?_⟩
    rw[mSq.mp hb]at hk2;obtain⟨s,hs,hc⟩:=hp.pc qs hq;exact hp.sub qs hq i ((hc.iff i).mpr (((hc.iff k).mp hk).trans (((h1.iff k).mp hk2).symm hm)))
   .intro qs hq;rcases mAq.mp hq with q|q
    .exact hp.pc qs q
    .rw [mSq.mp q];exact⟨i,hi,h1⟩
   .intro k hk;rcases T6.mp hk with q|rfl
    .exact jA.mpr (.inl (hp.all k q))
    .exact jA.mpr (.inr ((h1.iff k).mpr .base))
   .intro k hk;rcases jA.mp hk with q|q
    .obtain ⟨qs,a,b⟩:=hp.mem k q;exact⟨qs,mAq.mpr (.inl a),b⟩
    .exact ⟨ps,mAq.mpr (.inr (mSq.mpr rfl)),q⟩
   .intro k hk;rcases jA.mp hk with q|q
    .exact hp.lt k q
    .exact h1.lt k q
   .rw [lAq,lSq];lia)
 obtain⟨S',e,kn,PS,v3,v4,v5,rfl,hp⟩:=key;rw[cV]at hp;have r1:=mC (n:=rs.length) (by lia)
 refine⟨kn,PS,hp,?_⟩
 simp_arith [ky,wz,dM,r1,e]
end K51
--ZQ3 --ZQ4 --ZQ5 --ZQ6 --ZQ8 --ZQ9 --ZQB --ZQC --ZQD --ZQE
namespace K12
open PySem L2 Mr Z Xe Zl
theorem uW:∀(P:List (List (List Int))),(P.filter fun p=>!decide (p=[[]])).flatten.flatten=P.flatten.flatten
 | []=>rfl
 |p::P=>by
  by_cases h:p=[[]]
  .subst h;rw[Tz (by simp),uW P]
   simp
  .rw [Tt (by simp[h]),fCq,fAq,uW P,fCq,fAq]
theorem IU(P:List (List (List Int))) (q:List (List Int)->Bool):(P.filter q).flatten.length<=P.flatten.length:=by
 induction P with
 |nil=>simp
 |cons p P ih =>
  by_cases h:q p=true
  .rw [Tt h,fCq,lAq,fCq,lAq];lia
  .rw [Tz h,fCq,lAq];lia
structure Pt (P:List (List (List Int))):Prop where
 nd:P.flatten.flatten.Nodup
 ng:∀z∈P.flatten.flatten, -z∈P.flatten.flatten
 nz:∀z∈P.flatten.flatten,z≠0/\-(10 ^ 60)<z/\z<10 ^ 60
 le:P.flatten.flatten.length<=126
 lt:P.flatten.length<=64
 lp:P.length<=64
theorem OS{nm:List Int}(hm:Nm nm) {P:List (List (List Int))}{u:Nat}(hp:P.flatten.flatten.Perm (pB nm u)) (hu:u<=63) (h1:P.flatten.length<=64) (h2:P.length<=64):Pt P:=by
 refine⟨hp.symm.nodup (zT hm u),fun z hz=>hp.mem_iff.mpr (FR (hp.mem_iff.mp hz)),fun z hz=>?_,?_,h1,h2⟩
 .obtain ⟨x,hx,q⟩:=uG.mp (hp.mem_iff.mp hz);have l:=hm.lo x (Tq hx);have h:=hm.hi x (Tq hx);lia
 .rw [hp.length_eq,uB (by rw[hm.len];lia)]
  lia
theorem Pt.flt{P:List (List (List Int))}(h:Pt P):Pt (P.filter fun p=>!decide (p=[[]])):=by
 have e:=uW P;have l1:=IU P (fun p=>!decide (p=[[]]))
 have l2:=Um (fun p=>!decide (p=[[]])) P
 exact⟨by rw[e];exact h.nd,by rw[e];exact h.ng,by rw[e];exact h.nz,by rw[e];exact h.le,by have:=h.lt;lia,by have:=h.lp;lia⟩
theorem Bz:∀{PS:List (List Nat)},(∀ps∈PS,ps.Nodup)->(PS.Pairwise fun a b=>∀k∈a,k∉b)->PS.flatten.Nodup
 | [],_,_=>Tc
 |p::PS,h1,h2=>by
  obtain⟨h3,h4⟩:=Uq.mp h2;rw[fCq,nAq];refine⟨h1 p (Ss ..),Bz (fun ps hp=>h1 ps (mCo _ hp)) h4,fun a ha b hb e=>?_⟩
  obtain⟨q,hq,hb'⟩:=mFq.mp hb;exact h3 q hq a ha (e ▸ hb')
theorem jP{rs:List (List Int)}{kn:List Nat}{PS:List (List Nat)}(hp:K51.Ps rs rs.length kn PS):(PS.map fun ps=>ps.map fun k=>rs.getD k []).flatten.Perm rs:=by
 have e1:(PS.map fun ps=>ps.map fun k=>rs.getD k []).flatten=PS.flatten.map fun k=>rs.getD k []:=by rw[←List.map_flatten]
 rw[e1];have nd:PS.flatten.Nodup:=Bz (fun ps h=>by obtain⟨s,_,q⟩:=hp.pc ps h;exact q.nd) hp.dj
 have pm:PS.flatten.Perm (To rs.length):=(Tb nd VC).mpr fun k=>by
  rw[US,mFq];constructor
  .rintro ⟨ps,h1,h2⟩;obtain⟨s,_,q⟩:=hp.pc ps h1;exact q.lt k h2
  .intro hk;exact hp.mem k (hp.all k hk)
 have e2:(To rs.length).map (fun k=>rs.getD k [])=rs:=by
  refine Uw fun i=>?_
  rw[gMq]
  by_cases hi:i<rs.length
  .rw [Ui hi,gEg hi,Uh,gDq,gEg hi];rfl
  .rw [S0 (by simpa using hi),S0 (by lia)]
   rfl
 have:=pm.map (fun k=>rs.getD k [])
 rwa [e2]at this
end K12
--ZQ3 --ZQ4 --ZQ5 --ZQ6 --ZQ8 --ZQ9 --ZQB --ZQC --ZQD --ZQE
namespace K12
open PySem L2 Mr Z Xe Zl
theorem Cv(p:List (List Int)):vm (dM p) (.list [.list []])=some (.bl (!decide (p=[[]]))):=MB p [[]]
theorem GU(P:List (List (List Int))):dJ (dN (bg vm (aj 0) (rOf (dD (aB (dD aN) aN))))) (aK 0) [] (P.map dM)=some ((P.filter fun p=>!decide (p=[[]])).map fun p=>.sh (dM p)):=by
 rw[Z.iD (fun d=>match vm d (.list [.list []]) with|some (.bl b)=>b|_=>false) (fun d=>.sh d)]
 .rw [VJ,mPq];congr 1;have:((fun d=>match vm d (.list [.list []]) with|some (.bl b)=>b|_=>false)∘dM)=fun p=>!decide (p=[[]]):=by
   funext p;show (match vm (dM p) (.list [.list []]) with|some (.bl b)=>b|_=>false)=_
   rw[Cv]
  rw[this];rfl
 .intro d hd;obtain⟨p,hp,rfl⟩:=mMq.mp hd;have h:=Cv p;refine⟨[some (.sh (dM p))],?_,fun _=>⟨[some (.sh (dM p))],?_⟩⟩
  .rw [h]
   simp_arith [h]
  .simp_arith []
theorem Dt(rs:List (List Int)):dJ ft (kM (gY 0)) [] (rs.map dI)=some (rs.map aI):=by
 rw[Z.iw fun d=>aI (mw d)]
 .rw [qt aI]
 .intro d hd;obtain⟨r,hr,rfl⟩:=oy hd;refine⟨[some (.sh (dI r))],?_⟩
  simp_arith [gq]
def tl:MS:=(aC (aO 5 (gu (oa (aK 3)) [] ft (gu (oa (aK 0)) [] ft (kM (gY 0)))))
 (aC (aO 6 (bj (QW K13.tN) (aB (aK 5) aN)))
 (aC (jM (rR (eQ (dN (cA K13.aU (ah (aj 6) (ah (aj 2) ax))))) (eQ (dN (cA K13.aU (ah (aj 5) (ah (aj 3) ax)))))) (cI (kSc (rC (.bl false)))) bD)
 (aC (K8 6 7 (.int 7))
 (aC (kJ 6 (dD (aB (kSc (rC (.int 8))) aN)))
 (aC (jM (rR (eQ (dN (cA K13.aU (ah (aj 5) (ah (aj 3) ax))))) (eQ (dN (cA K13.aU (ah (rOf (bj (QW K13.tN) (aB (aK 5) aN))) (ah (aj 2) ax)))))) (cI (kSc (rC (.bl false)))) bD)
 (cI (kSc (cA K13.aU (ah (rOf (bj (QW K13.tN) (aB (bj K51.ky (aB (gu (oa (aK 2)) [] ft (kM (gY 0))) aN)) aN))) (ah (aj 2) ax)))))))))))
theorem Jb(Q:List (List (List Int))):(Q.map fun m=>AV.sh (dM m)).map aH=Q.map dM:=by
 rw[mPq];rfl
end K12
--ZQ3 --ZQ4 --ZQ5 --ZQ6 --ZQ8 --ZQ9 --ZQB --ZQC --ZQD --ZQE --ZQF
namespace K23
open PySem L2 Mr Z Xe Zl
noncomputable abbrev cz(z:Int):D:=.ins "Cut" [("road", .int z)]
noncomputable def yZ(z:Int) (t:List Int):List Int:=t.filter fun e=>!decide (e∈[z, -z])
def C(z:Int) (rs:List (List Int)):List (List Int):=rs.map (yZ z)
section
variable {rs:List (List Int)}{z:Int}
theorem tS:(C z rs).flatten=yZ z rs.flatten:=by
 unfold C yZ;rw[List.filter_flatten]
end
end K23
--ZQ3 --ZQ4 --ZQ5 --ZQ6 --ZQ8 --ZQ9
namespace K51
open PySem L2 Mr Z Xe Zl
noncomputable def rot(r:List Int):List Int:=r.drop 1++r.take 1
def dz(r:List Int):List (aX×Int):=(r.zip (rot r)).map fun p=>(.inl p.1,p.2)
def bJ(rs:List (List Int)):List (aX×Int):=(rs.map dz).flatten
noncomputable def jX(ps:List (aX×Int)):List (aX×D):=ps.map fun p=>(p.1,D.int p.2)
theorem pW(r:List Int):(rot r).length=r.length:=by
 unfold rot;rw[lAq,SE,lTq];lia
theorem rot_perm(r:List Int):(rot r).Perm r:=by
 unfold rot;refine Ts.trans ?_;rw[Ta]
theorem jK(r:List Int):(dz r).length=r.length:=by
 unfold dz;rw[lMq,List.length_zip,pW,Nat.min_self]
theorem qg(r:List Int):(dz r).map (·.1)=r.map SY:=by
 unfold dz;rw[mPq];have:r.map SY=((r.zip (rot r)).map Prod.fst).map (SY:Int->aX):=by rw[List.map_fst_zip (by rw[pW];exact Sg _)]
 rw[this,mPq];rfl
theorem xI(r:List Int):(dz r).map (·.2)=rot r:=by
 unfold dz;rw[mPq];have:rot r=(r.zip (rot r)).map Prod.snd:=by rw[List.map_snd_zip (by rw[pW];exact Sg _)]
 exact this.symm
theorem gV:∀(rs:List (List Int)),(bJ rs).map (·.1)=rs.flatten.map SY
 | []=>rfl
 |r::rs=>by
  show (dz r++bJ rs).map (·.1)=_;rw[mBq,qg,gV rs,fCq,mBq]
theorem oU:∀(rs:List (List Int)),((bJ rs).map (·.2)).Perm rs.flatten
 | []=>.nil
 |r::rs=>by
  show ((dz r++bJ rs).map (·.2)).Perm _;rw[mBq,xI,fCq];exact(rot_perm r).append (oU rs)
theorem DZ(rs:List (List Int)):(bJ rs).length=rs.flatten.length:=by
 have:=congrArg TJ (gV rs)
 rwa [lMq,lMq]at this
theorem tU(rs:List (List Int)) (r:List Int):bJ (rs++[r])=bJ rs++dz r:=by
 unfold bJ;rw[mBq,fAq];simp
theorem Ke(ps:List (aX×Int)):(jX ps).length=ps.length:=lMq _
theorem Iu(a b:List (aX×Int)):jX (a++b)=jX a++jX b:=mBq
theorem G6(ps:List (aX×Int)):(jX ps).map (·.1)=ps.map (·.1):=by
 unfold jX;rw[mPq];rfl
theorem uj{r:List Int}{j:Nat}{z y:Int}(h:r[j]?=some z) (h2:(rot r)[j]?=some y):(dz r)[j]?=some (.inl z,y):=by
 unfold dz;rw[gMq,VZ (z:=(z,y)).mpr ⟨h,h2⟩];rfl
theorem yE{rs:List (List Int)}{i j:Nat}{r:List Int}{z y:Int}(hn:rs.flatten.Nodup) (hr:rs[i]?=some r) (hz:r[j]?=some z) (hy:(rot r)[j]?=some y) :
  mN (jX (bJ (rs.take i)++(dz r).take j)) (.inl z) (.int y)=jX (bJ (rs.take i)++(dz r).take (j+1)):=by
 have hfl:=du hr;have hnd:((rs.take i).flatten++r).Nodup:=by
  rw[←hfl];have e0:rs.flatten=(rs.take (i+1)).flatten++(rs.drop (i+1)).flatten:=by rw[←fAq,Ta]
  rw[e0]at hn;exact(nAq.mp hn).1
 rw[pI]
 .rw [bU (uj hz hy),←Sk,Iu (_++_) [_]];rfl
 .rw [G6,mBq,gV,VY,qg,←VY];intro m;rcases mAq.mp m with m|m
  .obtain ⟨x,hx,e2⟩:=mMq.mp m;cases e2;exact(nAq.mp hnd).2.2 _ hx _ (mGq hz) rfl
  .obtain ⟨x,hx,e2⟩:=mMq.mp m;cases e2;have:=Sy.sublist (Tj (j+1) r) (nAq.mp hnd).2.1;rw[bU hz]at this;exact(nAq.mp this).2.2 _ hx _ (by simp) rfl
theorem vK{rs:List (List Int)}{i j:Nat}{r:List Int}(hl:rs.flatten.length<=1000) (hr:rs[i]?=some r):(jX (bJ (rs.take i)++(dz r).take j)).length<cX:=by
 refine E5 ?_;have h1:=fv rs (i+1);rw[du hr,lAq]at h1;rw[Ke,lAq,DZ,lTq,jK];lia
theorem QT(r:List Int):lD (r.map D.int) (some 1) none=(r.drop 1).map D.int:=by
 rw[kL];cases r with
 |nil=>rfl
 |cons x r=>rw[show (some 1:Option Int)=some ((1:Nat):Int) from rfl,qP _ _ (by simp)]
theorem QI(r:List Int):lD (r.map D.int) none (some 1)=(r.take 1).map D.int:=by
 rw[kL];cases r with
 |nil=>rfl
 |cons x r=>rw[show (some 1:Option Int)=some ((1:Nat):Int) from rfl,xN _ _ (by simp)]
theorem HK{rs:List (List Int)}(hn:rs.flatten.Nodup) (hl:rs.flatten.length<=1000):qr [dM rs]=some (.owd (jX (bJ rs))):=by
 have key:=fS (x:=2) (body:=oY) (fun i S=>∃v2 v3 v4,S=[some (.sh (dM rs)),some (.owd (jX (bJ (rs.take i)))),v2,v3,v4]) (ds:=rs.map dI) (S:=[some (.sh (dM rs)),some (.owd []),none,none,none]) ⟨none,none,none,rfl⟩ (by
  rintro i d S hd ⟨v2,v3,v4,rfl⟩;obtain⟨r,hr,rfl⟩:=nP hd;have hrl:r.length<=1000:=by
   have h1:=fv rs (i+1);rw[du hr,lAq]at h1;lia
  have hlen:(r.map D.int).length=((rot r).map D.int).length:=by rw[lMq,lMq,pW]
  have k2:=KI (x:=3) (y:=4) (k:=0) (body:=oZ) (fun j S=>∃v3 v4,S=[some (.sh (dM rs)),some (.owd (jX (bJ (rs.take i)++(dz r).take j))),some (.sh (dI r)),v3,v4]) (ds:=r.map D.int) (es:=(rot r).map D.int) (S:=[some (.sh (dM rs)),some (.owd (jX (bJ (rs.take i)))),some (.sh (dI r)),v3,v4]) hlen ⟨v3,v4,by simp⟩ (by
   rintro j d e S hd he ⟨v3,v4,rfl⟩;obtain⟨z,hz,rfl⟩:=wO hd;obtain⟨y,hy,rfl⟩:=wO he;rw[T1]at *;have h3:=vK (j:=j) hl hr;have hput:=yE hn hr hz hy;refine⟨_,?_,some (.sh (.int z)),some (.sh (.int y)),rfl⟩
   simp_arith [oZ,h3,hput])
  obtain⟨S2,e2,w3,w4,rfl⟩:=k2;rw[T1,lMq,←jK,Tg]at e2;refine⟨_,?_,some (.sh (dI r)),w3,w4,rfl⟩;rw[bU hr,tU];have hll:(r.drop 1).length+(r.take 1).length<=cX:=mU (by rw[SE,lTq];lia)
  have hrot:(r.drop 1).map D.int++(r.take 1).map D.int=(rot r).map D.int:=by unfold rot;rw[mBq]
  have hlen2:r.length=(rot r).length:=(pW r).symm
  simp_arith [oY,QT,QI,hll,hrot,hlen2,e2])
 obtain⟨S',e,v2,v3,v4,rfl⟩:=key;rw[lMq,Tg]at e
 simp_arith [qr,za,e]
end K51
--ZQ3 --ZQ4 --ZQ5 --ZQ6 --ZQ8 --ZQ9 --ZQB --ZQC --ZQD --ZQE --ZQF
namespace K15
open PySem L2 Mr Z Xe Zl
theorem nA{ps:List (aX×Int)}{k:aX}{n:Int}(hn:(ps.map (·.1)).Nodup) (h:(k,n)∈ps):Z.getD (K51.jX ps) k=some (.int n):=by
 induction ps with
 |nil=>cases h
 |cons p ps ih =>
  rw[Sq,Sm]at hn;unfold Z.getD;show (((p.1,D.int p.2)::K51.jX ps).find? _).map _=_;rcases Si.mp h with e|e
  .rw [←e,U6 (by simp)]
   rfl
  .rw [UB (by
    intro z;have z':p.1=k:=by simpa using z
    exact hn.1 (by rw[z'];exact mMq.mpr ⟨_,e,rfl⟩))]
   exact ih hn.2 e
theorem Fv{ps:List (aX×Int)}{k k':aX}{n:Int}(hn:(ps.map (·.2)).Nodup) (h:(k,n)∈ps) (h':(k',n)∈ps):k=k':=by
 induction ps with
 |nil=>cases h
 |cons p ps ih =>
  rw[Sq,Sm]at hn;rcases Si.mp h with e|e
  .rcases Si.mp h' with e'|e'
   .rw [←e]at e';exact(congrArg Prod.fst e').symm
   .exact absurd (mMq.mpr ⟨_,e',by rw[←e]⟩) hn.1
  .rcases Si.mp h' with e'|e'
   .exact absurd (mMq.mpr ⟨_,e,by rw[←e']⟩) hn.1
   .exact ih hn.2 e e'
def nx(rs:List (List Int)) (e:Int):Int:=match Z.getD (K51.jX (K51.bJ rs)) (.inl e) with
 |some (.int n)=>n
 |_=>0
def fw(rs:List (List Int)) (e:Int):Int:=nx rs (-e)
section
variable {rs:List (List Int)}
theorem wX(hn:rs.flatten.Nodup):((K51.bJ rs).map (·.1)).Nodup:=by
 rw[K51.gV,Su,S8];exact Sy.imp (fun h e=>h (SY.inj e)) (Su.mp hn)
theorem sC(hn:rs.flatten.Nodup) {e:Int}(he:e∈rs.flatten):(SY e,nx rs e)∈K51.bJ rs:=by
 have hk:(SY e:aX)∈(K51.bJ rs).map (·.1):=by rw[K51.gV];exact mMq.mpr ⟨e,he,rfl⟩
 obtain⟨⟨k,n⟩,hp,rfl⟩:=mMq.mp hk;have:=nA (wX hn) hp;unfold nx;rw[this];exact hp
theorem EY(hn:rs.flatten.Nodup) {e:Int}(he:e∈rs.flatten):Z.getD (K51.jX (K51.bJ rs)) (.inl e)=some (.int (nx rs e)):=nA (wX hn) (sC hn he)
theorem qX(hn:rs.flatten.Nodup) {e:Int}(he:e∈rs.flatten):nx rs e∈rs.flatten:=(K51.oU rs).mem_iff.mp (mMq.mpr ⟨_,sC hn he,rfl⟩)
theorem Ht(hn:rs.flatten.Nodup) {a b:Int}(ha:a∈rs.flatten) (hb:b∈rs.flatten) (h:nx rs a=nx rs b):a=b:=by
 have h1:=sC hn ha;have h2:=sC hn hb;rw[h]at h1;exact SY.inj (Fv ((K51.oU rs).symm.nodup hn) h1 h2)
theorem lK(hm:Mp rs):zP (fw rs) rs.flatten:=⟨hm.hn,fun e he=>qX hm.hn (hm.hneg e he),fun a ha b hb h=>by
 have:=Ht hm.hn (hm.hneg a ha) (hm.hneg b hb) h;lia⟩
def stp(rs:List (List Int)) (E:List Int):List (aX×D):=E.map fun e=>(SY e,.int (fw rs e))
theorem Jo(hn:rs.flatten.Nodup) {e:Int}(he:e∈rs.flatten):Z.getD (stp rs rs.flatten) (.inl e)=some (.int (fw rs e)):=by
 have h:=nA (ps:=rs.flatten.map fun e=>(SY e,fw rs e)) (k:=.inl e) (n:=fw rs e) (by
  rw[mPq,Su,S8];exact Sy.imp (fun h e=>h (SY.inj e)) (Su.mp hn)) (mMq.mpr ⟨e,he,rfl⟩)
 unfold K51.jX at h;rw[mPq]at h;exact h
theorem KA(rs:List (List Int)):(K51.jX (K51.bJ rs)).map (fun p=>kD p.1)=rs.flatten.map D.int:=by
 have:(K51.jX (K51.bJ rs)).map (fun p=>kD p.1)=((K51.bJ rs).map (·.1)).map kD:=by
  unfold K51.jX;rw[mPq,mPq];rfl
 rw[this,K51.gV,mPq];rfl
theorem AL(hm:Mp rs):kC [dM rs]=some (.owd (stp rs rs.flatten)):=by
 have nk:=K51.HK hm.hn hm.hl;have hl:=hm.hl;have key:=fS (x:=3) (body:=kU) (fun i S=>∃v3,S=[some (.sh (dM rs)),some (.sh (.fd (K51.jX (K51.bJ rs)))),some (.owd (stp rs (rs.flatten.take i))),v3]) (ds:=rs.flatten.map D.int) (S:=[some (.sh (dM rs)),some (.sh (.fd (K51.jX (K51.bJ rs)))),some (.owd []),none]) ⟨none,rfl⟩ (by
  rintro i d S hd ⟨v3,rfl⟩;rw[gMq]at hd;obtain⟨e,he,rfl⟩:=oMq.mp hd;have hi:=(gSq.mp he).1;have hme:=mGq he;have hg:=EY hm.hn (hm.hneg e hme);have l1:(stp rs (rs.flatten.take i)).length<cX:=by unfold stp;rw[lMq,lTq];show _<16777216;lia
  have hp:mN (stp rs (rs.flatten.take i)) (.inl e) (.int (nx rs (-e)))=stp rs (rs.flatten.take (i+1)):=by
   rw[pI]
   .unfold stp;rw[bU he,mBq];rfl
   .intro m;obtain⟨p,hp,e1⟩:=mMq.mp m;obtain⟨x,hx,rfl⟩:=mMq.mp hp;have e2:x=e:=SY.inj e1;subst e2;have:=Sy.sublist (Tj (i+1) rs.flatten) hm.hn;rw[bU he]at this;exact(nAq.mp this).2.2 x hx x (by simp) rfl
  refine⟨_,?_,some (.sh (.int e)),rfl⟩
  simp_arith [kU,hg,l1,hp])
 obtain⟨S',e,v3,rfl⟩:=key;rw[lMq,Tg]at e;have kk:=KA rs;have q31:((3:Nat)≠1)=True:=by simp
 simp_arith [kC,uk,nk,q31,kk,e]
noncomputable def mu(N:Nat):AS->Nat
 | [_,_,some (.ow l),_]=>N+1-l.length
 |_=>0
theorem IZ(f:Int->Int) (e:Int) (n:Nat):((To n).map fun k=>itr f k e)++[itr f n e]=(To (n+1)).map fun k=>itr f k e:=by rw[List.range_succ,mBq];rfl
theorem J9(hm:Mp rs) {e:Int}(he:e∈rs.flatten):∃l,Cy (fw rs) e l/\l.length<=rs.flatten.length/\fY [.dict (stp rs rs.flatten),.int e]=some (aI l):=by
 have one:=lK hm;obtain⟨l,cy,hle,hmin⟩:=one.cy he;have hl:=hm.hl;refine⟨l,cy,hle,?_⟩;have hst:∀n,Z.getD (stp rs rs.flatten) (.inl (itr (fw rs) n e))=some (.int (itr (fw rs) (n+1) e)):=fun n=>Jo hm.hn (one.itr_mem he n)
 have key:=iA (c:=dN (bg Dr (aj 3) (aj 1))) (body:=iG) (fun S=>∃n,1<=n/\n<=l.length/\S=[some (.sh (.dict (stp rs rs.flatten))),some (.sh (.int e)),some (aI ((To n).map fun k=>itr (fw rs) k e)),some (.sh (.int (itr (fw rs) n e)))]) (mu l.length) (fun S=>∃v3,S=[some (.sh (.dict (stp rs rs.flatten))),some (.sh (.int e)),some (aI l),v3]) (by
  rintro S ⟨n,h1,h2,rfl⟩
  by_cases hn:n<l.length
  .have hne:¬ itr (fw rs) n e=e:=hmin n (by lia) hn
   have hs:=hst n;have l1:n<cX:=by show _<16777216;lia
   have ap:((To n).map fun k=>itr (fw rs) k e).map (fun n=>AV.sh (.int n))++[.sh (.int (itr (fw rs) n e))]=((To (n+1)).map fun k=>itr (fw rs) k e).map fun n=>.sh (.int n):=by rw[←IZ,mBq];rfl
   refine⟨true,[some (.sh (.dict (stp rs rs.flatten))),some (.sh (.int e)),some (aI ((To n).map fun k=>itr (fw rs) k e)),some (.sh (.int (itr (fw rs) n e)))],?_,fun _=>⟨[some (.sh (.dict (stp rs rs.flatten))),some (.sh (.int e)),some (aI ((To (n+1)).map fun k=>itr (fw rs) k e)),some (.sh (.int (itr (fw rs) (n+1) e)))],?_,⟨n+1,by lia,by lia,rfl⟩,?_⟩,fun q=>(nomatch q)⟩
   .simp_arith [hne]
   .simp_arith [iG,Te,l1,ap,hs]
   .show l.length+1-_<l.length+1-_;simp only[lMq,Te];lia
  .have en:n=l.length:=by lia
   subst en;have hb:=cy.back;have hg:=cy.get;refine⟨false,[some (.sh (.dict (stp rs rs.flatten))),some (.sh (.int e)),some (aI ((To l.length).map fun k=>itr (fw rs) k e)),some (.sh (.int (itr (fw rs) l.length e)))],?_,fun q=>(nomatch q),fun _=>⟨some (.sh (.int (itr (fw rs) l.length e))),by rw[←hg]⟩⟩
   simp_arith [hb])
 have h0:=hst 0;have e0:[AV.sh (.int e)]=((To 1).map fun k=>itr (fw rs) k e).map fun n=>.sh (.int n):=rfl
 obtain⟨S',ew,v3,rfl⟩:=key 100000 [some (.sh (.dict (stp rs rs.flatten))),some (.sh (.int e)),some (.ow [.sh (.int e)]),some (.sh (.int (itr (fw rs) (0+1) e)))] ⟨1,Sg _,cy.len,rfl⟩ (by
  show l.length+1-1<100000;lia)
 have h0':Z.getD (stp rs rs.flatten) (.inl e)=some (.int (itr (fw rs) (0+1) e)):=h0
 simp_arith [fY,oj,h0',ew]
end
end K15
--ZQ3 --ZQ4 --ZQ5 --ZQ6 --ZQ8 --ZQ9 --ZQB --ZQC --ZQD --ZQE --ZQF
namespace K15
open PySem L2 Mr Z Xe Zl
noncomputable def kI(ks:List Int):List (aX×D):=ks.map fun k=>((SY k:aX),D.bl true)
theorem Fm(ks:List Int) (t:Int):(kI ks).any (fun kv=>decide (kv.1=(SY t:aX)))=decide (t∈ks):=by
 induction ks with
 |nil=>simp[kI]
 |cons k ks ih =>
  unfold kI at ih ⊢;rw[Sq,UH,ih]
  by_cases h:t=k
  .subst h;simp
  .have h':¬ (SY k:aX)=SY t:=fun q=>h (SY.inj q).symm
   simp[h',h]
theorem ud(ks:List Int) (t:Int):(Z.getD (kI ks) (SY t)).isSome=decide (t∈ks):=by
 unfold Z.getD;rw[Vp,←Fm,T3,WS,V8]
theorem A0{ks:List Int}{t:Int}(h:t∉ks):mN (kI ks) (SY t) (.bl true)=kI (ks++[t]):=by
 unfold mN;rw[Fm,decide_eq_false h,if_neg (by simp)]
 simp[kI]
theorem Ah(ks:List Int):(kI ks).length=ks.length:=by unfold kI;rw[lMq]
section
variable {rs:List (List Int)}
structure Rd (f:Int->Int) (E:List Int) (kn:List Int) (L:List (List Int)):Prop where
 cy:∀l∈L,∃e,Cy f e l
 fl:L.flatten=kn
 nd:kn.Nodup
 sub:∀x∈kn,x∈E
 cl:∀x∈kn,f x∈kn
theorem Rd.itr{f:Int->Int}{E kn:List Int}{L:List (List Int)}(h:Rd f E kn L) {x:Int}(hx:x∈kn):∀n,itr f n x∈kn
 |0=>hx
 |n+1=>h.cl _ (h.itr hx n)
theorem Rd.out{f:Int->Int}{E kn:List Int}{L:List (List Int)}(h:Rd f E kn L) {e:Int}{l:List Int}(c:Cy f e l) (he:e∉kn):∀x∈l,x∉kn:=by
 intro x hx hk;obtain⟨j,hj⟩:=Sw.mp hx;have hlt:=(gSq.mp hj).1;rw[c.at hlt]at hj;have e1:=Sz.inj hj;subst e1;have:=h.itr hk (l.length-j);rw[←mq,show l.length-j+j=l.length by lia,c.back]at this
 exact he this
theorem Rd.add{f:Int->Int}{E kn:List Int}{L:List (List Int)}(hf:zP f E) (h:Rd f E kn L) {e:Int}{l:List Int}(c:Cy f e l) (heE:e∈E) (he:e∉kn):Rd f E (kn++l) (L++[l]):=by
 have ho:=h.out c he;refine⟨fun m hm=>?_,by rw[fAq,h.fl,SZ],?_,fun x hx=>?_,fun x hx=>?_⟩
 .rcases mAq.mp hm with q|q
  .exact h.cy m q
  .rw [mSq.mp q];exact⟨e,c⟩
 .rw [nAq];exact⟨h.nd,c.nd,fun a ha b hb q=>ho b hb (q ▸ ha)⟩
 .rcases mAq.mp hx with q|q
  .exact h.sub x q
  .rw [c.get]at q;obtain⟨n,_,rfl⟩:=mMq.mp q;exact hf.itr_mem heE n
 .rcases mAq.mp hx with q|q
  .exact mAq.mpr (.inl (h.cl x q))
  .refine mAq.mpr (.inr ?_);obtain⟨j,hj⟩:=Sw.mp q;have hlt:=(gSq.mp hj).1;rw[c.at hlt]at hj;rw[←Sz.inj hj];show Zl.itr f (j+1) e∈l
   by_cases hj2:j+1<l.length
   .exact mGq (c.at hj2)
   .rw [show j+1=l.length by lia,c.back]
    exact c.self
theorem Rd.orb{f:Int->Int}{E kn:List Int}{L:List (List Int)}(h:Rd f E kn L) (hall:∀x∈E,x∈kn):xg f E L:=⟨h.cy,by rw[h.fl];exact h.nd,fun x=>by rw[h.fl];exact⟨h.sub x,hall x⟩⟩
noncomputable def ee(rs:List (List Int)):List (List Int):=(rs.filter fun r=>decide (r=[])).map fun _=>[]
theorem HB(rs:List (List Int)):dJ (dN (bg xZ (fA cS (ah (aj 0) ax)) (rC (.int 0)))) (dD aN) [] (rs.map dI)=some ((ee rs).map aI):=by
 rw[Z.iD (fun d=>decide (mw d=[])) (fun _=>.ow [])]
 .unfold ee;rw[VJ,mPq,mPq];have:(fun d=>decide (mw d=[]))∘dI=fun r=>decide (r=[]):=by funext r;show decide (mw (dI r)=[])=_;rw[gq]
  rw[this];rfl
 .intro d hd;obtain⟨r,hr,rfl⟩:=oy hd;rw[gq];refine⟨[some (.sh (dI r))],?_,fun _=>⟨[some (.sh (dI r))],?_⟩⟩
  .by_cases h:r=[]
   .subst h;have z:((0:Nat):Int)=0:=rfl
    simp_arith [dI,z]
   .have h':¬ ((r.length:Nat):Int)=0:=fun q=>h (TQ.mp (by lia))
    simp_arith [dI,h',h]
  .simp_arith []
theorem C2{kn l:List Int}{v0 v1 v3 v4 v5 v6:Option AV}(hn:(kn++l).Nodup) (hl:kn.length+l.length<500000):∃v6',dg 6 kY (l.map D.int) [v0,v1,some (.owd (kI kn)),v3,v4,v5,v6]=some (.nx [v0,v1,some (.owd (kI (kn++l))),v3,v4,v5,v6']):=by
 have key:=fS (x:=6) (body:=kY) (fun i S=>∃v6',S=[v0,v1,some (.owd (kI (kn++l.take i))),v3,v4,v5,v6']) (ds:=l.map D.int) (S:=[v0,v1,some (.owd (kI kn)),v3,v4,v5,v6]) ⟨v6,by simp⟩ (by
  rintro i d S hd ⟨v6',rfl⟩;rw[gMq]at hd;obtain⟨e,he,rfl⟩:=oMq.mp hd;have hi:=(gSq.mp he).1;have hnew:e∉kn++l.take i:=fun m=>by
   have h2:(kn++l.take (i+1)).Nodup:=Sy.sublist (T9.append (T9.refl kn) (Tj (i+1) l)) hn;rw[bU he,←Sk]at h2;exact(nAq.mp h2).2.2 e m e (by simp) rfl
  have hp:=A0 hnew;rw[Sk,←bU he]at hp;have l1:(kI (kn++l.take i)).length<cX:=by rw[Ah,lAq,lTq];show _<16777216;lia
  refine⟨_,?_,some (.sh (.int e)),rfl⟩
  simp_arith [kY,l1,hp])
 obtain⟨S',e,v6',rfl⟩:=key;rw[lMq,Tg]at e;exact⟨v6',e⟩
def ve(B L:List (List Int)):AV:=.ow (B.map aI++L.map fun l=>.sh (dI l))
theorem AQ(hm:Mp rs):∃v1 v2 v4 v5 v6 L,dg 4 jt ((ff rs.flatten).map D.int) [some (.sh (dM rs)),some (.owd (stp rs rs.flatten)),some (.owd []),some (ve (ee rs) []),none,none,none]=some (.nx [some (.sh (dM rs)),v1,v2,some (ve (ee rs) L),v4,v5,v6])/\xg (fw rs) rs.flatten L:=by
 have one:=lK hm;have hl:=hm.hl;have h1000:=hm.hr;have pS:=gP rs.flatten;have key:=fS (x:=4) (body:=jt) (fun i S=>∃kn L v1 v4 v5 v6,S=[some (.sh (dM rs)),some v1,some (.owd (kI kn)),some (ve (ee rs) L),v4,v5,v6]/\aH v1 = .dict (stp rs rs.flatten)/\(∀x,v1=x->(x = .owd (stp rs rs.flatten)∨x = .sh (.dict (stp rs rs.flatten))))/\Rd (fw rs) rs.flatten kn L/\L.length<=i/\∀j x,j<i->(ff rs.flatten)[j]?=some x->x∈kn) (ds:=(ff rs.flatten).map D.int) (S:=[some (.sh (dM rs)),some (.owd (stp rs rs.flatten)),some (.owd []),some (ve (ee rs) []),none,none,none]) ⟨[],[],.owd (stp rs rs.flatten),none,none,none,rfl,rfl,fun x h=>.inl h.symm,⟨by simp,rfl,Tc,by simp,by simp⟩,Sg _,fun j x h=>absurd h (Uc _)⟩ (by
  rintro i d S hd ⟨kn,L,v1,v4,v5,v6,rfl,hv1,hv1',hr,hLl,hall⟩;rw[gMq]at hd;obtain⟨e,he,rfl⟩:=oMq.mp hd;have hiS:=(gSq.mp he).1;rw[pS.length_eq]at hiS;have heE:e∈rs.flatten:=pS.mem_iff.mp (mGq he);have hg:=ud kn e
  by_cases c:e∈kn
  .rw [decide_eq_true c]at hg;refine⟨[some (.sh (dM rs)),some v1,some (.owd (kI kn)),some (ve (ee rs) L),some (.sh (.int e)),v5,v6],?_,kn,L,v1,_,_,_,rfl,hv1,hv1',hr,by lia,fun j x hj hx=>?_⟩
   .simp_arith [jt,hg]
   .rcases T6.mp hj with q|rfl
    .exact hall j x q hx
    .rw [he]at hx;cases hx;exact c
  .rw [decide_eq_false c]at hg;obtain⟨l,cy,hle,eg⟩:=J9 hm heE;have hr2:=hr.add one cy heE c;have knl:=Aj _ _ hr.nd hr.sub;obtain⟨v6',em⟩:=C2 (kn:=kn) (l:=l) (v0:=some (.sh (dM rs))) (v1:=some (.sh (.dict (stp rs rs.flatten)))) (v3:=some (ve (ee rs) L)) (v4:=some (.sh (.int e))) (v5:=some (.sh (dI l))) (v6:=v6) hr2.nd (by lia)
   have sl:=bu l;have lb:(ee rs).length<=rs.length:=by unfold ee;rw[lMq];exact Um _ _
   have l1:((ee rs).map aI++L.map fun l=>AV.sh (dI l)).length<cX:=by rw[lAq,lMq,lMq];show _<16777216;lia
   have ea:((ee rs).map aI++L.map fun l=>AV.sh (dI l))++[.sh (dI l)]=(ee rs).map aI++(L++[l]).map fun l=>.sh (dI l):=by rw[Sk,mBq];rfl
   refine⟨[some (.sh (dM rs)),some (.sh (.dict (stp rs rs.flatten))),some (.owd (kI (kn++l))),some (ve (ee rs) (L++[l])),some (.sh (.int e)),some (.sh (dI l)),v6'],?_,kn++l,L++[l],.sh (.dict (stp rs rs.flatten)),_,_,_,rfl,rfl,fun x h=>.inr h.symm,hr2,by rw[lAq,lSq];lia,fun j x hj hx=>?_⟩
   .unfold ve at em ⊢
    simp_arith [jt,hg,hv1,eg,sl,em,l1,ea]
   .rcases T6.mp hj with q|rfl
    .exact mAq.mpr (.inl (hall j x q hx))
    .rw [he]at hx;cases hx;exact mAq.mpr (.inr cy.self))
 obtain⟨S',e,kn,L,v1,v4,v5,v6,rfl,_,_,hr,_,hall⟩:=key;refine⟨_,_,_,_,_,L,e,hr.orb fun x hx=>?_⟩
 obtain⟨j,hj⟩:=Sw.mp (pS.mem_iff.mpr hx);exact hall j x (by rw[lMq];exact(gSq.mp hj).1) hj
theorem oP(rs:List (List Int)):(ee rs).length<=rs.length:=by unfold ee;rw[lMq];exact Um _ _
theorem vG(B L:List (List Int)):aH (ve B L)=dM (B++L):=by
 unfold ve;rw[dR,mBq,mPq,mPq];show D.list _=D.list ((B++L).map dI);rw[mBq];congr 2
 .exact mCq fun r _=>bu r
theorem sH(hm:Mp rs) {L:List (List Int)}(h:xg (fw rs) rs.flatten L):(∀l∈L,l.length<=1000)/\L.length<=1000:=by
 have p:L.flatten.Perm rs.flatten:=(Tb h.dj hm.hn).mpr h.all;have hl:=hm.hl;refine⟨fun l hl'=>?_,?_⟩
 .have:=T9.length_le (SG hl');rw[p.length_eq]at this;lia
 .have:∀{L:List (List Int)},(∀l∈L,1<=l.length)->L.length<=L.flatten.length:=fun {L} h=>by
   induction L with
   |nil=>exact Sg _
   |cons a L ih =>
    have h1:=h a (Ss ..);have h2:=ih fun l hl=>h l (mCo _ hl)
    rw[lCq,fCq,lAq];lia
  have:=this (L:=L) fun l hl=>by obtain⟨e,c⟩:=h.cy l hl;exact c.len
  rw[p.length_eq]at this;lia
theorem jv(hm:Mp rs):∃L,xg (fw rs) rs.flatten L/\cP [dM rs]=some (.ow ((eK ((ee rs++L).map good)).map aI)):=by
 obtain⟨v1,v2,v4,v5,v6,L,e,ho⟩:=AQ hm;have hl:=hm.hl;have h1000:=hm.hr;have ow:=AL hm;have bc:=HB rs;have en:=BN (rs:=rs) (by lia)
 have lr:rs.length<=cX:=by show _<=16777216;lia
 have e0:AV.ow ((ee rs).map aI)=ve (ee rs) []:=by unfold ve;rw[UZ,aNq]
 have st:=vG (ee rs) L;obtain⟨o1,o2⟩:=sH hm ho;have bl:=oP rs;have ig:=kN (rs:=ee rs++L) (fun r hr=>by
  rcases mAq.mp hr with q|q
  .unfold ee at q;obtain⟨x,_,rfl⟩:=mMq.mp q;exact Tf _
  .have:=o1 r q;lia) (by rw[lAq];show _<=16777216;lia)
 refine⟨L,ho,?_⟩;have sE:=bu (ff rs.flatten)
 simp_arith [cP,yD,ow,dM,bc,lr,e0,en,sE,dI,e,st,ig]
end
end K15
--ZQ3 --ZQ4 --ZQ5 --ZQ6 --ZQ8 --ZQ9 --ZQB --ZQC --ZQD --ZQE --ZQF
namespace K15
open PySem L2 Mr Z Xe Zl
section
variable {rs:List (List Int)}
theorem FY{r:List Int}{j:Nat}(hj:j<r.length):(K51.rot r)[j]?=r[(j+1) % r.length]?:=by
 unfold K51.rot
 by_cases h:j+1<r.length
 .rw [Uo h,gZq (by rw[SE];lia),U2,Wb]
 .have e:j+1=r.length:=by lia
  rw[e,U1,gYq (by rw[SE];lia),SE,UO (by lia)]
  congr 1;lia
theorem DA(hm:Mp rs):kP [dM rs]=some (.owd (K51.jX (K51.bJ rs))):=by
 have hn:=hm.hn;have hl:=hm.hl;have key:=fS (x:=2) (body:=lU) (fun i S=>∃v2 v3,S=[some (.sh (dM rs)),some (.owd (K51.jX (K51.bJ (rs.take i)))),v2,v3]) (ds:=rs.map dI) (S:=[some (.sh (dM rs)),some (.owd []),none,none]) ⟨none,none,rfl⟩ (by
  rintro i d S hd ⟨v2,v3,rfl⟩;obtain⟨r,hr,rfl⟩:=nP hd;have hrl:=hm.row hr;have k2:=fS (x:=3) (body:=mD) (fun j S=>∃v3,S=[some (.sh (dM rs)),some (.owd (K51.jX (K51.bJ (rs.take i)++(K51.dz r).take j))),some (.sh (dI r)),v3]) (ds:=cm 0 r.length) (S:=[some (.sh (dM rs)),some (.owd (K51.jX (K51.bJ (rs.take i)))),some (.sh (dI r)),v3]) ⟨v3,by simp⟩ (by
   rintro j d S hd ⟨v3,rfl⟩;have hj:j<r.length:=by
    have:=(gSq.mp hd).1
    rwa [cV]at this
   rw[lW hj,WM]at hd;cases hd;have hz:r[j]?=some r[j]:=gEg hj;have hm2:(j+1) % r.length<r.length:=VQ _ (by lia)
   have hy:(K51.rot r)[j]?=some r[(j+1) % r.length]:=by rw[FY hj];exact gEg hm2
   have h3:=K51.vK (j:=j) hl hr;have hput:=K51.yE hn hr hz hy;have a1:atI (r.map D.int) (j:Int)=some (.int r[j]):=nU (by rw[gMq,hz];rfl)
   have md:=fe (i:=(j:Int)+1) (j:=(r.length:Int)) (by lia)
   have em:((j:Int)+1) % (r.length:Int)=(((j+1) % r.length:Nat):Int):=by push_cast;rfl
   rw[em]at md;have a2:atI (r.map D.int) (((j+1) % r.length:Nat):Int)=some (.int r[(j+1) % r.length]):=nU (by rw[gMq,gEg hm2];rfl)
   refine⟨_,?_,some (.sh (.int (j:Int))),rfl⟩
   simp_arith [mD,dI,a1,md,a2,h3,hput])
  obtain⟨S2,e2,w3,rfl⟩:=k2;rw[cV,←K51.jK,Tg]at e2;have rg:vq [.int (r.length:Int)]=some (cm 0 r.length):=mC (by lia)
  rw[K51.jK]at e2;refine⟨_,?_,some (.sh (dI r)),w3,rfl⟩;rw[bU hr,K51.tU]
  simp_arith [lU,dI,rg,e2])
 obtain⟨S',e,v2,v3,rfl⟩:=key;rw[lMq,Tg]at e
 simp_arith [kP,tQ,e]
theorem CS(rs:List (List Int)):dJ (eQ (sX (aj 0))) (dD aN) [] (rs.map dI)=some ((ee rs).map aI):=by
 rw[Z.iD (fun d=>decide (mw d=[])) (fun _=>.ow [])]
 .unfold ee;rw[VJ,mPq,mPq];have:(fun d=>decide (mw d=[]))∘dI=fun r=>decide (r=[]):=by funext r;show decide (mw (dI r)=[])=_;rw[gq]
  rw[this];rfl
 .intro d hd;obtain⟨r,hr,rfl⟩:=oy hd;rw[gq];refine⟨[some (.sh (dI r))],?_,fun _=>⟨[some (.sh (dI r))],?_⟩⟩
  .cases r with
   |nil =>
    have t0:qH (dI [])=some false:=rfl
    simp_arith [t0]
   |cons x r =>
    have t1:qH (dI (x::r))=some true:=rfl
    simp_arith [t1]
  .simp_arith []
noncomputable def R6(N:Nat):AS->Nat
 | [_,_,_,_,_,some (.ow l),_]=>N+1-l.length
 |_=>0
theorem Gx(hm:Mp rs) {hv:List Int}{L0:List (List Int)}(hr:Rd (fw rs) rs.flatten hv L0) {e:Int}(heE:e∈rs.flatten) (he:e∉hv) {v0 v3:Option AV}:∃l v6,Cy (fw rs) e l/\dq (dN (eI (aj 6) (aj 2))) iW 100000 [v0,some (.sh (.fd (K51.jX (K51.bJ rs)))),some (.owd (kI hv)),v3,some (.sh (.int e)),some (.ow []),some (.sh (.int e))]=some (.nx [v0,some (.sh (.fd (K51.jX (K51.bJ rs)))),some (.owd (kI (hv++l))),v3,some (.sh (.int e)),some (aI l),v6]):=by
 have one:=lK hm;obtain⟨l,cy,hle,hmin⟩:=one.cy heE;have hl:=hm.hl;have hvl:=Aj _ _ hr.nd hr.sub;have ho:=hr.out cy he;have hst:∀n,Z.getD (K51.jX (K51.bJ rs)) (.inl (-(itr (fw rs) n e)))=some (.int (itr (fw rs) (n+1) e)):=fun n=>EY hm.hn (hm.hneg _ (one.itr_mem heE n))
 have key:=iA (c:=dN (eI (aj 6) (aj 2))) (body:=iW) (fun S=>∃n,n<=l.length/\S=[v0,some (.sh (.fd (K51.jX (K51.bJ rs)))),some (.owd (kI (hv++l.take n))),v3,some (.sh (.int e)),some (aI (l.take n)),some (.sh (.int (itr (fw rs) n e)))]) (R6 l.length) (fun S=>∃v6,S=[v0,some (.sh (.fd (K51.jX (K51.bJ rs)))),some (.owd (kI (hv++l))),v3,some (.sh (.int e)),some (aI l),v6]) (by
  rintro S ⟨n,h2,rfl⟩;have hg:=ud (hv++l.take n) (itr (fw rs) n e)
  by_cases hn:n<l.length
  .have hat:=cy.at hn;have hnew:itr (fw rs) n e∉hv++l.take n:=fun m=>by
    rcases mAq.mp m with q|q
    .exact ho _ (mGq hat) q
    .have:=Sy.sublist (Tj (n+1) l) cy.nd;rw[bU hat]at this;exact(nAq.mp this).2.2 _ q _ (by simp) rfl
   rw[decide_eq_false hnew]at hg;have hp:=A0 hnew;rw[Sk,←bU hat]at hp;have hs:=hst n;have l1:(kI (hv++l.take n)).length<cX:=by rw[Ah,lAq,lTq];show _<16777216;lia
   have l2:(l.take n).length<cX:=by rw[lTq];show _<16777216;lia
   have ap:(l.take n).map (fun n=>AV.sh (.int n))++[.sh (.int (itr (fw rs) n e))]=(l.take (n+1)).map fun n=>.sh (.int n):=by rw[bU hat,mBq];rfl
   refine⟨true,[v0,some (.sh (.fd (K51.jX (K51.bJ rs)))),some (.owd (kI (hv++l.take n))),v3,some (.sh (.int e)),some (aI (l.take n)),some (.sh (.int (itr (fw rs) n e)))],?_,fun _=>⟨[v0,some (.sh (.fd (K51.jX (K51.bJ rs)))),some (.owd (kI (hv++l.take (n+1)))),v3,some (.sh (.int e)),some (aI (l.take (n+1))),some (.sh (.int (itr (fw rs) (n+1) e)))],?_,⟨n+1,by lia,rfl⟩,?_⟩,fun q=>(nomatch q)⟩
   .simp_arith [hg]
   .simp_arith [iW,l1,hp,l2,ap,hs]
   .show l.length+1-_<l.length+1-_;simp only[lMq,lTq];lia
  .have en:n=l.length:=by lia
   subst en;have hb:=cy.back;rw[hb,Tg]at hg ⊢;rw[decide_eq_true (mAq.mpr (.inr cy.self))]at hg;refine⟨false,[v0,some (.sh (.fd (K51.jX (K51.bJ rs)))),some (.owd (kI (hv++l))),v3,some (.sh (.int e)),some (aI l),some (.sh (.int e))],?_,fun q=>(nomatch q),fun _=>⟨_,rfl⟩⟩
   simp_arith [hg])
 obtain⟨S',ew,v6,rfl⟩:=key 100000 [v0,some (.sh (.fd (K51.jX (K51.bJ rs)))),some (.owd (kI hv)),v3,some (.sh (.int e)),some (.ow []),some (.sh (.int e))] ⟨0,Tf _,by simp[itr]⟩ (by
  show l.length+1-0<100000;lia)
 exact⟨l,v6,cy,ew⟩
theorem yA(hm:Mp rs):∃v2 v4 v5 v6 L,dg 4 fV (rs.flatten.map D.int) [some (.sh (dM rs)),some (.sh (.fd (K51.jX (K51.bJ rs)))),some (.owd []),some (ve (ee rs) []),none,none,none]=some (.nx [some (.sh (dM rs)),some (.sh (.fd (K51.jX (K51.bJ rs)))),v2,some (ve (ee rs) L),v4,v5,v6])/\xg (fw rs) rs.flatten L:=by
 have one:=lK hm;have hl:=hm.hl;have h1000:=hm.hr;have key:=fS (x:=4) (body:=fV) (fun i S=>∃hv L v4 v5 v6,S=[some (.sh (dM rs)),some (.sh (.fd (K51.jX (K51.bJ rs)))),some (.owd (kI hv)),some (ve (ee rs) L),v4,v5,v6]/\Rd (fw rs) rs.flatten hv L/\L.length<=i/\∀j x,j<i->rs.flatten[j]?=some x->x∈hv) (ds:=rs.flatten.map D.int) (S:=[some (.sh (dM rs)),some (.sh (.fd (K51.jX (K51.bJ rs)))),some (.owd []),some (ve (ee rs) []),none,none,none]) ⟨[],[],none,none,none,rfl,⟨by simp,rfl,Tc,by simp,by simp⟩,Sg _,fun j x h=>absurd h (Uc _)⟩ (by
  rintro i d S hd ⟨hv,L,v4,v5,v6,rfl,hr,hLl,hall⟩;rw[gMq]at hd;obtain⟨e,he,rfl⟩:=oMq.mp hd;have hi:=(gSq.mp he).1;have heE:e∈rs.flatten:=mGq he;have hg:=ud hv e
  by_cases c:e∈hv
  .rw [decide_eq_true c]at hg;refine⟨[some (.sh (dM rs)),some (.sh (.fd (K51.jX (K51.bJ rs)))),some (.owd (kI hv)),some (ve (ee rs) L),some (.sh (.int e)),v5,v6],?_,hv,L,_,_,_,rfl,hr,by lia,fun j x hj hx=>?_⟩
   .simp_arith [fV,hg]
   .rcases T6.mp hj with q|rfl
    .exact hall j x q hx
    .rw [he]at hx;cases hx;exact c
  .rw [decide_eq_false c]at hg;obtain⟨l,v6',cy,ew⟩:=Gx hm hr heE c (v0:=some (.sh (dM rs))) (v3:=some (ve (ee rs) L));have hr2:=hr.add one cy heE c;have sl:=bu l;have lb:=oP rs;have l1:((ee rs).map aI++L.map fun l=>AV.sh (dI l)).length<cX:=by rw[lAq,lMq,lMq];show _<16777216;lia
   have ea:((ee rs).map aI++L.map fun l=>AV.sh (dI l))++[.sh (dI l)]=(ee rs).map aI++(L++[l]).map fun l=>.sh (dI l):=by rw[Sk,mBq];rfl
   refine⟨[some (.sh (dM rs)),some (.sh (.fd (K51.jX (K51.bJ rs)))),some (.owd (kI (hv++l))),some (ve (ee rs) (L++[l])),some (.sh (.int e)),some (.sh (dI l)),v6'],?_,hv++l,L++[l],_,_,_,rfl,hr2,by rw[lAq,lSq];lia,fun j x hj hx=>?_⟩
   .unfold ve at ew ⊢
    simp_arith [fV,hg,ew,sl,l1,ea]
   .rcases T6.mp hj with q|rfl
    .exact mAq.mpr (.inl (hall j x q hx))
    .rw [he]at hx;cases hx;exact mAq.mpr (.inr cy.self))
 obtain⟨S',e,hv,L,v4,v5,v6,rfl,hr,_,hall⟩:=key;refine⟨_,_,_,_,L,e,hr.orb fun x hx=>?_⟩
 obtain⟨j,hj⟩:=Sw.mp hx;exact hall j x (by rw[lMq];exact(gSq.mp hj).1) hj
theorem vR(hm:Mp rs):∃L,xg (fw rs) rs.flatten L/\fN [dM rs]=some (.ow ((eK ((ee rs++L).map good)).map aI)):=by
 obtain⟨v2,v4,v5,v6,L,e,ho⟩:=yA hm;have hl:=hm.hl;have h1000:=hm.hr;have nk:=DA hm;have kk:=KA rs;have bc:=CS rs;have lr:rs.length<=cX:=by show _<=16777216;lia
 have e0:AV.ow ((ee rs).map aI)=ve (ee rs) []:=by unfold ve;rw[UZ,aNq]
 have st:=vG (ee rs) L;obtain⟨o1,o2⟩:=sH hm ho;have bl:=oP rs;have mo:=K13.Hh (rs:=ee rs++L) (fun r hr=>by
  rcases mAq.mp hr with q|q
  .unfold ee at q;obtain⟨x,_,rfl⟩:=mMq.mp q;exact Tf _
  .have:=o1 r q;lia) (by rw[lAq];show _<=16777216;lia)
 refine⟨L,ho,?_⟩;have q41:((4:Nat)≠1)=True:=by simp
 simp_arith [fN,sY,nk,dM,bc,lr,e0,q41,kk,e,st,mo]
theorem Ad(hm:Mp rs):∃G:List (List Int),cP [dM rs]=some (.ow (G.map aI))/\fN [dM rs]=some (.ow (G.map aI))/\G.flatten.Perm rs.flatten/\G.length<=1000+rs.length:=by
 obtain⟨L,o1,e1⟩:=jv hm;obtain⟨M,o2,e2⟩:=vR hm;have hp:((ee rs++L).map good).Perm ((ee rs++M).map good):=by
  rw[mBq,mBq];exact TN.append_left _ (o1.perm (lK hm) o2)
 refine⟨eK ((ee rs++L).map good),e1,by rw[e2,nR hp],?_,?_⟩
 .refine (cO (aS _)).trans ((bb bA _).trans ?_);have pL:L.flatten.Perm rs.flatten:=(Tb o1.dj hm.hn).mpr o1.all;have hb:(ee rs).flatten=[]:=by
   unfold ee;refine Uy.mpr fun l hl=>?_
   obtain⟨x,_,rfl⟩:=mMq.mp hl;rfl
  rw[fAq,hb,T5];exact pL
 .have:=(sH hm o1).2;have:=oP rs;rw[cJ,lMq,lAq];lia
end
end K15
--ZQ3 --ZQ4 --ZQ5 --ZQ6 --ZQ8 --ZQ9 --ZQB --ZQC --ZQD --ZQE --ZQF
namespace K16
open PySem L2 Mr Z Xe Zl
theorem IJ{i j:Int}(h:0<j) (h2:j.natAbs.log2<9000):FI (.int i) (.int j)=some (.int (i / j)):=hX ⟨h,h2⟩ _
theorem O2:rX (.int 10) (.int 57)=some (.int (10 ^ 57)):=by simp_arith []
theorem NO:rX (.int 10) (.int 59)=some (.int (10 ^ 59)):=by simp_arith []
noncomputable def pm(l:List Int):List Int:=l.flatMap fun x=>[x, -x]
theorem Js(l:List Int) (x:Int):pm (l++[x])=pm l++[x, -x]:=by unfold pm;rw[WC];simp
theorem GB(l:List Int):(pm l).length=2*l.length:=by
 unfold pm
 induction l with
 |nil=>rfl
 |cons a l ih =>
  rw[WR,lAq,ih,lCq (as:=l)];show 2+_=_;lia
theorem Lq{l:List Int}{z:Int}(h:z∈pm l):-z∈pm l:=by
 unfold pm at h ⊢;rw[VD]at h ⊢;obtain⟨x,hx,hz⟩:=h;refine⟨x,hx,?_⟩;rcases Si.mp hz with e|e
 .rw [e];simp
 .rw [mSq.mp e,Tw];simp
theorem QM{s0 s1:Option AV}{c:Int}{n:Nat}(hn:n<=30):∃c' l last v5,dg 5 lj (cm 0 n) [s0,s1,some (.sh (.int 0)),some (.sh (.int c)),some (.ow []),none,none,none,none,none,none,none,none]=some (.nx [s0,s1,some (.sh (.int last)),some (.sh (.int c')),some (aI (pm l)),v5,none,none,none,none,none,none,none])/\l.length=n/\l.Nodup/\(∀z∈l,1<=z):=by
 have key:=fS (x:=5) (body:=lj) (fun i S=>∃c' l last v5,S=[s0,s1,some (.sh (.int last)),some (.sh (.int c')),some (aI (pm l)),v5,none,none,none,none,none,none,none]/\l.length=i/\l.Nodup/\(∀z∈l,1<=z/\z<=last)/\0<=last) (ds:=cm 0 n) (S:=[s0,s1,some (.sh (.int 0)),some (.sh (.int c)),some (.ow []),none,none,none,none,none,none,none,none])
  ⟨c,[],0,none,rfl,rfl,Tc,fun z hz=>(by cases hz),by decide⟩ (by
  rintro i d S hd ⟨c',l,last,v5,rfl,hl,hnd,hr,h0⟩;have hi:i<n:=by
   have:=(gSq.mp hd).1
   rwa [cV]at this
  have m1:=fe (i:=c') (j:=10 ^ 57) (by decide)
  have m2:=TH c' (b:=10 ^ 57) (by decide)
  have d1:=IJ (i:=c') (j:=10 ^ 57) (by decide) (by decide +kernel)
  have hp:=O2;have l3:(pm l).length+2<=cX:=by rw[GB];show _<=16777216;lia
  generalize hx:last+1+c' % 10 ^ 57=x;have hx1:last+1<=x:=by lia
  have ap:(pm l).map (fun n=>AV.sh (.int n))++[.sh (.int x),.sh (.int (-x))]=(pm (l++[x])).map fun n=>.sh (.int n):=by rw[Js,mBq];rfl
  refine⟨[s0,s1,some (.sh (.int x)),some (.sh (.int (c' / 10 ^ 57))),some (aI (pm (l++[x]))),some (.sh d),none,none,none,none,none,none,none],?_,c' / 10 ^ 57,l++[x],x,some (.sh d),rfl,by rw[lAq,hl];rfl,?_,?_,by lia⟩
  .simp_arith [lj,hp,m1,hx,d1,l3,ap]
  .rw [nAq];refine⟨hnd,by simp,fun a ha b hb e=>?_⟩
   rw[mSq.mp hb]at e;have:=hr a ha;lia
  .intro z hz;rcases mAq.mp hz with hz|hz
   .have:=hr z hz;exact⟨this.1,by lia⟩
   .rw [mSq.mp hz];exact⟨by lia,VT _⟩)
 obtain⟨S',e,c',l,last,v5,rfl,hl,hnd,hr,h0⟩:=key;rw[cV]at hl;exact⟨c',l,last,v5,e,hl,hnd,fun z hz=>(hr z hz).1⟩
noncomputable def rL(M:List (Int×Int)):List (aX×D):=M.map fun p=>(.inl p.1,.int p.2)
theorem Kf(M:List (Int×Int)):(rL M).length=M.length:=lMq _
theorem Jt(M:List (Int×Int)):rL M=K51.jX (M.map fun p=>((SY p.1:aX),p.2)):=by unfold rL K51.jX;rw[mPq];rfl
theorem HL{M:List (Int×Int)}{z x:Int}(h:z∉M.map (·.1)):mN (rL M) (.inl z) (.int x)=rL (M++[(z,x)]):=by
 rw[pI]
 .unfold rL;rw[mBq];rfl
 .intro m;obtain⟨p,hp,e1⟩:=mMq.mp m;obtain⟨q,hq,rfl⟩:=mMq.mp hp;exact h (mMq.mpr ⟨q,hq,SY.inj e1⟩)
theorem erase_map{α β:Type}(f:α->β):∀(l:List α) (k:Nat),(l.map f).eraseIdx k=(l.eraseIdx k).map f
 | [],_=>rfl
 |a::l,0=>rfl
 |a::l,k+1=>by
  rw[Sq,TX,TX,Sq,erase_map f l k]
theorem Qk{E:List Int}{s0 s1 s2 s5:Option AV}{cl:Int}(hE:E.Nodup) (hl:E.length<=60):∃v6 v3 M v8,dg 8 mv (E.map D.int) [s0,s1,s2,some (.sh (.int cl)),some (.sh (dI E)),s5,some (aI E),some (.owd []),none,none,none,none,none]=some (.nx [s0,s1,s2,v3,some (.sh (dI E)),s5,v6,some (.owd (rL M)),v8,none,none,none,none])/\M.map (·.1)=E/\∀p∈M,p.2∈E:=by
 have key:=fS (x:=8) (body:=mv) (fun i S=>∃left cell M v8,S=[s0,s1,s2,some (.sh (.int cell)),some (.sh (dI E)),s5,some (aI left),some (.owd (rL M)),v8,none,none,none,none]/\left.length+i=E.length/\(∀x∈left,x∈E)/\M.map (·.1)=E.take i/\∀p∈M,p.2∈E) (ds:=E.map D.int) (S:=[s0,s1,s2,some (.sh (.int cl)),some (.sh (dI E)),s5,some (aI E),some (.owd []),none,none,none,none,none])
  ⟨E,cl,[],none,rfl,rfl,fun _ h=>h,rfl,fun p hp=>(by cases hp)⟩ (by
  rintro i d S hd ⟨l2,cell,M,v8,rfl,h2,hs,hM,hv⟩;rw[gMq]at hd;obtain⟨z,hz,rfl⟩:=oMq.mp hd;have hi:i<E.length:=(gSq.mp hz).1;have hpos:(0:Int)<((l2.length:Nat):Int):=by lia
  have m1:=fe (i:=cell) (j:=((l2.length:Nat):Int)) hpos;have b0:=TH cell (b:=((l2.length:Nat):Int)) (by lia)
  have b1:=TC cell hpos;obtain⟨k,hk⟩:∃k:Nat,cell % ((l2.length:Nat):Int)=(k:Int):=⟨(cell % ((l2.length:Nat):Int)).toNat,by lia⟩
  have kl:k<l2.length:=by lia
  obtain⟨x,hx⟩:∃x,l2[k]?=some x:=⟨_,gEg kl⟩;have hx':(l2.map fun n=>AV.sh (D.int n))[k]?=some (.sh (.int x)):=by rw[gMq,hx];rfl
  have c1:(0:Int)<=(k:Int):=by lia
  have c2:(k:Int)<((l2.length:Nat):Int):=by lia
  have c3:l2.length<=cX:=by show _<=16777216;lia
  have he:=erase_map (fun n=>AV.sh (D.int n)) l2 k
  have hle:(l2.eraseIdx k).length=l2.length-1:=List.length_eraseIdx_of_lt kl;have d1:=mG (i:=cell) (j:=((l2.eraseIdx k).length:Int)+1) (by lia) (by rw[hle];lia)
  have tn:=Ub k;have hzM:z∉M.map (·.1):=by
   rw[hM];intro m;have:=Sy.sublist (Tj (i+1) E) hE;rw[bU hz]at this;exact(nAq.mp this).2.2 z m z (by simp) rfl
  have hput:=HL (x:=x) hzM;have hlM:(rL M).length<cX:=by
   rw[Kf];have:=congrArg TJ hM;rw[lMq,lTq]at this;show _<16777216;lia
  refine⟨[s0,s1,s2,some (.sh (.int (cell / (((l2.eraseIdx k).length:Int)+1)))),some (.sh (dI E)),s5,some (aI (l2.eraseIdx k)),some (.owd (rL (M++[(z,x)]))),some (.sh (.int z)),none,none,none,none],?_,_,_,_,_,rfl,by rw[hle];lia,fun y hy=>hs y (List.mem_of_mem_eraseIdx hy),?_,?_⟩
  .simp_arith [mv,aI,m1,hk,c1,c2,c3,and_self,tn,hx',he,hlM,hput,d1]
  .rw [bU hz,←hM,mBq];rfl
  .intro p hp;rcases mAq.mp hp with q|q
   .exact hv p q
   .rw [mSq.mp q];exact hs x (mGq hx))
 obtain⟨S',e,left,cell,M,v8,rfl,h2,hs,hM,hv⟩:=key;rw[lMq,Tg]at hM;exact⟨_,_,M,v8,e,hM,hv⟩
theorem kv_get{E:List Int}{M:List (Int×Int)}(hE:E.Nodup) (hM:M.map (·.1)=E) (hv:∀p∈M,p.2∈E) {z:Int}(hz:z∈E):∃y,y∈E/\Z.getD (rL M) (.inl z)=some (.int y):=by
 rw[←hM]at hz;obtain⟨p,hp,rfl⟩:=mMq.mp hz;refine⟨p.2,hv p hp,?_⟩;rw[Jt];refine K15.nA ?_ (mMq.mpr ⟨p,hp,rfl⟩);rw[mPq,Su,S8];have:=Su.mp (hM ▸ hE);rw[S8]at this;exact this.imp fun h e=>h (SY.inj e)
noncomputable def mu3(N:Nat):AS->Nat
 | [_,_,_,_,_,_,_,_,_,_,_,some (.ow l),_]=>N+1-l.length
 |_=>0
theorem P6{E:List Int}{M:List (Int×Int)}{kn:List Int}{s0 s1 s2 s3 s4 s5 s6 s9:Option AV}(hE:E.Nodup) (hl:E.length<=60) (hM:M.map (·.1)=E) (hv:∀p∈M,p.2∈E) (hk:kn.Nodup) (hs:∀x∈kn,x∈E) {e:Int}(he:e∈E):∃t z,dq (dN (eI (aj 8) (aj 10))) lZ 100000 [s0,s1,s2,s3,s4,s5,s6,some (.owd (rL M)),some (.sh (.int e)),s9,some (.owd (K15.kI kn)),some (.ow []),none]=some (.nx [s0,s1,s2,s3,s4,s5,s6,some (.owd (rL M)),some (.sh (.int z)),s9,some (.owd (K15.kI (kn++t))),some (aI t),none])/\(kn++t).Nodup/\(∀x∈kn++t,x∈E)/\e∈kn++t:=by
 have key:=iA (c:=dN (eI (aj 8) (aj 10))) (body:=lZ) (fun S=>∃t z,S=[s0,s1,s2,s3,s4,s5,s6,some (.owd (rL M)),some (.sh (.int z)),s9,some (.owd (K15.kI (kn++t))),some (aI t),none]/\z∈E/\(kn++t).Nodup/\(∀x∈kn++t,x∈E)/\(z=e∨e∈kn++t)) (mu3 60) (fun S=>∃t z,S=[s0,s1,s2,s3,s4,s5,s6,some (.owd (rL M)),some (.sh (.int z)),s9,some (.owd (K15.kI (kn++t))),some (aI t),none]/\(kn++t).Nodup/\(∀x∈kn++t,x∈E)/\e∈kn++t) (by
  rintro S ⟨t,z,rfl,hz,hn,hsub,hor⟩;have hg:=K15.ud (kn++t) z;have hle:=Aj _ _ hn hsub;rw[lAq]at hle
  by_cases c:z∈kn++t
  .rw [decide_eq_true c]at hg;refine⟨false,[s0,s1,s2,s3,s4,s5,s6,some (.owd (rL M)),some (.sh (.int z)),s9,some (.owd (K15.kI (kn++t))),some (aI t),none],?_,fun q=>(nomatch q),fun _=>⟨t,z,rfl,hn,hsub,?_⟩⟩
   .simp_arith [hg]
   .rcases hor with q|q
    .rw [←q];exact c
    .exact q
  .rw [decide_eq_false c]at hg;have hp:=K15.A0 c;rw[Sk]at hp;obtain⟨y,hy,gy⟩:=kv_get hE hM hv hz;have hn2:(kn++(t++[z])).Nodup:=by
    rw[←Sk,nAq];exact⟨hn,by simp,fun a ha b hb q=>c (by rw[mSq.mp hb]at q;exact q ▸ ha)⟩
   have hs2:∀x∈kn++(t++[z]),x∈E:=fun x hx=>by
    rw[←Sk]at hx;rcases mAq.mp hx with q|q
    .exact hsub x q
    .rw [mSq.mp q];exact hz
   have hle2:=Aj _ _ hn2 hs2;rw[lAq,lAq,lSq]at hle2;have l1:(K15.kI (kn++t)).length<cX:=by rw[K15.Ah,lAq];show _<16777216;lia
   have l2:t.length<cX:=by show _<16777216;lia
   have ap:t.map (fun n=>AV.sh (.int n))++[.sh (.int z)]=(t++[z]).map fun n=>.sh (.int n):=by rw[mBq];rfl
   refine⟨true,[s0,s1,s2,s3,s4,s5,s6,some (.owd (rL M)),some (.sh (.int z)),s9,some (.owd (K15.kI (kn++t))),some (aI t),none],?_,fun _=>⟨[s0,s1,s2,s3,s4,s5,s6,some (.owd (rL M)),some (.sh (.int y)),s9,some (.owd (K15.kI (kn++(t++[z])))),some (aI (t++[z])),none],?_,⟨t++[z],y,rfl,hy,hn2,hs2,?_⟩,?_⟩,fun q=>(nomatch q)⟩
   .simp_arith [hg]
   .simp_arith [lZ,l1,hp,l2,ap,gy]
   .refine .inr ?_;rcases hor with q|q
    .rw [←q];simp
    .rw [←Sk];exact mAq.mpr (.inl q)
   .show 60+1-_<60+1-_;simp only[lMq,lAq,lSq];lia)
 obtain⟨S',ew,t,z,rfl,h1,h2,h3⟩:=key 100000 [s0,s1,s2,s3,s4,s5,s6,some (.owd (rL M)),some (.sh (.int e)),s9,some (.owd (K15.kI kn)),some (.ow []),none] ⟨[],e,by simp,he,by simpa using hk,by simpa using hs,.inl rfl⟩ (by
  show 60+1-0<100000;lia)
 exact⟨t,z,ew,h1,h2,h3⟩
theorem Qr{E:List Int}{M:List (Int×Int)}{s0 s1 s2 s3 s5 s6 v8:Option AV}(hE:E.Nodup) (hl:E.length<=60) (hM:M.map (·.1)=E) (hv:∀p∈M,p.2∈E):∃TT kn v8' v11,dg 8 jm (E.map D.int) [s0,s1,s2,s3,some (.sh (dI E)),s5,s6,some (.owd (rL M)),v8,some (.ow []),some (.owd []),none,none]=some (.nx [s0,s1,s2,s3,some (.sh (dI E)),s5,s6,some (.owd (rL M)),v8',some (K13.oM TT),some (.owd (K15.kI kn)),v11,none])/\TT.flatten=kn/\kn.Perm E/\TT.length<=60:=by
 have key:=fS (x:=8) (body:=jm) (fun i S=>∃TT kn v8 v11,S=[s0,s1,s2,s3,some (.sh (dI E)),s5,s6,some (.owd (rL M)),v8,some (K13.oM TT),some (.owd (K15.kI kn)),v11,none]/\TT.flatten=kn/\kn.Nodup/\(∀x∈kn,x∈E)/\(∀x∈E.take i,x∈kn)/\TT.length<=i) (ds:=E.map D.int) (S:=[s0,s1,s2,s3,some (.sh (dI E)),s5,s6,some (.owd (rL M)),v8,some (.ow []),some (.owd []),none,none])
  ⟨[],[],v8,none,rfl,rfl,Tc,fun _ h=>(by cases h),fun _ h=>(by cases h),Sg _⟩ (by
  rintro i d S hd ⟨TT,kn,v8,v11,rfl,hf,hk,hs,ha,hT⟩;rw[gMq]at hd;obtain⟨e,he,rfl⟩:=oMq.mp hd;have hi:i<E.length:=(gSq.mp he).1;have heE:=mGq he;obtain⟨t,z,ew,h1,h2,h3⟩:=P6 (s0:=s0) (s1:=s1) (s2:=s2) (s3:=s3) (s4:=some (.sh (dI E))) (s5:=s5) (s6:=s6) (s9:=some (K13.oM TT)) hE hl hM hv hk hs heE;have ha2:∀x∈E.take (i+1),x∈kn++t:=fun x hx=>by
   rw[bU he]at hx;rcases mAq.mp hx with q|q
   .exact mAq.mpr (.inl (ha x q))
   .rw [mSq.mp q];exact h3
  unfold K13.oM at ew ⊢
  by_cases c:t=[]
  .subst c;have t0:qH (dI [])=some false:=rfl;refine⟨[s0,s1,s2,s3,some (.sh (dI E)),s5,s6,some (.owd (rL M)),some (.sh (.int z)),some (.ow (TT.map fun r=>.sh (dI r))),some (.owd (K15.kI (kn++[]))),some (aI []),none],?_,TT,kn++[],_,_,rfl,by rw[aNq];exact hf,h1,h2,ha2,by lia⟩
   have s0:=bu [];have aI0:aI [] = .ow []:=rfl
   simp_arith [jm,ew,s0,t0]
  .have t1:qH (dI t)=some true:=K12.Kn c;have st:=bu t;have l1:TT.length<cX:=by show _<16777216;lia
   have ap:(TT.map fun r=>AV.sh (dI r))++[.sh (dI t)]=(TT++[t]).map fun r=>.sh (dI r):=by rw[mBq];rfl
   refine⟨[s0,s1,s2,s3,some (.sh (dI E)),s5,s6,some (.owd (rL M)),some (.sh (.int z)),some (.ow ((TT++[t]).map fun r=>.sh (dI r))),some (.owd (K15.kI (kn++t))),some (.sh (dI t)),none],?_,TT++[t],kn++t,_,_,rfl,by rw[fAq,hf,SZ],h1,h2,ha2,by rw[lAq,lSq];lia⟩
   simp_arith [jm,ew,st,t1,l1,ap])
 obtain⟨S',e,TT,kn,v8,v11,rfl,hf,hk,hs,ha,hT⟩:=key;rw[lMq]at hT ha;rw[Tg]at ha;exact⟨TT,kn,v8,v11,e,hf,(Tb hk hE).mpr fun x=>⟨hs x,ha x⟩,by lia⟩
end K16
--ZQ3 --ZQ4 --ZQ5 --ZQ6 --ZQ8 --ZQ9 --ZQB --ZQC --ZQD --ZQE --ZQF
namespace K16
open PySem L2 Mr Z Xe Zl
noncomputable def above(kn:List Int) (n:Int):Nat:=kn.countP fun k=>decide (n<=k)
theorem ED(kn:List Int) (n:Int):above kn n<=kn.length:=List.countP_le_length
theorem yF:∀{kn:List Int}{n:Int},n∈kn->above kn (n+1)<above kn n
 |a::kn,n,h=>by
  have mono:∀l:List Int,above l (n+1)<=above l n:=fun l=>Wq fun x _ hx=>by
   have:=of_decide_eq_true hx;exact decide_eq_true (by lia)
  unfold above;rw[TL,TL];have m:=mono kn;unfold above at m;rcases Si.mp h with e|e
  .subst e;have q1:decide (n+1<=n)=false:=decide_eq_false (by lia)
   have q2:decide (n<=n)=true:=decide_eq_true (by lia)
   rw[q1,q2];simp only[if_true,Vk,if_false];lia
  .have ih:=yF e;unfold above at ih;have:(if decide (n+1<=a)=true then 1 else 0)<=(if decide (n<=a)=true then 1 else 0):=by
    by_cases c:n+1<=a
    .rw [decide_eq_true c,decide_eq_true (show n<=a by lia)];exact Sg _
    .rw [decide_eq_false c];exact Tf _
   lia
theorem A3(kn:List Int) (n:Int):above kn (n+1)<=above kn n:=Wq fun x _ hx=>by
 have:=of_decide_eq_true hx;exact decide_eq_true (by lia)
def mu4(kn:List Int):AS->Nat
 | [_,_,some (.sh (.int n)),_,_,_,_,_,_,_,_,_,some (.ow l)]=>66-l.length+above kn n
 |_=>0
theorem Qz{kn:List Int}{s0 s1 s3 s4 s5 s6 s7 s8 s9 s11:Option AV}(hl:kn.length<=60) {n:Int}:∃nm v2,dq (dN (bg zz (fA cS (ah (aj 12) ax)) (rC (.int 66)))) jq 100000 [s0,s1,some (.sh (.int n)),s3,s4,s5,s6,s7,s8,s9,some (.owd (K15.kI kn)),s11,some (.ow [])]=some (.nx [s0,s1,v2,s3,s4,s5,s6,s7,s8,s9,some (.owd (K15.kI kn)),s11,some (aI nm)])/\nm.length=66/\∀x∈nm,n<=x/\x∉kn:=by
 have key:=iA (c:=dN (bg zz (fA cS (ah (aj 12) ax)) (rC (.int 66)))) (body:=jq) (fun S=>∃nm m,S=[s0,s1,some (.sh (.int m)),s3,s4,s5,s6,s7,s8,s9,some (.owd (K15.kI kn)),s11,some (aI nm)]/\n<=m/\nm.length<=66/\∀x∈nm,n<=x/\x∉kn) (mu4 kn) (fun S=>∃nm v2,S=[s0,s1,v2,s3,s4,s5,s6,s7,s8,s9,some (.owd (K15.kI kn)),s11,some (aI nm)]/\nm.length=66/\∀x∈nm,n<=x/\x∉kn) (by
  rintro S ⟨nm,m,rfl,hm,hle,hx⟩
  by_cases c:nm.length<66
  .have c':((nm.length:Nat):Int)<66:=by lia
   have hg:=K15.ud kn m
   by_cases c2:m∈kn
   .rw [decide_eq_true c2]at hg;refine⟨true,[s0,s1,some (.sh (.int m)),s3,s4,s5,s6,s7,s8,s9,some (.owd (K15.kI kn)),s11,some (aI nm)],?_,fun _=>⟨[s0,s1,some (.sh (.int (m+1))),s3,s4,s5,s6,s7,s8,s9,some (.owd (K15.kI kn)),s11,some (aI nm)],?_,⟨nm,m+1,rfl,by lia,hle,hx⟩,?_⟩,fun q=>(nomatch q)⟩
    .simp_arith [c']
    .simp_arith [jq,hg]
    .show 66-_+above kn (m+1)<66-_+above kn m;have:=yF c2;lia
   .rw [decide_eq_false c2]at hg;have l2:nm.length<cX:=by show _<16777216;lia
    have ap:nm.map (fun n=>AV.sh (.int n))++[.sh (.int m)]=(nm++[m]).map fun n=>.sh (.int n):=by rw[mBq];rfl
    refine⟨true,[s0,s1,some (.sh (.int m)),s3,s4,s5,s6,s7,s8,s9,some (.owd (K15.kI kn)),s11,some (aI nm)],?_,fun _=>⟨[s0,s1,some (.sh (.int (m+1))),s3,s4,s5,s6,s7,s8,s9,some (.owd (K15.kI kn)),s11,some (aI (nm++[m]))],?_,⟨nm++[m],m+1,rfl,by lia,by rw[lAq,lSq];lia,fun x hx'=>?_⟩,?_⟩,fun q=>(nomatch q)⟩
    .simp_arith [c']
    .simp_arith [jq,hg,l2,ap]
    .rcases mAq.mp hx' with q|q
     .exact hx x q
     .rw [mSq.mp q];exact⟨hm,c2⟩
    .show 66-((nm++[m]).map fun n=>AV.sh (.int n)).length+above kn (m+1)<66-(nm.map fun n=>AV.sh (.int n)).length+above kn m
     have:=A3 kn m;rw[lMq,lMq,lAq,lSq];lia
  .have c':¬ ((nm.length:Nat):Int)<66:=by lia
   refine⟨false,[s0,s1,some (.sh (.int m)),s3,s4,s5,s6,s7,s8,s9,some (.owd (K15.kI kn)),s11,some (aI nm)],?_,fun q=>(nomatch q),fun _=>⟨nm,_,rfl,by lia,hx⟩⟩
   simp_arith [c'])
 obtain⟨S',ew,nm,v2,rfl,h1,h2⟩:=key 100000 [s0,s1,some (.sh (.int n)),s3,s4,s5,s6,s7,s8,s9,some (.owd (K15.kI kn)),s11,some (.ow [])] ⟨[],n,rfl,VT _,Tf _,fun x hx=>(by cases hx)⟩ (by
  show 66-0+above kn n<100000;have:=ED kn n;lia)
 exact⟨nm,v2,ew,h1,h2⟩
theorem Ou(k:MK) (b:ME) (S:AS):Kd k b S=(k S).bind fun x=>(b x.2).bind fun y=>match x.1,y.1 with
 | .sh (.tup ds),.int i=>(L2.atI ds i).map fun d=>(.sh d,y.2)
 |_,_=>none:=rfl
structure Tn (T:List (List Int)):Prop where
 nd:T.flatten.Nodup
 neg:∀z∈T.flatten, -z∈T.flatten
 le:T.flatten.length<=128
 len:T.length<=128
 nz:∀z∈T.flatten,z≠0
theorem sk(ns:List Int) {k:Nat}(hk:k<1000):∃c:Int,aD [.scr ns,.int (k:Int)]=some (.sh (.int c)):=by
 by_cases h:k<ns.length
 .have c:(k:Int)<((ns.length:Nat):Int):=by lia
  have a:atI ns (k:Int)=some ns[k]:=nU (gEg h);refine⟨ns[k],?_⟩
  simp_arith [aD,fZ,c,a]
 .have c:¬ (k:Int)<((ns.length:Nat):Int):=by lia
  refine⟨0,?_⟩
  simp_arith [aD,fZ,c]
theorem K5(ns:List Int):∃(T:List (List Int)) (nm:List Int),nS [.scr ns]=some (.sh (.tup [dM T,dI nm]))/\Tn T/\nm.length=66/\∀x∈nm,1<=x/\x∉T.flatten:=by
 obtain⟨c1,e1⟩:=sk ns (k:=1) (by lia)
 obtain⟨c2,e2⟩:=sk ns (k:=2) (by lia)
 obtain⟨c3,e3⟩:=sk ns (k:=3) (by lia)
 obtain⟨c4,e4⟩:=sk ns (k:=4) (by lia)
 have e1:aD [.scr ns,.int 1]=some (.sh (.int c1)):=e1;have e2:aD [.scr ns,.int 2]=some (.sh (.int c2)):=e2;have e3:aD [.scr ns,.int 3]=some (.sh (.int c3)):=e3;have e4:aD [.scr ns,.int 4]=some (.sh (.int c4)):=e4;have m1:=fe (i:=c1) (j:=31) (by decide)
 have b0:=TH c1 (b:=31) (by decide)
 have b1:=TC c1 (b:=31) (by decide)
 obtain⟨n,hn⟩:∃n:Nat,c1 % 31=(n:Int):=⟨(c1 % 31).toNat,by lia⟩
 obtain⟨c',l,last,v5,a0,ll,ln,lp⟩:=QM (s0:=some (.sh (.scr ns))) (s1:=some (.sh (.int (n:Int)))) (c:=c2) (n:=n) (by lia)
 have hrg:=mC (n:=n) (by lia)
 have nE:(pm l).Nodup:=K12.uI ln lp;have gE:∀z∈pm l, -z∈pm l:=fun z hz=>Lq hz
 have lE:(pm l).length<=60:=by rw[GB];lia
 have zE:∀z∈pm l,z≠0:=fun z hz q=>by
  obtain⟨y,hy,c⟩:=VD.mp hz;have:=lp y hy;simp at c;lia
 generalize pm l=E at a0 nE gE lE zE;obtain⟨v6,v3,M,v8,a1,hM,hv⟩:=Qk (s0:=some (.sh (.scr ns))) (s1:=some (.sh (.int (n:Int)))) (s2:=some (.sh (.int last))) (s5:=v5) (cl:=c3) nE lE;obtain⟨TT,kn,v8',v11,a3,hf,hp,hT⟩:=Qr (s0:=some (.sh (.scr ns))) (s1:=some (.sh (.int (n:Int)))) (s2:=some (.sh (.int last))) (s3:=v3) (s5:=v5) (s6:=v6) (v8:=v8) nE lE hM hv;have P9:=NO;have m4:=fe (i:=c4) (j:=10 ^ 59) (by decide)
 have m40:=TH c4 (b:=10 ^ 59) (by decide)
 obtain⟨nm,v2,a4,hnm,hx⟩:=Qz (kn:=kn) (s0:=some (.sh (.scr ns))) (s1:=some (.sh (.int (n:Int)))) (s3:=v3) (s4:=some (.sh (dI E))) (s5:=v5) (s6:=v6) (s7:=some (.owd (rL M))) (s8:=v8') (s9:=some (K13.oM TT)) (s11:=v11) (by rw[hp.length_eq];exact lE) (n:=1+c4 % 10 ^ 59)
 have d1:=mG (i:=c1) (j:=31) (by decide) (by decide)
 have m2:=fe (i:=c1 / 31) (j:=4) (by decide)
 have b2:=TH (c1 / 31) (b:=4) (by decide)
 have b3:=TC (c1 / 31) (b:=4) (by decide)
 obtain⟨b,hb⟩:∃b:Nat,c1 / 31 % 4=(b:Int):=⟨(c1 / 31 % 4).toNat,by lia⟩
 have hrb:=mC (n:=b) (by lia)
 have lb:=cV 0 b;have lb2:b<=cX:=by show _<=16777216;lia
 have hnil:=FL b;have flat:(TT++S9 b []).flatten=TT.flatten:=by
  rw[fAq];have:(S9 b ([]:List Int)).flatten=[]:=by simp
  rw[this,aNq]
 refine⟨TT++S9 b [],nm,?_,⟨?_,?_,?_,?_,?_⟩,hnm,fun x h=>?_⟩
 .have lT:TT.length+b<=cX:=by show _<=16777216;lia
  have sE:=bu E;have snm:=bu nm;have sR:(S9 b (AV.ow [])).map aH=(S9 b ([]:List Int)).map dI:=by rw[Ur,Ur];rfl
  have sT:((TT.map dI++(S9 b ([]:List Int)).map dI).map AV.sh).map aH=(TT++S9 b []).map dI:=by
   rw[←mBq,mPq];exact(mCq (g:=id) fun _ _=>rfl).trans (Vb _)
  unfold K13.oM at a3 a4
  simp_arith [nS,yR,e1,e2,e3,e4,m1,hn,hrg,a0,sE,a1,a3,P9,m4,a4,d1,m2,hb,hrb,lb,lb2,hnil,U9,lT,sR,snm,sT]
 .rw [flat,hf,hp.nodup_iff];exact nE
 .rw [flat,hf];exact fun z hz=>hp.mem_iff.mpr (gE z (hp.mem_iff.mp hz))
 .rw [flat,hf,hp.length_eq];lia
 .rw [lAq,U9];lia
 .rw [flat,hf];exact fun z hz=>zE z (hp.mem_iff.mp hz)
 .have:=hx x h;rw[flat,hf];exact⟨by lia,this.2⟩
end K16
namespace K16
open PySem L2 Mr Z Xe Zl K15
section
variable {rs:List (List Int)}
theorem zo(hn:rs.flatten.Nodup) {r:List Int}(hr:r∈rs) {j:Nat}{z y:Int}(hz:r[j]?=some z) (hy:r[(j+1) % r.length]?=some y):nx rs z=y:=by
 have hj:=(gSq.mp hz).1;have h1:=K51.uj hz ((FY hj).trans hy);have h2:(SY z,y)∈K51.bJ rs:=by
  unfold K51.bJ;exact mFq.mpr ⟨_,mMq.mpr ⟨r,hr,rfl⟩,mGq h1⟩
 have h3:=nA (wX hn) h2;unfold nx;rw[h3]
theorem Cr(hn:rs.flatten.Nodup) {r:List Int}(hr:r∈rs) {e:Int}(h0:r[0]?=some e):∀n,r[n % r.length]?=some (itr (nx rs) n e)
 |0=>by rw[Xk];exact h0
 |n+1=>by
  have hp:0<r.length:=(gSq.mp h0).1;have ih:=Cr hn hr h0 n;have hm:(n+1) % r.length<r.length:=VQ _ hp;have hm2:(n % r.length+1) % r.length=(n+1) % r.length:=by rw[W2]
  obtain⟨y,hg⟩:∃y,r[(n+1) % r.length]?=some y:=⟨_,gEg hm⟩;have:=zo hn hr ih (hm2 ▸ hg);rw[hg,←this];rfl
theorem Ae(hn:rs.flatten.Nodup) {r:List Int}(hr:r∈rs) {e:Int}(h0:r[0]?=some e):Cy (nx rs) e r:=by
 have hp:0<r.length:=(gSq.mp h0).1;have it:=Cr hn hr h0;refine⟨hp,?_,?_,Sy.sublist (SG hr) hn⟩
 .refine Uw fun i=>?_
  rw[gMq]
  by_cases hi:i<r.length
  .rw [Ui hi,Uh,←it i,Uo hi]
  .rw [S0 (by lia),S0 (by rw[Te];lia)]
   rfl
 .have:=it r.length;rw[U1,h0]at this;exact(Sz.inj this).symm
noncomputable def ne(rs:List (List Int)):List (List Int):=rs.filter fun r=>!decide (r=[])
theorem sG:∀rs:List (List Int),(ne rs).flatten=rs.flatten
 | []=>rfl
 | []::rs=>sG rs
 | (x::r)::rs=>by
  show ((x::r)::ne rs).flatten=_;rw[fCq,fCq,sG rs]
theorem sO:∀rs:List (List Int),(ee rs++ne rs).Perm rs
 | []=>.nil
 | []::rs=>(sO rs).cons []
 | (x::r)::rs=>List.perm_middle.trans ((sO rs).cons (x::r))
theorem L1{r:List Int}:r∈ne rs↔r∈rs/\r≠[]:=by
 unfold ne;rw[S5];simp
theorem zl(hn:rs.flatten.Nodup):xg (nx rs) rs.flatten (ne rs):=by
 refine⟨fun l hl=>?_,by rw[sG];exact hn,fun x=>by rw[sG]⟩
 obtain⟨h1,h2⟩:=L1.mp hl;cases l with
 |nil=>exact absurd rfl h2
 |cons x l=>exact⟨x,Ae hn h1 rfl⟩
theorem GX(hn:rs.flatten.Nodup):zP (nx rs) rs.flatten:=⟨hn,fun e he=>qX hn he,fun a ha b hb h=>Ht hn ha hb h⟩
theorem CI{f:Int->Int}(hn:rs.flatten.Nodup) (h:∀l∈rs,l=[]∨∃e,Cy f e l) {x:Int}(hx:x∈rs.flatten):nx rs x=f x:=by
 obtain⟨l,hl,hxl⟩:=mFq.mp hx;rcases h l hl with rfl|⟨e,c⟩
 .cases hxl
 .obtain ⟨j,hj⟩:=Sw.mp hxl;have hlt:=(gSq.mp hj).1;have e1:=c.at hlt;rw[hj]at e1;have e2:=Sz.inj e1;refine zo hn hl hj ?_;rw[e2];show _=some (itr f (j+1) e)
  by_cases q:j+1<l.length
  .rw [Uo q];exact c.at q
  .have e3:j+1=l.length:=by lia
   rw[e3,U1,c.back];exact c.at (i:=0) (by lia)
theorem vJ{f g:Int->Int}{E:List Int}(hf:zP f E) (h:∀x∈E,f x=g x) {e:Int}(he:e∈E):∀n,itr f n e=itr g n e
 |0=>rfl
 |n+1=>by
  show f (itr f n e)=g (itr g n e);rw[h _ (hf.itr_mem he n),vJ hf h he n]
theorem Hd{f g:Int->Int}{E:List Int}(hf:zP f E) (h:∀x∈E,f x=g x) {e:Int}(he:e∈E) {l:List Int}(c:Cy f e l):Cy g e l:=by
 have ic:=vJ hf h he;refine⟨c.len,?_,by rw[←ic];exact c.back,c.nd⟩
 rw[←mCq (f:=fun n=>itr f n e) fun n _=>ic n]
 exact c.get
theorem vD{f g:Int->Int}{E E':List Int}{L:List (List Int)}(hf:zP f E) (h:∀x∈E,f x=g x) (hE:∀x,x∈E↔x∈E') (o:xg f E L):xg g E' L:=by
 refine⟨fun l hl=>?_,o.dj,fun x=>(o.all x).trans (hE x)⟩
 obtain⟨e,c⟩:=o.cy l hl;exact⟨e,Hd hf h ((o.all e).mp (mFq.mpr ⟨l,hl,c.self⟩)) c⟩
theorem sV{f:Int->Int}{e:Int}{l:List Int}(c:Cy f e l):∃e',Cy f e' (good l):=by
 unfold good
 by_cases h:bG l l.length<l.length
 .exact ⟨_,c.rot h⟩
 .refine ⟨e,?_⟩;unfold Mr.rot;rw[Ud (by lia),Ue (by lia),T5]
  exact c
theorem gI:∀rs:List (List Int),ee rs=S9 (rs.count []) []
 | []=>rfl
 | []::rs=>by
  rw[UL,WB,←gI rs];rfl
 | (x::r)::rs=>by
  rw[Up (by simp),←gI rs]
  rfl
theorem uS:∀{L:List (List Int)},(∀l∈L,1<=l.length)->L.length<=L.flatten.length
 | [],_=>Sg _
 |a::L,h=>by
  have h1:=h a (Ss ..);have h2:=uS (L:=L) fun l hl=>h l (mCo _ hl)
  rw[lCq,fCq,lAq];lia
theorem uK:∀{L:List (List Int)},(∀l∈L,1<=l.length)->(L.map good).count []=0
 | [],_=>rfl
 |a::L,h=>by
  have h1:=h a (Ss ..);have hg:good a≠[]:=fun q=>by
   have:=congrArg TJ q;rw[jW,T4]at this;lia
  rw[Sq,Up hg];exact uK fun l hl=>h l (mCo _ hl)
theorem IX{T:List (List Int)}(h:T.flatten.Nodup):∀r∈T,r.Nodup:=fun r hr=>Sy.sublist (SG hr) h
theorem um(hm:Mp rs) (hlen:rs.length+rs.flatten.length<=1000):∃M:List (List Int),cP [dM rs]=some (.ow (M.map aI))/\Mp M/\cP [dM M]=some (.ow ((eK (rs.map good)).map aI))/\M.flatten.Perm rs.flatten/\eK (M.map good)=M/\M.count []=rs.count []/\M.length<=rs.length+rs.flatten.length:=by
 obtain⟨L,o1,e1⟩:=jv hm;have one:=lK hm;have pL:L.flatten.Perm rs.flatten:=(Tb o1.dj hm.hn).mpr o1.all;have hL1:∀l∈L,1<=l.length:=fun l hl=>by obtain⟨e,c⟩:=o1.cy l hl;exact c.len
 have hLl:=uS hL1;rw[pL.length_eq]at hLl;have hb:(ee rs).flatten=[]:=by
  unfold ee;refine Uy.mpr fun l hl=>?_
  obtain⟨x,_,rfl⟩:=mMq.mp hl;rfl
 have hf0:(ee rs++L).flatten=L.flatten:=by rw[fAq,hb,T5]
 have pM:(eK ((ee rs++L).map good)).flatten.Perm rs.flatten:=by
  refine(cO (aS _)).trans ((bb bA _).trans ?_);rw[hf0];exact pL
 have tw:=oX (T:=ee rs++L) (by rw[hf0];exact o1.dj)
 have hcnt:(eK ((ee rs++L).map good)).count []=rs.count []:=by
  rw[(aS _).count_eq,mBq,cAq,uK hL1,gI,Ur,uO,V1];rfl
 have hMl:(eK ((ee rs++L).map good)).length<=rs.length+rs.flatten.length:=by
  have:=oP rs;rw[cJ,lMq,lAq];lia
 have hrow:∀l∈eK ((ee rs++L).map good),l=[]∨∃e,Cy (fw rs) e l:=fun l hl=>by
  obtain⟨m,hm',rfl⟩:=mMq.mp ((aS _).mem_iff.mp hl);rcases mAq.mp hm' with q|q
  .left;unfold ee at q;obtain⟨x,_,rfl⟩:=mMq.mp q;rfl
  .right;obtain⟨e,c⟩:=o1.cy m q;exact sV c
 generalize eK ((ee rs++L).map good)=M at e1 pM tw hcnt hMl hrow;have nM:M.flatten.Nodup:=pM.nodup_iff.mpr hm.hn;have mpM:Mp M:=⟨nM,by rw[pM.length_eq];exact hm.hl,by lia,fun e he=>pM.mem_iff.mpr (hm.hneg e (pM.mem_iff.mp he))⟩
 obtain⟨L2,o2,e2⟩:=jv mpM;have hfw:∀x∈M.flatten,fw M x=nx rs x:=fun x hx=>by
  show nx M (-x)=_;rw[CI nM hrow (mpM.hneg x hx)];show nx rs (- -x)=_;rw[Tw]
 have o2':=vD (lK mpM) hfw (fun x=>pM.mem_iff) o2
 have hp:=o2'.perm (GX hm.hn) (zl hm.hn);refine⟨M,e1,mpM,?_,pM,tw,hcnt,hMl⟩;rw[e2];have hq:((ee M++L2).map good).Perm (rs.map good):=by
  rw[mBq,gI M,hcnt,←gI rs];refine(TN.append_left _ hp).trans ?_;rw[←mBq];exact(sO rs).map good
 rw[nR hq]
end
end K16
namespace K25
open PySem L2 Mr Z Xe Zl K15 K16
section
variable {rs:List (List Int)}
def Rt(rs:List (List Int)) (x:Int) (w:List Int):Prop:=∃u v,u++x::v∈rs/\w=v++u
theorem Rt.of{x:Int}(h:x∈rs.flatten):∃w,Rt rs x w:=by
 obtain⟨r,hr,hx⟩:=mFq.mp h;obtain⟨u,v,rfl⟩:=UC hx;exact⟨v++u,u,v,hr,rfl⟩
theorem Rt.mem{x:Int}{w:List Int}(h:Rt rs x w):x∈rs.flatten:=by
 obtain⟨u,v,hr,_⟩:=h;exact mFq.mpr ⟨_,hr,by simp⟩
theorem Rt.row{x:Int}{w:List Int}(h:Rt rs x w):∃r∈rs,∀y,y∈r↔y∈x::w:=by
 obtain⟨u,v,hr,rfl⟩:=h;exact⟨_,hr,fun y=>(Ts (l₁:=x::v) (l₂:=u)).symm.mem_iff⟩
theorem Rt.nd(hn:rs.flatten.Nodup) {x:Int}{w:List Int}(h:Rt rs x w):(x::w).Nodup:=by
 obtain⟨u,v,hr,rfl⟩:=h;have:=Sy.sublist (SG hr) hn;exact(Ts (l₁:=x::v) (l₂:=u)).nodup_iff.mpr this
theorem Rt.to(hn:rs.flatten.Nodup) {x:Int}{w:List Int}(h:Rt rs x w):nx rs x=w.headD x:=by
 obtain⟨u,v,hr,rfl⟩:=h;refine zo hn hr (j:=u.length) (by simp) ?_
 cases v with
 |nil =>
  rw[show (u++[x]).length=u.length+1 by simp,U1]
  cases u <;> rfl
 |cons y v =>
  rw[Uo (by simp)]
  simp
theorem Rt.step{x a:Int}{w:List Int}(h:Rt rs x (a::w)):Rt rs a (w++[x]):=by
 obtain⟨u,v,hr,e⟩:=h;cases v with
 |nil =>
  rw[T5]at e;subst e;exact⟨[],w++[x],hr,by simp⟩
 |cons y v =>
  obtain⟨rfl,rfl⟩:=WQ.inj e;exact⟨u++[x],v,by simpa using hr,by simp⟩
theorem Rt.go{x:Int}:∀{z:Int}{a b:List Int},Rt rs z (a++x::b)->Rt rs x (b++z::a)
 |z,[],b,h=>h.step
 |z,y::a,b,h=>by
  have:=Rt.go (z:=y) (a:=a) (b:=b++[z]) (by simpa using h.step)
  simpa using this
theorem Rt.filt{x:Int}{w:List Int}(p:Int->Bool) (hx:p x=true) (h:Rt rs x w):Rt (rs.map fun r=>r.filter p) x (w.filter p):=by
 obtain⟨u,v,hr,rfl⟩:=h;refine⟨u.filter p,v.filter p,mMq.mpr ⟨_,hr,?_⟩,by rw[WH]⟩
 rw[WH,Tt hx]
noncomputable def pz(z e:Int):Bool:=!decide (e∈[z, -z])
theorem cQ{z e:Int}:pz z e=true↔e≠z/\e ≠ -z:=by unfold pz;simp
theorem rN{z e:Int}(h:¬ pz z e=true):e=z∨e = -z:=by
 rw[cQ]at h;lia
theorem xn(z:Int):pz (-z)=pz z:=by
 funext e;rw[T3,cQ,cQ];lia
def QP(z:Int) (f:Int->Int) (x:Int):Int:=if pz z (f x)=true then f x else if pz z (f (f x))=true then f (f x) else f (f (f x))
theorem Mw{x z:Int}(hn:rs.flatten.Nodup) (hn':(rs.map fun r=>r.filter (pz z)).flatten.Nodup) (hx:x∈rs.flatten) (hp:pz z x=true):nx (rs.map fun r=>r.filter (pz z)) x=QP z (nx rs) x:=by
 obtain⟨w,h⟩:=Rt.of hx;have h':=h.filt (pz z) hp;rw[h'.to hn'];have h0:=h.to hn;have nd:=h.nd hn;unfold QP;cases w with
 |nil =>
  have h0:nx rs x=x:=h0;rw[h0,if_pos hp];rfl
 |cons y w =>
  have h0:nx rs x=y:=h0;rw[h0]
  by_cases py:pz z y=true
  .rw [Tt py,if_pos py];rfl
  .rw [Tz py,if_neg py];have h1:=h.step;have e1:=h1.to hn;cases w with
   |nil =>
    have e1:nx rs y=x:=e1;rw[e1,if_pos hp];rfl
   |cons y2 w =>
    have e1:nx rs y=y2:=e1;rw[e1]
    by_cases py2:pz z y2=true
    .rw [Tt py2,if_pos py2];rfl
    .rw [Tz py2,if_neg py2];have h2:=h1.step;have e2:=h2.to hn;have hw:w.filter (pz z)=w:=List.filter_eq_self.mpr fun e he=>by
      rw[Sm,Sm,Sm]at nd;have a1:=rN py;have a2:=rN py2;have b1:y≠y2:=fun q=>nd.2.1 (q ▸ Ss ..)
      have b2:e≠y:=fun q=>nd.2.1 (q ▸ mCo _ he)
      have b3:e≠y2:=fun q=>nd.2.2.1 (q ▸ he)
      rw[cQ];lia
     rw[hw,e2];cases w <;> rfl
def Ew(z:Int) (f:Int->Int) (x:Int):Int:=if pz z (f x)=true then f x else if pz z (f (-f x))=true then f (-f x) else f (-f (-f x))
theorem BZ(z:Int):Ew (-z)=Ew z:=by
 funext f x;unfold Ew;rw[xn]
theorem CJ(z:Int):¬ pz z z=true:=by rw[cQ];lia
theorem uN(z:Int):¬ pz z (-z)=true:=by rw[cQ];lia
theorem OA{D:List (List Int)}(hn:rs.flatten.Nodup) (hD:D.flatten.Nodup) {t x:Int}{a b u v:List Int}(ha:Rt rs t a) (hb:Rt rs (-t) b) (pa:∀e∈a,pz t e=true) (pb:∀e∈b,pz t e=true) (e:a=u++x::v) (h:Rt D x (v++b++u)):nx D x=Ew t (nx rs) x:=by
 subst e;have h1:=ha.go;have e1:=h1.to hn;rw[h.to hD];unfold Ew;cases v with
 |cons y v =>
  have e1:nx rs x=y:=e1;rw[e1,if_pos (pa y (by simp))]
  rfl
 |nil =>
  have e1:nx rs x=t:=e1;have e2:=hb.to hn;rw[e1,if_neg (CJ t),e2];cases b with
  |cons y b=>exact(if_pos (pb y (Ss ..))).symm
  |nil =>
   have e3:=ha.to hn;show _=if pz t (-t)=true then _ else nx rs (- -t)
   rw[if_neg (uN t),Tw,e3];cases u <;> rfl
theorem OD{D:List (List Int)}(hn:rs.flatten.Nodup) (hD:D.flatten.Nodup) {t x:Int}{a b u v:List Int}(ha:Rt rs t (a ++ -t::b)) (pa:∀e∈a,pz t e=true) (e:a=u++x::v) (h:Rt D x (v++u)):nx D x=Ew t (nx rs) x:=by
 subst e;have h1:Rt rs x ((v ++ -t::b)++t::u):=Rt.go (by simpa using ha)
 have e1:=h1.to hn;rw[h.to hD];unfold Ew;cases v with
 |cons y v =>
  have e1:nx rs x=y:=e1;rw[e1,if_pos (pa y (by simp))]
  rfl
 |nil =>
  have e1:nx rs x = -t:=e1;have e2:=ha.to hn;rw[e1,if_neg (uN t),Tw,e2];have:((u++[x] ++ -t::b).headD t)=u.headD x:=by cases u <;> rfl
  rw[this];refine(if_pos (pa _ ?_)).symm;cases u <;> simp
theorem HH{r:List Int}{a:Int}(ha:a∈r):∀rs:List (List Int),rs.count r<=rs.flatten.count a
 | []=>Sg _
 |s::rs=>by
  have ih:=HH ha rs;rw[UF,fCq,cAq]
  by_cases h:s=r
  .subst h;have:=Tv.mpr ha;simp;lia
  .simp [h];lia
theorem BH{r r':List Int}(hne:r≠r') {a:Int}(ha:a∈r) (ha':a∈r'):∀rs:List (List Int),rs.count r+rs.count r'<=rs.flatten.count a
 | []=>Sg _
 |s::rs=>by
  have ih:=BH hne ha ha' rs;rw[UF,UF,fCq,cAq]
  by_cases h:s=r
  .subst h;have:=Tv.mpr ha;simp[hne];lia
  .by_cases h':s=r'
   .subst h';have:=Tv.mpr ha';simp[h];lia
   .simp [h,h'];lia
theorem J6{z:Int}(hz:z ≠ -z) {r:List Int}(hn:r.Nodup):(if r.filter (pz z)=[] then 1 else 0)=(if r=[] then 1 else 0)+(if r=[z] then 1 else 0)+(if r=[-z] then 1 else 0)+(if r=[z, -z] then 1 else 0)+(if r=[-z,z] then 1 else 0):=by
 have pz1:=CJ z;have pz2:=uN z
 match r,hn with
 | [],_=>simp
 | [a],_ =>
  by_cases h:pz z a=true
  .have h2:=cQ.mp h;rw[Tt h];simp[h2.1,h2.2]
  .rw [Tz h];rcases rN h with rfl|rfl
   .simp [hz]
   .simp [hz.symm]
 | [a,b],hn =>
  have hab:a≠b:=by simpa using hn
  by_cases h:pz z a=true
  .have h2:=cQ.mp h;rw[Tt h];simp[h2.1,h2.2]
  .rw [Tz h]
   by_cases h3:pz z b=true
   .have h4:=cQ.mp h3;rw[Tt h3];simp[h4.1,h4.2]
   .rw [Tz h3];rcases rN h with rfl|rfl <;> rcases rN h3 with rfl|rfl
    .exact absurd rfl hab
    .simp [hz]
    .simp [hz.symm]
    .exact absurd rfl hab
 |a::b::c::r,hn =>
  have:(a::b::c::r).filter (pz z)≠[]:=fun q=>by
   rw[List.filter_eq_nil_iff]at q;have h1:=rN (q a (by simp))
   have h2:=rN (q b (by simp))
   have h3:=rN (q c (by simp))
   simp only[Sm,Si,not_or]at hn;lia
  rw[if_neg this];simp
theorem yJ{z:Int}(hz:z ≠ -z):∀{rs:List (List Int)},(∀r∈rs,r.Nodup)->bare (rs.map fun r=>r.filter (pz z))=bare rs+rs.count [z]+rs.count [-z]+(rs.count [z, -z]+rs.count [-z,z])
 | [],_=>rfl
 |r::rs,h=>by
  have ih:=yJ hz (rs:=rs) fun r hr=>h r (mCo _ hr)
  have h1:=J6 hz (h r (Ss ..));unfold bare at ih ⊢;rw[Sq,TL,TL,UF,UF,UF,UF,ih];simp only[decide_eq_true_eq,beq_iff_eq]at h1 ⊢;lia
theorem B0(hn:rs.flatten.Nodup) {z:Int}(hz:z∈rs.flatten):rs.count [z]=if nx rs z=z then 1 else 0:=by
 have hle:=HH (r:=[z]) (a:=z) (by simp) rs
 have h1:=VI.mp hn z
 by_cases h:[z]∈rs
 .have:=Tv.mpr h;have h0:Rt rs z []:=⟨[],[],h,rfl⟩;have e:nx rs z=z:=h0.to hn;rw[if_pos e];lia
 .rw [U7 h];obtain⟨w,hw⟩:=Rt.of hz;have e:=hw.to hn;have nd:=hw.nd hn;cases w with
  |nil =>
   obtain⟨u,v,hr,q⟩:=hw;obtain⟨rfl,rfl⟩:=Vv.mp q.symm;exact absurd hr h
  |cons y w =>
   have e:nx rs z=y:=e;rw[if_neg];rw[e];rintro rfl;exact(Sm.mp nd).1 (Ss ..)
theorem Jn(hn:rs.flatten.Nodup) {z y:Int}(hne:z≠y) (hz:z∈rs.flatten):rs.count [z,y]+rs.count [y,z]=if nx rs z=y/\nx rs y=z then 1 else 0:=by
 have hle:=BH (r:=[z,y]) (r':=[y,z]) (a:=z) (by simp[hne]) (by simp) (by simp) rs
 have h1:=VI.mp hn z
 by_cases h:[z,y]∈rs∨[y,z]∈rs
 .have hp:0<rs.count [z,y]+rs.count [y,z]:=by
   rcases h with h|h
   .have:=Tv.mpr h;lia
   .have:=Tv.mpr h;lia
  have h0:Rt rs z [y]:=by
   rcases h with h|h
   .exact ⟨[],[y],h,rfl⟩
   .exact ⟨[y],[],h,rfl⟩
  have e:nx rs z=y:=h0.to hn;have e2:nx rs y=z:=h0.step.to hn;rw[if_pos ⟨e,e2⟩];lia
 .have h':[z,y]∉rs/\[y,z]∉rs:=⟨fun q=>h (.inl q),fun q=>h (.inr q)⟩
  rw[U7 h'.1,U7 h'.2];obtain⟨w,hw⟩:=Rt.of hz;have nd:=hw.nd hn;rw[if_neg];rintro⟨q1,q2⟩;have e:=hw.to hn;rw[q1]at e;cases w with
  |nil=>exact hne e.symm
  |cons y' w =>
   have e:y=y':=e;subst e;have e2:=hw.step.to hn;rw[q2]at e2;cases w with
   |cons x w =>
    have e2:z=x:=e2;subst e2;exact(Sm.mp nd).1 (by simp)
   |nil =>
    obtain⟨u,v,hr,q⟩:=hw;cases v with
    |nil=>rw[T5]at q;subst q;exact h'.2 hr
    |cons x v =>
     have q2:=WQ.inj q;obtain⟨rfl,rfl⟩:=Vv.mp q2.2.symm;rw[←q2.1]at hr;exact h'.1 hr
noncomputable def rest(z:Int) (rs:List (List Int)):List (List Int):=rs.filter fun r=>!decide (z∈r) && !decide (-z∈r)
theorem nc{z:Int}{r:List Int}:r∈rest z rs↔r∈rs/\z∉r/\-z∉r:=by
 unfold rest;rw[S5];simp
theorem vB(z:Int):bare (rest z rs)=bare rs:=by
 unfold bare rest;rw[List.countP_filter];refine V2 fun r _=>?_
 constructor
 .intro h;exact(Uk _ _ ▸ h).1
 .intro h;have:=of_decide_eq_true h;subst this;simp
structure PL (rs:List (List Int)) (z:Int) (D:List (List Int)):Prop where
 nd:D.flatten.Nodup
 mem:∀x,x∈D.flatten↔x∈rs.flatten/\pz z x=true
 on:∀x∈D.flatten,nx D x=Ew z (nx rs) x
 br:bare D=bare rs+((if nx rs (-z)=z then 1 else 0)+(if nx rs z = -z then 1 else 0)+(if nx rs (-z) = -z/\nx rs z=z then 1 else 0))
 len:D.length<=rs.length+2
theorem iV(hn:rs.flatten.Nodup) {r s:List Int}{x:Int}(hr:r∈rs) (hs:s∈rs) (h1:x∈r) (h2:x∈s):r=s:=by
 obtain⟨i,hi⟩:=Sw.mp hr;obtain⟨j,hj⟩:=Sw.mp hs;have:=same_place hn hi hj h1 h2;subst this;exact Sz.inj (hi.symm.trans hj)
theorem yM(z:Int):(rest z rs).length<=rs.length:=Um _ _
theorem Cj(hn:rs.flatten.Nodup) {z x:Int}{K:List (List Int)}(hx:x∈(rest z rs).flatten) (hD:(rest z rs++K).flatten.Nodup):nx (rest z rs++K) x=Ew z (nx rs) x:=by
 obtain⟨w,u,v,hr,e⟩:=Rt.of hx;have h1:=nc.mp hr;have r1:Rt rs x w:=⟨u,v,h1.1,e⟩;have r2:Rt (rest z rs++K) x w:=⟨u,v,mAq.mpr (.inl hr),e⟩;rw[r2.to hD];have e1:=r1.to hn;unfold Ew;rw[e1];refine(if_pos ?_).symm;have hin:w.headD x∈u++x::v:=by
  refine(Ts (l₁:=x::v) (l₂:=u)).mem_iff.mp ?_;rw[Vy,←e];cases w <;> simp
 rw[cQ];exact⟨fun q=>h1.2.1 (q ▸ hin),fun q=>h1.2.2 (q ▸ hin)⟩
theorem wa(p:List Int->Bool):∀rs:List (List Int),(rs.filter p).flatten.Sublist rs.flatten
 | []=>T9.refl _
 |r::rs=>by
  have ih:=wa p rs;cases h:p r with
  |true=>rw[Tt h,fCq,fCq];exact T9.append_left ih _
  |false=>rw[Tz (by simp[h]),fCq];exact ih.trans (V3 ..)
theorem Ce(hn:rs.flatten.Nodup) {z:Int}{K:List (List Int)}(k1:K.flatten.Nodup) (k2:∀x,x∈K.flatten↔pz z x=true/\∃r∈rs,x∈r/\(z∈r∨-z∈r)):(rest z rs++K).flatten.Nodup/\∀x,x∈(rest z rs++K).flatten↔x∈rs.flatten/\pz z x=true:=by
 rw[fAq];refine⟨?_,fun x=>?_⟩
 .rw [nAq];refine⟨Sy.sublist (wa _ rs) hn,k1,fun x hx y hy e=>?_⟩
  subst e;obtain⟨r,hr,hxr⟩:=mFq.mp hx;obtain⟨_,s,hs,hxs,q⟩:=(k2 x).mp hy;have h1:=nc.mp hr;have:=iV hn h1.1 hs hxr hxs;subst this;rcases q with q|q
  .exact h1.2.1 q
  .exact h1.2.2 q
 .rw [mAq,k2];constructor
  .rintro (h|⟨h1,r,hr,hx,_⟩)
   .obtain ⟨r,hr,hxr⟩:=mFq.mp h;have h1:=nc.mp hr;refine⟨mFq.mpr ⟨r,h1.1,hxr⟩,cQ.mpr ⟨fun q=>h1.2.1 (q ▸ hxr),fun q=>h1.2.2 (q ▸ hxr)⟩⟩
   .exact ⟨mFq.mpr ⟨r,hr,hx⟩,h1⟩
  .rintro ⟨h1,h2⟩;obtain⟨r,hr,hxr⟩:=mFq.mp h1
   by_cases c:z∈r∨-z∈r
   .exact .inr ⟨h2,r,hr,hxr,c⟩
   .exact .inl (mFq.mpr ⟨r,nc.mpr ⟨hr,fun q=>c (.inl q),fun q=>c (.inr q)⟩,hxr⟩)
theorem uf(a b:List (List Int)):bare (a++b)=bare a+bare b:=List.countP_append
theorem uC(a:List Int):bare [a]=if a=[] then 1 else 0:=by
 unfold bare;rw[TL,List.countP_nil];simp
theorem EA(a b:List Int):bare [a,b]=(if a=[] then 1 else 0)+(if b=[] then 1 else 0):=by
 rw[show [a,b]=[a]++[b] from rfl,uf,uC,uC]
theorem CH(hn:rs.flatten.Nodup) {z:Int}(hz:z ≠ -z) {a b:List Int}(h:Rt rs z (a ++ -z::b)):PL rs z (rest z rs++[a,b]):=by
 have h':Rt rs (-z) (b ++ - -z::a):=by rw[Tw];exact h.go
 have nd:=h.nd hn;obtain⟨r,hr,er⟩:=h.row;have nda:∀e∈a,pz z e=true:=fun e he=>by
  rw[Sm,nAq]at nd;exact cQ.mpr ⟨fun q=>nd.1 (mAq.mpr (.inl (q ▸ he))),fun q=>nd.2.2.2 _ he _ (Ss ..) q⟩
 have ndb:∀e∈b,pz z e=true:=fun e he=>by
  rw[Sm,nAq,Sm]at nd;exact cQ.mpr ⟨fun q=>nd.1 (mAq.mpr (.inr (mCo _ (q ▸ he)))),fun q=>nd.2.2.1.1 (q ▸ he)⟩
 have k1:[a,b].flatten.Nodup:=by
  rw[show [a,b].flatten=a++b by simp]
  exact Sy.sublist (T9.append_left (List.sublist_cons_self ..) _) (Sm.mp nd).2
 have zr:z∈r:=(er z).mpr (by simp)
 have zr':-z∈r:=(er (-z)).mpr (by simp)
 obtain⟨d1,d2⟩:=Ce hn (z:=z) k1 fun x=>by
  rw[show [a,b].flatten=a++b by simp,mAq]
  constructor
  .intro q;have hx:pz z x=true:=by
    rcases q with q|q
    .exact nda x q
    .exact ndb x q
   refine⟨hx,r,hr,(er x).mpr ?_,.inl zr⟩;rcases q with q|q <;> simp[q]
  .rintro ⟨hx,s,hs,hxs,q⟩;have:s=r:=by
    rcases q with q|q
    .exact iV hn hs hr q zr
    .exact iV hn hs hr q zr'
   subst this;have:=(er x).mp hxs;have hx:=cQ.mp hx;simp[hx.1,hx.2]at this;exact this
 refine⟨d1,d2,fun x hx=>?_,?_,by rw[lAq];have:=yM (rs:=rs) z;show _+2<=_;lia⟩
 .rw [fAq]at hx;rcases mAq.mp hx with q|q
  .exact Cj hn q d1
  .rw [show [a,b].flatten=a++b by simp]at q
   rcases mAq.mp q with q|q
   .obtain ⟨u,v,e⟩:=UC q;exact OD hn d1 h nda e ⟨u,v,by rw[←e];simp,rfl⟩
   .obtain ⟨u,v,e⟩:=UC q;rw[←BZ];exact OD hn d1 h' (by rw[xn];exact ndb) e ⟨u,v,by rw[←e];simp,rfl⟩
 .rw [uf,vB,EA];have e1:=h.to hn;have e2:=h'.to hn;rw[Tw]at e2;have q1:(nx rs z = -z)↔a=[]:=by
   rw[e1];cases a with
   |nil=>simp
   |cons y a =>
    have:=cQ.mp (nda y (by simp))
    simp[this.2]
  have q2:(nx rs (-z)=z)↔b=[]:=by
   rw[e2];cases b with
   |nil=>simp
   |cons y b =>
    have:=cQ.mp (ndb y (by simp))
    simp[this.1]
  have q3:¬ (nx rs (-z) = -z/\nx rs z=z):=by
   rintro⟨q,_⟩;rw[e2]at q;cases b with
   |nil=>exact hz q
   |cons y b =>
    have:=cQ.mp (ndb y (by simp))
    exact this.2 q
  simp only[q1,q2,if_neg q3];lia
theorem Cc(hn:rs.flatten.Nodup) {z:Int}(hz:z ≠ -z) {a b:List Int}(h:Rt rs z a) (h':Rt rs (-z) b) (hna:-z∉a):PL rs z (rest z rs++[a++b]):=by
 have nd:=h.nd hn;have nd':=h'.nd hn;obtain⟨r,hr,er⟩:=h.row;obtain⟨s,hs,es⟩:=h'.row;have zr:z∈r:=(er z).mpr (by simp)
 have zs':-z∈s:=(es (-z)).mpr (by simp)
 have hrs:r≠s:=fun q=>by
  subst q;have:=(er (-z)).mp zs';rcases Si.mp this with q|q
  .exact hz q.symm
  .exact hna q
 have zb:z∉b:=fun q=>hrs (iV hn hr hs zr ((es z).mpr (mCo _ q)))
 have nda:∀e∈a,pz z e=true:=fun e he=>cQ.mpr ⟨fun q=>(Sm.mp nd).1 (q ▸ he),fun q=>hna (q ▸ he)⟩
 have ndb:∀e∈b,pz z e=true:=fun e he=>cQ.mpr ⟨fun q=>zb (q ▸ he),fun q=>(Sm.mp nd').1 (q ▸ he)⟩
 have k1:[a++b].flatten.Nodup:=by
  rw[show [a++b].flatten=a++b by simp,nAq]
  refine⟨(Sm.mp nd).2,(Sm.mp nd').2,fun x hx y hy e=>?_⟩
  subst e;exact hrs (iV hn hr hs ((er x).mpr (mCo _ hx)) ((es x).mpr (mCo _ hy)))
 obtain⟨d1,d2⟩:=Ce hn (z:=z) k1 fun x=>by
  rw[show [a++b].flatten=a++b by simp,mAq]
  constructor
  .rintro (q|q)
   .exact ⟨nda x q,r,hr,(er x).mpr (mCo _ q),.inl zr⟩
   .exact ⟨ndb x q,s,hs,(es x).mpr (mCo _ q),.inr zs'⟩
  .rintro ⟨hx,t,ht,hxt,q⟩;have hx:=cQ.mp hx;rcases q with q|q
   .have:=iV hn ht hr q zr;subst this;have:=(er x).mp hxt;simp[hx.1]at this;exact .inl this
   .have:=iV hn ht hs q zs';subst this;have:=(es x).mp hxt;simp[hx.2]at this;exact .inr this
 refine⟨d1,d2,fun x hx=>?_,?_,by rw[lAq];have:=yM (rs:=rs) z;show _+1<=_;lia⟩
 .rw [fAq]at hx;rcases mAq.mp hx with q|q
  .exact Cj hn q d1
  .rw [show [a++b].flatten=a++b by simp]at q
   rcases mAq.mp q with q|q
   .obtain ⟨u,v,e⟩:=UC q;exact OA hn d1 h h' nda ndb e ⟨u,v++b,by rw[e];simp,rfl⟩
   .obtain ⟨u,v,e⟩:=UC q;rw[←BZ];exact OA hn d1 h' (by rw[Tw];exact h) (by rw[xn];exact ndb) (by rw[xn];exact nda) e ⟨a++u,v,by rw[e];simp,by simp⟩
 .rw [uf,vB,uC];have e1:=h.to hn;have e2:=h'.to hn;have q1:¬ (nx rs z = -z):=by
   rw[e1];cases a with
   |nil=>exact hz
   |cons y a=>exact(cQ.mp (nda y (by simp))).2
  have q2:¬ (nx rs (-z)=z):=by
   rw[e2];cases b with
   |nil=>exact hz.symm
   |cons y b=>exact(cQ.mp (ndb y (by simp))).1
  have q3:(nx rs (-z) = -z/\nx rs z=z)↔a++b=[]:=by
   rw[e1,e2];cases a with
   |cons y a =>
    have:=(cQ.mp (nda y (by simp))).1
    simp[this]
   |nil =>
    cases b with
    |cons y b =>
     have:=(cQ.mp (ndb y (by simp))).2
     simp[this]
    |nil=>simp
  simp only[if_neg q1,if_neg q2,q3];lia
end
section
variable {rs:List (List Int)}
theorem ku(rs:List (List Int)):bare rs=rs.count []:=by
 unfold bare;rw[List.count];congr 1;funext r;cases r <;> rfl
theorem wD{r:List Int}:good r=[]↔r=[]:=by
 rw[←TQ,jW,TQ]
theorem vL:∀rs:List (List Int),bare (rs.map good)=bare rs
 | []=>rfl
 |r::rs=>by
  have ih:=vL rs;unfold bare at ih ⊢;rw[Sq,TL,TL,ih];simp only[wD]
theorem yW(rs:List (List Int)):bare (eK (rs.map good))=bare rs:=by
 rw[ku,(aS _).count_eq,←ku,vL]
theorem E4(rs:List (List Int)):(ee rs).flatten=[]:=by
 unfold ee;refine Uy.mpr fun l hl=>?_
 obtain⟨x,_,rfl⟩:=mMq.mp hl;rfl
theorem pV(hm:Mp rs):∃M:List (List Int),cP [dM rs]=some (.ow (M.map aI))/\M.flatten.Perm rs.flatten/\bare M=bare rs/\M.length<=rs.length+rs.flatten.length/\∀x∈M.flatten,nx M x=fw rs x:=by
 obtain⟨L,o1,e1⟩:=jv hm;have pL:L.flatten.Perm rs.flatten:=(Tb o1.dj hm.hn).mpr o1.all;have hL1:∀l∈L,1<=l.length:=fun l hl=>by obtain⟨e,c⟩:=o1.cy l hl;exact c.len
 have hLl:=uS hL1;rw[pL.length_eq]at hLl;have hf0:(ee rs++L).flatten=L.flatten:=by rw[fAq,E4,T5]
 have pM:(eK ((ee rs++L).map good)).flatten.Perm rs.flatten:=by
  refine(cO (aS _)).trans ((bb bA _).trans ?_);rw[hf0];exact pL
 have hcnt:(eK ((ee rs++L).map good)).count []=rs.count []:=by
  rw[(aS _).count_eq,mBq,cAq,uK hL1,gI,Ur,show good []=[] from rfl,V1]
  rfl
 have hMl:(eK ((ee rs++L).map good)).length<=rs.length+rs.flatten.length:=by
  have:=oP rs;rw[cJ,lMq,lAq];lia
 have hrow:∀l∈eK ((ee rs++L).map good),l=[]∨∃e,Cy (fw rs) e l:=fun l hl=>by
  obtain⟨m,hm',rfl⟩:=mMq.mp ((aS _).mem_iff.mp hl);rcases mAq.mp hm' with q|q
  .left;unfold ee at q;obtain⟨x,_,rfl⟩:=mMq.mp q;rfl
  .right;obtain⟨e,c⟩:=o1.cy m q;exact sV c
 refine⟨_,e1,pM,by rw[ku,ku,hcnt],hMl,fun x hx=>CI (pM.nodup_iff.mpr hm.hn) hrow hx⟩
theorem Nd{T:List (List Int)}(hn:T.flatten.Nodup) {x:Int}(hx:x∈T.flatten):nx (eK (T.map good)) x=nx T x:=by
 have pN:(eK (T.map good)).flatten.Perm T.flatten:=(cO (aS _)).trans (bb bA _);refine CI (pN.nodup_iff.mpr hn) (fun l hl=>?_) (pN.mem_iff.mpr hx)
 obtain⟨m,hm',rfl⟩:=mMq.mp ((aS _).mem_iff.mp hl);cases m with
 |nil=>exact .inl rfl
 |cons y m=>exact .inr (sV (Ae hn hm' rfl))
theorem Gp{T D:List (List Int)}(hm:Mp T) (hD:D.flatten.Nodup) (hE:∀x,x∈T.flatten↔x∈D.flatten) (hf:∀x∈T.flatten,fw T x=nx D x) (hb:bare T=bare D):cP [dM T]=some (.ow ((eK (D.map good)).map aI)):=by
 obtain⟨L,o,e⟩:=jv hm;have o':=vD (lK hm) hf hE o;have hp:=o'.perm (GX hD) (zl hD);rw[e];have hq:((ee T++L).map good).Perm (D.map good):=by
  rw[mBq,gI T,←ku,hb,ku,←gI D];refine(TN.append_left _ hp).trans ?_;rw[←mBq];exact(sO D).map good
 rw[nR hq]
theorem Pp(z:Int) (M:List (List Int)):K23.C z M=M.map fun r=>r.filter (pz z):=rfl
theorem drawn(hm:Mp rs) (hlen:rs.length+rs.flatten.length<=900) {z:Int}(hz:z∈rs.flatten) (hne:z ≠ -z):∃M:List (List Int),cP [dM rs]=some (.ow (M.map aI))/\M.flatten.Perm rs.flatten/\M.length<=900/\∀D,PL rs z D->bare (K23.C z M)=bare D/\cP [dM (eK ((K23.C z M).map good))]=some (.ow ((eK (D.map good)).map aI)):=by
 obtain⟨M,e1,pM,bM,lM,hx⟩:=pV hm;have nM:M.flatten.Nodup:=pM.nodup_iff.mpr hm.hn;have hz':=hm.hneg z hz;refine⟨M,e1,pM,by lia,fun D hD=>?_⟩
 have x1:nx M z=nx rs (-z):=hx z (pM.mem_iff.mpr hz);have x2:nx M (-z)=nx rs z:=by rw[hx (-z) (pM.mem_iff.mpr hz')];unfold fw;rw[Tw]
 have b1:=yJ hne (rs:=M) fun r hr=>Sy.sublist (SG hr) nM
 rw[B0 nM (pM.mem_iff.mpr hz),B0 nM (pM.mem_iff.mpr hz'),Jn nM hne (pM.mem_iff.mpr hz),x1,x2,bM]at b1;have hb:bare (K23.C z M)=bare D:=by
  rw[Pp,b1,hD.br];lia
 refine⟨hb,?_⟩;have cf:(K23.C z M).flatten=M.flatten.filter (pz z):=K23.tS;have nC:(K23.C z M).flatten.Nodup:=by rw[cf];exact Sy.sublist TM nM
 have pN:(eK ((K23.C z M).map good)).flatten.Perm (K23.C z M).flatten:=(cO (aS _)).trans (bb bA _);have hmem:∀x,x∈(eK ((K23.C z M).map good)).flatten↔x∈rs.flatten/\pz z x=true:=fun x=>by rw[pN.mem_iff,cf,S5,pM.mem_iff]
 have hlC:(K23.C z M).length=M.length:=by unfold K23.C;rw[lMq]
 have neg:∀x,pz z x=true->pz z (-x)=true:=fun x h=>by rw[cQ]at h ⊢;lia
 have mpN:Mp (eK ((K23.C z M).map good)):=⟨pN.nodup_iff.mpr nC,by
   rw[pN.length_eq,cf];have:=Um (pz z) M.flatten;rw[pM.length_eq]at this;lia,by rw[cJ,lMq,hlC];lia,fun e he=>by
   have:=(hmem e).mp he;exact(hmem (-e)).mpr ⟨hm.hneg e this.1,neg e this.2⟩⟩
 refine Gp mpN hD.nd (fun x=>by rw[hmem,hD.mem]) (fun x hxN=>?_) (by rw[yW,hb])
 have h1:=(hmem x).mp hxN;have hn1:-x∈rs.flatten:=hm.hneg x h1.1;have hn2:-x∈(K23.C z M).flatten:=by rw[cf,S5,pM.mem_iff];exact⟨hn1,neg x h1.2⟩
 rw[hD.on x ((hD.mem x).mpr h1)];show nx (eK ((K23.C z M).map good)) (-x)=_;rw[Nd nC hn2,Pp,Mw nM nC (pM.mem_iff.mpr hn1) (neg x h1.2)];have f1:∀t∈rs.flatten,nx M t=nx rs (-t):=fun t ht=>hx t (pM.mem_iff.mpr ht)
 have g1:nx M (-x)=nx rs x:=by rw[f1 _ hn1,Tw]
 have m1:=qX hm.hn h1.1;have m2:=qX hm.hn (hm.hneg _ m1);unfold QP Ew;rw[g1,f1 _ m1,f1 _ m2]
end
end K25
namespace K43
open PySem L2 Mr Z Xe Zl
open K51 (fB Ps Pc)
section
variable {rs A B:List (List Int)}
theorem vd(h:Mp rs):K51.Mp rs:=⟨h.hn,h.hl,h.hr,h.hneg⟩
theorem Hk(e:Int):K51.plc rs e=plc rs e:=rfl
structure Pe (rs:List (List Int)) (l:List Nat):Prop where
 lt:∀k∈l,k<rs.length
 pw:l.Pairwise fun a b=>¬ fB rs a b
theorem Pe.nd{l:List Nat}(h:Pe rs l):l.Nodup:=by
 rw[Su];exact h.pw.imp (fun {a b} n (e:a=b)=>n (e ▸ (.base:fB rs a a)))
theorem FO{PS:List (List Nat)}{k:Nat}(h:∃ps∈PS,k∈ps):∃ps,PS[PS.findIdx fun p=>decide (k∈p)]?=some ps/\k∈ps:=by
 obtain⟨ps,h1,h2⟩:=h;have hl:PS.findIdx (fun p=>decide (k∈p))<PS.length:=UM ⟨ps,h1,decide_eq_true h2⟩
 have h3:=VG (xs:=PS) (p:=fun p=>decide (k∈p)) (w:=hl)
 exact⟨_,gEg hl,of_decide_eq_true h3⟩
theorem oV(hm:Mp rs) {kn:List Nat}{PS:List (List Nat)}(hp:Ps rs rs.length kn PS) {l:List Nat}(h:Pe rs l):l.length<=PS.length:=by
 have hf:∀k∈l,∃ps,PS[PS.findIdx fun p=>decide (k∈p)]?=some ps/\k∈ps:=fun k hk=>FO (hp.mem k (hp.all k (h.lt k hk)))
 have:=K51.Ny PS.length (l.map fun k=>PS.findIdx fun p=>decide (k∈p)) (by
  rw[Su,S8];refine Sy.imp_of_mem (fun {a b} ha hb n e=>n ?_) h.pw
  obtain⟨p,p1,p2⟩:=hf a ha;obtain⟨q,q1,q2⟩:=hf b hb;rw[e,q1]at p1;have epq:=Sz.inj p1;subst epq;obtain⟨s,_,pc⟩:=hp.pc q (mGq q1);exact(K51.fB.symm (vd hm) ((pc.iff a).mp p2)).trans ((pc.iff b).mp q2)) (fun x hx=>by
  obtain⟨k,hk,rfl⟩:=mMq.mp hx;obtain⟨p,p1,_⟩:=hf k hk;exact(gSq.mp p1).1)
 rwa [lMq]at this
theorem MJ{ps:List Nat}(h:ps≠[]):ps.headD 0∈ps:=by
 cases ps with
 |nil=>exact absurd rfl h
 |cons a ps=>exact Ss ..
theorem uw(hm:Mp rs) {kn:List Nat}{PS:List (List Nat)}(hp:Ps rs rs.length kn PS):∃l,Pe rs l/\l.length=PS.length/\∀k,k<rs.length->∃r∈l,fB rs k r:=by
 have hne:∀ps∈PS,ps.headD 0∈ps:=fun ps h=>MJ fun e=>by
  obtain⟨s,_,pc⟩:=hp.pc ps h;have:=(pc.iff s).mpr .base;rw[e]at this;cases this
 have cls:∀ps∈PS,∀a∈ps,∀b,fB rs a b->b∈ps:=fun ps h a ha b hab=>by
  obtain⟨s,_,pc⟩:=hp.pc ps h;exact(pc.iff b).mpr (((pc.iff a).mp ha).trans hab)
 refine⟨PS.map fun ps=>ps.headD 0,⟨fun k hk=>?_,?_⟩,lMq _,fun k hk=>?_⟩
 .obtain ⟨ps,h,rfl⟩:=mMq.mp hk;exact hp.lt _ (hp.sub ps h _ (hne ps h))
 .rw [S8];refine Sy.imp_of_mem (fun {a b} ha hb d r=>?_) hp.dj
  exact d _ (cls a ha _ (hne a ha) _ r) (hne b hb)
 .obtain ⟨ps,h1,h2⟩:=hp.mem k (hp.all k hk);refine⟨_,mMq.mpr ⟨ps,h1,rfl⟩,?_⟩;obtain⟨s,_,pc⟩:=hp.pc ps h1;exact(K51.fB.symm (vd hm) ((pc.iff k).mp h2)).trans ((pc.iff _).mp (hne ps h1))
theorem GD{R:Nat->Nat->Prop}(sy:∀{a b:Nat},R a b->R b a):∀{l:List Nat},l.Pairwise R->∀{a b:Nat},a∈l->b∈l->a≠b->R a b
 | [],_,a,b,ha,_,_=>by cases ha
 |x::l,h,a,b,ha,hb,n=>by
  obtain⟨h1,h2⟩:=Uq.mp h;rcases Si.mp ha with e1|ha1
  .rcases Si.mp hb with e2|hb1
   .exact absurd (e1.trans e2.symm) n
   .rw [e1];exact h1 b hb1
  .rcases Si.mp hb with e2|hb1
   .rw [e2];exact sy (h1 a ha1)
   .exact GD sy h2 ha1 hb1 n
section
variable {M:List (List Int)}{z:Int}
theorem xB{k:Nat}{r:List Int}(h:M[k]?=some r):(K23.C z M)[k]?=some (K23.yZ z r):=by
 unfold K23.C;rw[gMq,h];rfl
theorem iN{r:List Int}{e:Int}:e∈K23.yZ z r↔e∈r/\e≠z/\e ≠ -z:=by
 unfold K23.yZ;rw[S5];simp
theorem tE{e:Int}:e∈(K23.C z M).flatten↔e∈M.flatten/\e≠z/\e ≠ -z:=by
 rw[K23.tS];exact iN
theorem pH(hm:Mp M):Mp (K23.C z M):=by
 have hs:(K23.C z M).flatten.length<=M.flatten.length:=by rw[K23.tS];exact Um _ _
 refine⟨by rw[K23.tS];exact Sy.sublist TM hm.hn,by have:=hm.hl;lia,by unfold K23.C;rw[lMq];exact hm.hr,fun e he=>?_⟩
 have h:=tE.mp he;exact tE.mpr ⟨hm.hneg e h.1,by lia,by lia⟩
theorem CA(hm:Mp M) {e:Int}(h:e∈(K23.C z M).flatten):plc (K23.C z M) e=plc M e:=by
 obtain⟨r,h1,h2⟩:=hm.at (tE.mp h).1;exact plc_eq (pH hm).hn (xB h1) (iN.mpr ⟨h2,(tE.mp h).2⟩)
theorem tI:(K23.C z M).length=M.length:=by unfold K23.C;rw[lMq]
theorem B7(hm:Mp M) {i j:Nat}(h:fB (K23.C z M) i j):fB M i j:=by
 induction h with
 |base=>exact .base
 | @step k r e _ h1 h2 ih =>
  have hk:k<M.length:=by rw[←tI (z:=z)];exact(gSq.mp h1).1
  have hr:M[k]?=some M[k]:=gEg hk;rw[xB hr]at h1;cases h1;have he:e∈(K23.C z M).flatten:=mFq.mpr ⟨_,mGq (xB hr),h2⟩;have hn:=(pH hm).hneg e he;have:K51.plc (K23.C z M) (-e)=K51.plc M (-e):=CA hm hn;rw[this];exact .step ih hr (iN.mp h2).1
theorem O8(hm:Mp M) (hz:z∈M.flatten) {i j:Nat}(h:fB M i j):fB (K23.C z M) i j∨(fB (K23.C z M) i (plc M z)/\fB (K23.C z M) (plc M (-z)) j)∨(fB (K23.C z M) i (plc M (-z))/\fB (K23.C z M) (plc M z) j):=by
 have hw:=vd (pH (z:=z) hm)
 induction h with
 |base=>exact .inl .base
 | @step k r e _ h1 h2 ih =>
  by_cases e1:e=z
  .subst e1;have hk:plc M e=k:=plc_eq hm.hn h1 h2;show _∨_∨_;rw[Hk];rcases ih with q|⟨q1,q2⟩|⟨q1,q2⟩
   .exact .inr (.inl ⟨hk ▸ q,.base⟩)
   .rw [←hk]at q2;exact .inl (q1.trans (q2.symm hw))
   .exact .inl q1
  .by_cases e2:e = -z
   .subst e2;have hk:plc M (-z)=k:=plc_eq hm.hn h1 h2;rw[Hk,Tw];rcases ih with q|⟨q1,q2⟩|⟨q1,q2⟩
    .exact .inr (.inr ⟨hk ▸ q,.base⟩)
    .exact .inl q1
    .rw [←hk]at q2;exact .inl (q1.trans (q2.symm hw))
   .have he:e∈K23.yZ z r:=iN.mpr ⟨h2,e1,e2⟩;have hf:e∈(K23.C z M).flatten:=mFq.mpr ⟨_,mGq (xB h1),he⟩;have hp:plc (K23.C z M) (-e)=plc M (-e):=CA hm ((pH hm).hneg e hf);rw[Hk,←hp];rcases ih with q|⟨q1,q2⟩|⟨q1,q2⟩
    .exact .inl (.step q (xB h1) he)
    .exact .inr (.inl ⟨q1,.step q2 (xB h1) he⟩)
    .exact .inr (.inr ⟨q1,.step q2 (xB h1) he⟩)
theorem zJ(hm:Mp M) (hz:z∈M.flatten) (hb:fB (K23.C z M) (plc M z) (plc M (-z))) {kn kn':List Nat}{PS PS':List (List Nat)}(hp:Ps M M.length kn PS) (hp':Ps (K23.C z M) (K23.C z M).length kn' PS'):PS'.length=PS.length:=by
 have hw:=vd (pH (z:=z) hm);have key:∀{i j},fB M i j->fB (K23.C z M) i j:=fun {i j} h=>by
  rcases O8 hm hz h with q|⟨q1,q2⟩|⟨q1,q2⟩
  .exact q
  .exact (q1.trans hb).trans q2
  .exact (q1.trans (hb.symm hw)).trans q2
 obtain⟨l,i1,l1,_⟩:=uw hm hp;obtain⟨l',i2,l2,_⟩:=uw (pH hm) hp';have a:=oV (pH hm) hp' (l:=l) ⟨fun k hk=>by rw[tI];exact i1.lt k hk,i1.pw.imp fun n h=>n (B7 hm h)⟩
 have b:=oV hm hp (l:=l') ⟨fun k hk=>by rw[←tI (z:=z)];exact i2.lt k hk,i2.pw.imp fun n h=>n (key h)⟩
 lia
theorem zd(hm:Mp M) (hz:z∈M.flatten) (hb:¬ fB (K23.C z M) (plc M z) (plc M (-z))) {kn kn':List Nat}{PS PS':List (List Nat)}(hp:Ps M M.length kn PS) (hp':Ps (K23.C z M) (K23.C z M).length kn' PS'):PS'.length=PS.length+1:=by
 have hw:=vd (pH (z:=z) hm);have hkm:=vd hm;have hz':=hm.hneg z hz;have zm:fB M (plc M z) (plc M (-z)):=by
  obtain⟨r,h1,h2⟩:=hm.at hz;exact .step .base h1 h2
 obtain⟨l,i1,l1,c1⟩:=uw hm hp;obtain⟨l',i2,l2,_⟩:=uw (pH hm) hp';have b:=oV hm hp (l:=l'.filter fun k=>!@decide (fB (K23.C z M) (plc M (-z)) k) (Th _)) ⟨fun k hk=>by rw[←tI (z:=z)];exact i2.lt k (S5.mp hk).1,by
  have hs:=i2.pw.sublist (TM (p:=fun k=>!@decide (fB (K23.C z M) (plc M (-z)) k) (Th _)))
  refine Sy.imp_of_mem (fun {x y} hx hy n h=>?_) hs
  have nx:¬ fB (K23.C z M) (plc M (-z)) x:=by simpa using (S5.mp hx).2
  have ny:¬ fB (K23.C z M) (plc M (-z)) y:=by simpa using (S5.mp hy).2
  rcases O8 hm hz h with q|⟨q1,q2⟩|⟨q1,q2⟩
  .exact n q
  .exact ny q2
  .exact nx (q1.symm hw)⟩
 have few:(l'.filter fun k=>@decide (fB (K23.C z M) (plc M (-z)) k) (Th _)).length<=1:=by
  have hs:=i2.pw.sublist (TM (p:=fun k=>@decide (fB (K23.C z M) (plc M (-z)) k) (Th _)))
  have hm':∀x∈l'.filter fun k=>@decide (fB (K23.C z M) (plc M (-z)) k) (Th _),fB (K23.C z M) (plc M (-z)) x:=fun x hx=>by simpa using (S5.mp hx).2
  generalize (l'.filter fun k=>@decide (fB (K23.C z M) (plc M (-z)) k) (Th _))=L at hs hm'
  match L,hs,hm' with
  | [],_,_=>exact Tf _
  | [x],_,_=>exact Sg _
  |x::y::L,hs,hm' =>
   exact absurd (((hm' x (by simp)).symm hw).trans (hm' y (by simp))) ((Uq.mp hs).1 y (by simp))
 have tot:=TF (p:=fun k=>@decide (fB (K23.C z M) (plc M (-z)) k) (Th _)) (l:=l')
 rw[Ti,Ti]at tot;have e1:(l'.filter fun a=>decide ¬ (@decide (fB (K23.C z M) (plc M (-z)) a) (Th _))=true)=l'.filter fun k=>!@decide (fB (K23.C z M) (plc M (-z)) k) (Th _):=by
  congr 1;funext k;rw[T3];simp
 obtain⟨r,hr,ra⟩:=c1 (plc M z) (hm.lt hz);have a:=oV (pH hm) hp' (l:=plc M z::plc M (-z)::l.erase r) ⟨fun k hk=>by
   rw[tI];rcases Si.mp hk with rfl|hk
   .exact hm.lt hz
   .rcases Si.mp hk with rfl|hk
    .exact hm.lt hz'
    .exact i1.lt k (Wr hk),by
  have out:∀k∈l.erase r,¬ fB M r k:=fun k hk h=>by
   have hne:r≠k:=fun e=>by
    subst e;exact(List.Nodup.not_mem_erase i1.nd) hk
   have hin:=Wr hk;exact GD (R:=fun a b=>¬ fB M a b) (fun n c=>n (c.symm hkm)) i1.pw hr hin hne h
  refine Uq.mpr ⟨fun k hk q=>?_,Uq.mpr ⟨fun k hk q=>?_,(i1.pw.sublist List.erase_sublist).imp fun n h=>n (B7 hm h)⟩⟩
  .rcases Si.mp hk with rfl|hk
   .exact hb q
   .exact out k hk ((ra.symm hkm).trans (B7 hm q))
  .exact out k hk ((ra.symm hkm).trans (zm.trans (B7 hm q)))⟩
 have le:=V7 hr;have lp:=Vt hr;rw[lCq,lCq,le]at a;rw[e1]at tot;lia
end
structure OC (A B:List (List Int)):Prop where
 sub:∀e∈A.flatten,e∈B.flatten
 row:∀r∈A,∀e∈r,∀e'∈r,plc B e=plc B e'
theorem Jw(ha:Mp A) (hb:Mp B) (t:OC A B) {s j:Nat}(h:fB A s j) {r r':List Int}(hs:A[s]?=some r) (hj:A[j]?=some r') {e e':Int}(he:e∈r) (he':e'∈r'):fB B (plc B e) (plc B e'):=by
 induction h generalizing r' e' with
 |base =>
  rw[hs]at hj;cases hj;rw[t.row r (mGq hs) e he e' he'];exact .base
 | @step k q x h1 h2 h3 ih =>
  have i1:=ih h2 h3;have hx:x∈A.flatten:=mFq.mpr ⟨q,mGq h2,h3⟩;obtain⟨p,p1,p2⟩:=hb.at (t.sub x hx);have i2:=fB.step i1 p1 p2;obtain⟨u,u1,u2⟩:=ha.at (ha.hneg x hx);rw[Hk]at hj i2;have eu:u=r':=Sz.inj (u1.symm.trans hj);subst eu;rw[←t.row u (mGq u1) (-x) u2 e' he'];exact i2
def emp(B:List (List Int)):List Nat:=(To B.length).filter fun k=>decide (B.getD k []=[])
theorem vI{k:Nat}(h:k<B.length):B[k]?=some (B.getD k []):=by rw[gDq,gEg h];rfl
theorem Ba(B:List (List Int)):(To B.length).map (fun k=>B.getD k [])=B:=by
 refine Uw fun i=>?_
 rw[gMq]
 by_cases h:i<B.length
 .rw [Ui h,vI h];rfl
 .rw [S0 (by rw[Te];lia),S0 (by lia)]
  rfl
theorem sm(B:List (List Int)):(emp B).length=bare B:=by
 unfold emp bare;rw[←Ti];have:B.countP (fun r=>decide (r=[]))=((To B.length).map (fun k=>B.getD k [])).countP (fun r=>decide (r=[])):=by rw[Ba]
 rw[this,W3];rfl
theorem jN{k:Nat}:k∈emp B↔k<B.length/\B.getD k []=[]:=by
 unfold emp;rw[S5,US];simp
theorem su{k j:Nat}(h:fB B k j) (he:B.getD k []=[]):j=k:=by
 induction h with
 |base=>rfl
 | @step k' r e h1 h2 h3 ih =>
  have:=ih;subst this;rw[gDq,h2]at he;rw[show r=[] from he]at h3
  cases h3
theorem wo(ha:Mp A) (hb:Mp B) (t:OC A B) (t':OC B A) (hbare:bare A=bare B) {kn kn':List Nat}{PS PS':List (List Nat)}(hp:Ps A A.length kn PS) (hp':Ps B B.length kn' PS'):PS.length<=PS'.length:=by
 obtain⟨l,i1,l1,_⟩:=uw ha hp
 let f:Nat->Nat:=fun k=>plc B ((A.getD k []).headD 0)
 have hd:∀k∈l.filter (fun k=>!decide (A.getD k []=[])),A[k]?=some (A.getD k [])/\(A.getD k []).headD 0∈A.getD k []/\(A.getD k []).headD 0∈A.flatten:=fun k hk=>by
  obtain⟨h1,h2⟩:=S5.mp hk;have g:=vI (i1.lt k h1);have h3:A.getD k []≠[]:=by simpa using h2
  have h4:(A.getD k []).headD 0∈A.getD k []:=by
   generalize A.getD k []=r at h3;cases r with
   |nil=>exact absurd rfl h3
   |cons x r=>exact Ss ..
  exact⟨g,h4,mFq.mpr ⟨_,mGq g,h4⟩⟩
 have key:=oV hb hp' (l:=(l.filter fun k=>!decide (A.getD k []=[])).map f++emp B) ⟨fun k hk=>by
   rcases mAq.mp hk with q|q
   .obtain ⟨k0,hk0,rfl⟩:=mMq.mp q;exact hb.lt (t.sub _ (hd k0 hk0).2.2)
   .exact (jN.mp q).1,by
  refine SV.mpr ⟨?_,?_,fun a ha' b hb' h=>?_⟩
  .rw [S8];refine Sy.imp_of_mem (fun {x y} hx hy n h=>n ?_) (i1.pw.sublist TM)
   obtain⟨x1,x2,x3⟩:=hd x hx;obtain⟨y1,y2,y3⟩:=hd y hy;obtain⟨p,p1,p2⟩:=hb.at (t.sub _ x3);obtain⟨q,q1,q2⟩:=hb.at (t.sub _ y3);have:=Jw hb ha t' h p1 q1 p2 q2
   rwa [plc_eq ha.hn x1 x2,plc_eq ha.hn y1 y2]at this
  .have nd:(emp B).Nodup:=Sy.sublist TM VC;refine Sy.imp_of_mem (fun {x y} hx hy n h=>n ?_) (Su.mp nd)
   exact(su h (jN.mp hx).2).symm
  .obtain ⟨k,hk,rfl⟩:=mMq.mp ha';have e:=su (h.symm (vd hb)) (jN.mp hb').2;obtain⟨p,p1,p2⟩:=hb.at (t.sub _ (hd k hk).2.2);have:=(jN.mp hb').2;rw[←e,gDq]at this;rw[show B[f k]?=some p from p1]at this
   rw[show p=[] from this]at p2
   cases p2⟩
 rw[lAq,lMq,sm]at key;have few:(l.filter fun k=>decide (A.getD k []=[])).length<=bare A:=by
  rw[←sm];have hs:=i1.nd.sublist (TM (p:=fun k=>decide (A.getD k []=[])))
  have hsub:∀x∈l.filter fun k=>decide (A.getD k []=[]),x∈emp A:=fun x hx=>by
   obtain⟨h1,h2⟩:=S5.mp hx;exact jN.mpr ⟨i1.lt x h1,of_decide_eq_true h2⟩
  have:=Aj ((l.filter fun k=>decide (A.getD k []=[])).map fun k:Nat=>(k:Int)) ((emp A).map fun k:Nat=>(k:Int)) (by
   rw[Su,S8];exact(Su.mp hs).imp (fun {a b} n e=>n (by lia))) (fun x hx=>by
   obtain⟨k,hk,rfl⟩:=mMq.mp hx;exact mMq.mpr ⟨k,hsub k hk,rfl⟩)
  rwa [lMq,lMq]at this
 have tot:=TF (p:=fun k=>decide (A.getD k []=[])) (l:=l)
 rw[Ti,Ti]at tot;have e1:(l.filter fun a=>decide ¬ (decide (A.getD a []=[])=true))=l.filter fun k=>!decide (A.getD k []=[]):=by
  congr 1;funext k;rw[T3];simp
 rw[e1]at tot;lia
theorem GC{T:List (List Int)}(hn:T.flatten.Nodup):OC T (eK (T.map good))/\OC (eK (T.map good)) T:=by
 have pf:=vU T;have hn':(eK (T.map good)).flatten.Nodup:=pf.nodup_iff.mpr hn;refine⟨⟨fun e he=>pf.mem_iff.mpr he,fun r hr e he e' he'=>?_⟩,⟨fun e he=>pf.mem_iff.mp he,fun r hr e he e' he'=>?_⟩⟩
 .have hg:good r∈eK (T.map good):=(aS _).mem_iff.mpr (mMq.mpr ⟨r,hr,rfl⟩);obtain⟨i,hi⟩:=Sw.mp hg;rw[plc_eq hn' hi ((bA r).mem_iff.mpr he),plc_eq hn' hi ((bA r).mem_iff.mpr he')]
 .obtain ⟨q,hq,rfl⟩:=mMq.mp ((aS _).mem_iff.mp hr);obtain⟨i,hi⟩:=Sw.mp hq;rw[plc_eq hn hi ((bA q).mem_iff.mp he),plc_eq hn hi ((bA q).mem_iff.mp he')]
end
end K43
namespace K11
open PySem L2 Mr Z
end K11
--ZQ3 --ZQ4 --ZQ5 --ZQ6 --ZQ8 --ZQ9 --ZQB --ZQC --ZQD --ZQE --ZQF
namespace K11
open PySem L2 Mr Z Xe Zl K12
def tm(p:List (List Int)):Prop:=∀k,0<k->k<p.length->∃j e,j<k/\e∈p.getD j []/\-e∈p.getD k []
structure Cn (p:List (List Int)):Prop where
 ne:p≠[]
 clo:∀z∈p.flatten, -z∈p.flatten
 tr:tm p
structure Wc (w:Wd):Prop where
 old:∀p∈w.P0,Cn p
 clo:∀z,(z∈w.last.flatten∨z∈w.left)->(-z∈w.last.flatten∨-z∈w.left)
 tr:tm w.last
theorem gj{l:List (List Int)}{h:Nat}{r x:List Int}(hr:l[h]?=some r) {z:Int}:z∈(l.set h (r++x)).flatten↔z∈l.flatten∨z∈x:=by
 rw[←Tv,←Tv,←Tv,lV z hr];lia
theorem pO{l:List (List Int)}{h:Nat}{r x:List Int}(hr:l[h]?=some r) {k:Nat}{e:Int}(he:e∈l.getD k []):e∈(l.set h (r++x)).getD k []:=by
 rw[gDq]at he ⊢
 by_cases q:h=k
 .subst q;have hlt:=(gSq.mp hr).1;rw[S6 hlt];rw[hr]at he;exact T7 _ he
 .rw [SI q];exact he
theorem xl{l:List (List Int)}{h:Nat}{r x:List Int}(hr:l[h]?=some r) {e:Int}(he:e∈x):e∈(l.set h (r++x)).getD h []:=by
 have hlt:=(gSq.mp hr).1;rw[gDq,S6 hlt];exact SB _ he
theorem tm.set{l:List (List Int)}{h:Nat}{r x:List Int}(t:tm l) (hr:l[h]?=some r):tm (l.set h (r++x)):=fun k h0 hk=>by
 rw[lZq]at hk;obtain⟨j,e,h1,h2,h3⟩:=t k h0 hk;exact⟨j,e,h1,pO hr h2,pO hr h3⟩
theorem getD_app{l:List (List Int)}{x:List Int}{k:Nat}(h:k<l.length):(l++[x]).getD k []=l.getD k []:=by
 rw[gDq,gDq,gZq h]
theorem G9{l:List (List Int)}{x:List Int}:(l++[x]).getD l.length []=x:=by
 rw[gDq,gYq (Sg _),T2];rfl
theorem tm.add{l:List (List Int)}{h:Nat}{e:Int}(t:tm l) (hh:h<l.length) (he:e∈l.getD h []):tm (l++[[-e]]):=fun k h0 hk=>by
 rw[lAq,lSq]at hk
 by_cases q:k<l.length
 .obtain ⟨j,e',h1,h2,h3⟩:=t k h0 q;exact⟨j,e',h1,by rw[getD_app (by lia)];exact h2,by rw[getD_app q];exact h3⟩
 .have ek:k=l.length:=by lia
  subst ek;exact⟨h,e,hh,by rw[getD_app hh];exact he,by rw[G9];simp⟩
theorem ye(r:List Int):tm [r]:=fun k h0 hk=>by
 rw[lSq]at hk;lia
theorem Av{l:List Int}{j:Nat}(hj:j<l.length) {z:Int}:z∈l↔z∈l.eraseIdx j∨z=l.getD j 0:=by
 have:=qT z hj;rw[←Tv,←Tv (l:=l.eraseIdx j)]
 by_cases q:z=l.getD j 0
 .have:[l.getD j 0].count z=1:=by rw[q];simp
  constructor
  .exact fun _=>.inr q
  .intro _;lia
 .have:[l.getD j 0].count z=0:=WI.mpr (by simpa using q)
  constructor
  .intro _;exact .inl (by lia)
  .rintro (h|h)
   .lia
   .exact absurd h q
theorem Wc.step{nm:List Int}{w:Wd}{n:Nat}(ok:WOk nm w n) (h:Wc w) (c:Int):Wc (wstep nm w c):=by
 obtain⟨P0,last,t0,hd,left,used⟩:=w;have hh:hd<last.length:=ok.hh;obtain⟨old,clo,tr⟩:=h;simp only at old clo tr;have hr:last[hd]?=some (last.getD hd []):=by rw[gDq,gEg hh];rfl
 unfold wstep;simp only;generalize IL c (nm.getD used 0)=e;split
 .split
  .refine ⟨old,fun z hz=>?_,tr.set hr⟩
   simp only at hz ⊢;rw[gj hr,mAq,mSq,mSq]at hz ⊢;rcases hz with (hz|hz)|(hz|hz)
   .rcases clo z (.inl hz) with q|q
    .exact .inl (.inl q)
    .exact .inr (.inl q)
   .exact .inr (.inr (by rw[hz]))
   .rcases clo z (.inr hz) with q|q
    .exact .inl (.inl q)
    .exact .inr (.inl q)
   .exact .inl (.inr (by rw[hz,Tw]))
  .refine ⟨old,fun z hz=>?_,?_⟩
   .simp only at hz ⊢;rw[fAq,SZ,mAq,gj hr,mSq,mSq]at hz ⊢;rcases hz with ((hz|hz)|hz)|hz
    .rcases clo z (.inl hz) with q|q
     .exact .inl (.inl (.inl q))
     .exact .inr q
    .exact .inl (.inr (by rw[hz]))
    .exact .inl (.inl (.inr (by rw[hz,Tw])))
    .rcases clo z (.inr hz) with q|q
     .exact .inl (.inl (.inl q))
     .exact .inr q
   .exact (tr.set hr).add (by rw[lZq];exact hh) (xl hr (by simp))
 .split
  .split
   .exact ⟨old,clo,tr⟩
   .rename_i hne;have hpos:0<left.length:=UU.mpr hne;have hlt:(c / 16 % (left.length:Int)).toNat<left.length:=by
     have b0:0<=c / 16 % (left.length:Int):=TH _ (by lia)
     have b1:c / 16 % (left.length:Int)<(left.length:Int):=TC _ (by lia)
     lia
    generalize (c / 16 % (left.length:Int)).toNat=j at hlt;refine⟨old,fun z hz=>?_,tr.set hr⟩
    simp only at hz ⊢;have hm:∀y:Int,((y∈last.flatten∨y∈[left.getD j 0])∨y∈left.eraseIdx j)↔(y∈last.flatten∨y∈left):=fun y=>by
     rw[Av hlt (z:=y),mSq,or_assoc,or_comm (a:=y=left.getD j 0)]
    rw[gj hr,hm]at hz ⊢;exact clo z hz
  .split
   .split
    .exact ⟨old,clo,tr⟩
    .exact ⟨old,clo,tr⟩
   .refine ⟨fun p hp=>?_,fun z hz=>?_,ye []⟩
    .rcases mAq.mp hp with q|q
     .exact old p q
     .rw [mSq.mp q];refine⟨fun z=>?_,fun z hz=>?_,tr.set hr⟩
      .have:=congrArg TJ z;rw[lZq,T4]at this;lia
      .rw [gj hr]at hz ⊢;exact clo z hz
    .simp at hz
theorem zG{nm:List Int}:∀(cs:List Int) {w:Wd}{n:Nat},WOk nm w n->Wc w->n+cs.length<=nm.length->Wc (cs.foldl (wstep nm) w)
 | [],w,n,_,h,_=>h
 |c::cs,w,n,ok,h,hl=>by
  rw[lCq]at hl;exact zG cs (ok.step (by have:=ok.us;lia) c) (h.step ok c) (by lia)
theorem G1{w:Wd}(hh:w.h<w.last.length) (h:Wc w):∀p∈xC w,Cn p:=fun p hp=>by
 have hr:w.last[w.h]?=some (w.last.getD w.h []):=by rw[gDq,gEg hh];rfl
 unfold xC at hp;rcases mAq.mp hp with q|q
 .exact h.old p q
 .rw [mSq.mp q];refine⟨fun z=>?_,fun z hz=>?_,h.tr.set hr⟩
  .have:=congrArg TJ z;rw[lZq,T4]at this;lia
  .rw [gj hr]at hz ⊢;exact h.clo z hz
theorem Hy{nm cs:List Int}(hc:cs.length<=63) (hn:nm.length=66):∃(P:List (List (List Int))) (used:Nat),jd [dI cs,dI nm]=some (.ow (P.map aP))/\P.flatten.flatten.Perm (pB nm used)/\used<=63/\P.flatten.length<=64/\P.length<=64/\∀p∈P,Cn p:=by
 obtain⟨v6,v7,v8,v9,e⟩:=Bk (v6:=none) (v7:=none) (v8:=none) (v9:=none) hc hn;have ok:=tY (nm:=nm) cs (Ha nm) (by lia)
 have wc:Wc (cs.foldl (wstep nm) w0):=zG cs (Ha nm) ⟨fun p hp=>(by cases hp),fun z hz=>(by simp[w0]at hz),ye []⟩ (by lia)
 rw[T1]at ok;generalize cs.foldl (wstep nm) w0=w at e ok wc;have cn:=G1 ok.hh wc;have hlen:=ok.len (by have:=ok.us;lia)
 have hpm:=ok.perm;obtain⟨P0,last,t0,hd,left,used⟩:=w;obtain⟨hh,ht,us,lP,lt,tl,cnt⟩:=ok;simp only at hh ht us lP lt tl cnt hlen hpm;have hr:last[hd]?=some (last.getD hd []):=by rw[gDq,gEg hh];rfl
 have hrl:=BS hr;unfold xC at cn;simp only at cn;generalize last.getD hd []=r at hr hrl cn;have n2:=pK (P0:=P0) hr;have n1:=Fc (P0:=P0) (last:=last);have lenP:(P0++[last]).length=P0.length+1:=by simp
 have iP:=tD P0.length;have iL:xf last.length (hd:Int)=some hd:=BA hh;have at3:atI ((cN (t0++[hd])).map D.int) (-1)=some (.int (hd:Int)):=by
  unfold cN;rw[mBq,mBq];exact tG _ _
 have st3:=bu (cN (t0++[hd]));have p2:=Gq (P0:=P0) (r':=r++left) hr;have a1:=BO r left;have a1':(r.map fun n=>AV.sh (.int n))++(left.map fun n=>AV.sh (.int n))=(r++left).map fun n=>.sh (.int n):=mBq.symm
 have l1:r.length+left.length<=cX:=by show _<=16777216;lia
 have e':dg 6 ed (cs.map D.int) [some (.sh (dI cs)),some (.sh (dI nm)),some (.ow [.ow [.ow []]]),some (.ow [.sh (.int 0)]),some (.ow []),some (.sh (.int 0)),none,none,none,none]=some (.nx [some (.sh (dI cs)),some (.sh (dI nm)),some (.ow ((P0++[last]).map aP)),some (aI (cN (t0++[hd]))),some (aI left),some (.sh (.int (used:Int))),v6,v7,v8,v9]):=e;refine⟨P0++[last.set hd (r++left)],used,?_,?_,by lia,?_,?_,cn⟩
 .simp_arith [jd,uh,e',lenP,iP,n1,n2,iL,st3,dI,at3,l1,a1,a1',p2]
 .rw [WD];intro a;rw[fAq,fAq,SZ,cAq,lV a hr,←cnt a];lia
 .rw [fAq,SZ,lAq,lZq];lia
 .rw [lAq,lSq];lia
end K11
--ZQ3 --ZQ4 --ZQ5 --ZQ6 --ZQ8 --ZQ9 --ZQB --ZQC --ZQD --ZQE --ZQF --ZQG
namespace K31
open PySem L2 Mr Z Xe Zl K12
structure Wd where
 T:List (List Int)
 t0:List Nat
 h:Nat
 loose:List Int
 left:List Int
noncomputable def Q9(wild:Bool) (c:Int) (loose:List Int):Nat:=if wild then (c / 8 % loose.length).toNat else loose.length-1
noncomputable def sg(c x:Int):Int:=x*(1-2*(c / 4 % 2))
def wstep(wild:Bool) (w:Wd) (c:Int):Wd :=
 let r:=w.T.getD w.h []
 if c % 4=1/\w.t0≠[] then { w with t0:=w.t0.dropLast,h:=w.t0.getLast?.getD 0 }
 else if c % 4=2/\w.loose≠[] then { w with T:=w.T.set w.h (r++[w.loose.getD (Q9 wild c w.loose) 0]),loose:=w.loose.eraseIdx (Q9 wild c w.loose) }
 else match w.left with
  | []=>w
  |x::left=>if c % 4=0 then { w with T:=w.T.set w.h (r++[sg c x])++[[-(sg c x)]],t0:=w.t0++[w.h],h:=w.T.length,left:=left }
   else { w with T:=w.T.set w.h (r++[sg c x]),loose:=w.loose++[-(sg c x)],left:=left }
def st(v0 v1:Option AV) (wild:Bool) (w:Wd) (v7 v8 v9 v10:Option AV):AS:=[v0,v1,some (.sh (.bl wild)),some (.ow (w.T.map aI)),some (aI (cN (w.t0++[w.h]))),some (aI w.loose),some (aI w.left),v7,v8,v9,v10]
section
variable {T:List (List Int)}{t0:List Nat}{hd:Nat}{loose left r:List Int}{c:Int}{wild:Bool}{v0 v1 v8 v9 v10:Option AV}
end
end K31
--ZQ3 --ZQ4 --ZQ5 --ZQ6 --ZQ8 --ZQ9 --ZQB --ZQC --ZQD --ZQE --ZQF --ZQG
namespace K31
open PySem L2 Mr Z Xe Zl K12
noncomputable def Rr(l:List Int):List Int:=l.flatMap fun x=>[x, -x]
structure WOk (nm:List Int) (w:Wd) (n:Nat):Prop where
 hh:w.h<w.T.length
 ht:∀k∈w.t0,k<w.T.length
 lw:w.t0.length<=n
 lT:w.T.length<=n+1
 lf:w.left.length<=nm.length
 cnt:∀a,w.T.flatten.count a+w.loose.count a+(Rr w.left).count a=(Rr nm).count a
 tr:K11.tm w.T
noncomputable def w0(nm:List Int):Wd:=⟨[[]],[],0,[],nm⟩
end K31
--ZQ3 --ZQ4 --ZQ5 --ZQ6 --ZQ8 --ZQ9 --ZQB --ZQC --ZQD --ZQE --ZQF --ZQG
namespace K31
open PySem L2 Mr Z Xe Zl
end K31
--ZQ3 --ZQ4 --ZQ5 --ZQ6 --ZQ8 --ZQ9 --ZQB --ZQC --ZQD --ZQE --ZQF --ZQG
namespace K31
open PySem L2 Mr Z Xe Zl
end K31
--ZQ3 --ZQ4 --ZQ5 --ZQ6 --ZQ8 --ZQ9 --ZQB --ZQC --ZQD --ZQE --ZQF --ZQG
namespace K31
open PySem L2 Mr Z Xe Zl
open K12 (LS Cp)
end K31
--ZQ3 --ZQ4 --ZQ5 --ZQ6 --ZQ8 --ZQ9 --ZQB --ZQC --ZQD --ZQE --ZQF --ZQG
namespace K43
open PySem L2 Mr Z Xe Zl
open K51 (fB Ps Pc)
section
variable {M:List (List Int)}{z:Int}
def LR(M:List (List Int)) (z:Int):Bool:=@decide (¬ fB (K23.C z M) (plc M z) (plc M (-z))) (Th _)
def rds(M:List (List Int)):List Int:=(ff M.flatten).filter fun z=>decide (0<z)
end
end K43
namespace K17
open PySem L2 Mr Z Xe Zl
open K15 (nx fw qX jv ee)
open K25 (Rt PL cQ pz pV drawn CH Cc nc)
open K43 (vd Hk xB iN tE pH CA tI LR Pe oV emp sm jN su)
open K51 (fB Ps Pc)
section
variable {M N:List (List Int)}{z:Int}
theorem A8(hm:Mp M) {e:Int}(he:e∈M.flatten):plc M (nx M e)=plc M e:=by
 obtain⟨w,h⟩:=Rt.of he;have e1:=h.to hm.hn;obtain⟨r,hr,q⟩:=h.row;obtain⟨i,hi⟩:=Sw.mp hr;have h1:e∈r:=(q e).mpr (Ss ..);have h2:nx M e∈r:=(q _).mpr (by rw[e1];cases w <;> simp)
 rw[plc_eq hm.hn hi h1,plc_eq hm.hn hi h2]
theorem Gr(hm:Mp M) {y:Int}(hy:y∈M.flatten) (h1:y≠z) (h2:y ≠ -z):fB (K23.C z M) (plc M y) (plc M (-y)):=by
 obtain⟨r,hr,hyr⟩:=hm.at hy;have hw:y∈(K23.C z M).flatten:=tE.mpr ⟨hy,h1,h2⟩;have e:K51.plc (K23.C z M) (-y)=plc M (-y):=CA hm ((pH hm).hneg y hw);rw[←e];exact .step .base (xB hr) (iN.mpr ⟨hyr,h1,h2⟩)
theorem Ko(hm:Mp M) (hN:N.flatten.Nodup) (hx:∀x∈N.flatten,nx N x=fw M x) (hs:∀x,x∈N.flatten↔x∈M.flatten):∀(w:List Int) {y:Int}{c:List Int},Rt N y (w++z::c)->y≠z->y ≠ -z->(∀x∈w,x≠z/\x ≠ -z)->fB (K23.C z M) (plc M y) (plc M z)
 | [],y,c,h,h1,h2,_=>by
  have hy:y∈M.flatten:=(hs y).mp h.mem;have e1:nx N y=z:=h.to hN;rw[hx y h.mem]at e1;have e2:=A8 hm (hm.hneg y hy);have e3:nx M (-y)=z:=e1;rw[e3]at e2;rw[e2];exact Gr hm hy h1 h2
 |x::w,y,c,h,h1,h2,hw=>by
  have hy:y∈M.flatten:=(hs y).mp h.mem;have e1:nx N y=x:=h.to hN;rw[hx y h.mem]at e1;have e2:=A8 hm (hm.hneg y hy);have e3:nx M (-y)=x:=e1;rw[e3]at e2;have h3:Rt N x (w++z::(c++[y])):=by simpa using h.step
  have i1:=Ko hm hN hx hs w h3 (hw x (Ss ..)).1 (hw x (Ss ..)).2 fun x' hx'=>hw x' (mCo _ hx')
  rw[e2]at i1;exact(Gr hm hy h1 h2).trans i1
theorem Eg(hm:Mp M) (hN:N.flatten.Nodup) (hx:∀x∈N.flatten,nx N x=fw M x) (hs:∀x,x∈N.flatten↔x∈M.flatten) (hz:z ≠ -z) {a:List Int}(h:Rt N z a) (hna:-z∉a):LR M z=false:=by
 have hw:=vd (pH (z:=z) hm);have hzM:z∈M.flatten:=(hs z).mp h.mem;have nd:=h.nd hN;have e1:=h.to hN;rw[hx z h.mem]at e1;have e2:=A8 hm (hm.hneg z hzM);have e3:nx M (-z)=a.headD z:=e1;rw[e3]at e2;have key:fB (K23.C z M) (plc M (-z)) (plc M z):=by
  cases a with
  |nil =>
   have:plc M z=plc M (-z):=e2;rw[this];exact .base
  |cons x w =>
   have e4:plc M x=plc M (-z):=e2;rw[←e4];have h3:Rt N x (w++z::[]):=by simpa using h.step
   rw[Sm]at nd;have out:∀y∈x::w,y≠z/\y ≠ -z:=fun y hy=>⟨fun q=>nd.1 (q ▸ hy),fun q=>hna (q ▸ hy)⟩
   exact Ko hm hN hx hs w h3 (out x (by simp)).1 (out x (by simp)).2 fun y hy=>out y (mCo _ hy)
 unfold LR;simp only[decide_eq_false_iff_not,Classical.not_not];exact key.symm hw
theorem B4(z:Int):∀rs:List (List Int),rs.countP (fun r=>decide (z∈r))<=rs.flatten.count z
 | []=>Sg _
 |r::rs=>by
  have ih:=B4 z rs;rw[TL,fCq,cAq]
  by_cases h:z∈r
  .have:=Tv.mpr h;simp[h];lia
  .simp [h];lia
theorem xH(hn:N.flatten.Nodup) (hz:z∈N.flatten):N.countP (fun r=>decide (z∈r))=1:=by
 have h1:=B4 z N;have h2:=VI.mp hn z;obtain⟨r,hr,hzr⟩:=mFq.mp hz;have h3:0<N.countP (fun r=>decide (z∈r)):=List.countP_pos_iff.mpr ⟨r,hr,decide_eq_true hzr⟩
 lia
theorem GF{p q:List Int->Bool}:∀{rs:List (List Int)},(∀r∈rs,¬ (p r=true/\q r=true))->rs.countP (fun r=>p r || q r)=rs.countP p+rs.countP q
 | [],_=>rfl
 |r::rs,h=>by
  have ih:=GF (p:=p) (q:=q) (rs:=rs) fun r hr=>h r (mCo _ hr)
  have h1:=h r (Ss ..);rw[TL,TL,TL,ih];cases a:p r <;> cases b:q r <;> simp[a,b]at h1 ⊢ <;> lia
theorem GP(z:Int) (rs:List (List Int)):rs.length=(K25.rest z rs).length+rs.countP (fun r=>decide (z∈r) || decide (-z∈r)):=by
 have:=TF (p:=fun r:List Int=>decide (z∈r) || decide (-z∈r)) (l:=rs)
 unfold K25.rest;rw[←Ti];have e:rs.countP (fun a=>decide ¬ ((decide (z∈a) || decide (-z∈a))=true))=rs.countP (fun r=>!decide (z∈r) && !decide (-z∈r)):=by
  congr 1;funext r;rw[T3];simp
 rw[e]at this;lia
theorem DE(hm:Mp M) (gd:eK (M.map good)=M) (hlen:M.length+M.flatten.length<=400) (hz:z∈M.flatten) (hne:z ≠ -z):∃F G:List (List Int),K15.cP [dM M]=some (.ow (F.map aI))/\K15.cP [dM (eK ((K23.C z M).map good))]=some (.ow (G.map aI))/\((G.length=F.length+1)∨(G.length+1=F.length/\LR M z=false)):=by
 obtain⟨F,e1,pF,bF,lF,hx⟩:=pV hm;have nF:F.flatten.Nodup:=pF.nodup_iff.mpr hm.hn;have mpF:Mp F:=⟨nF,by rw[pF.length_eq];exact hm.hl,by lia,fun e he=>pF.mem_iff.mpr (hm.hneg e (pF.mem_iff.mp he))⟩
 have hzF:z∈F.flatten:=pF.mem_iff.mpr hz;have hzF':-z∈F.flatten:=pF.mem_iff.mpr (hm.hneg z hz);obtain⟨M2,e2,_,_,hD⟩:=drawn (rs:=F) (z:=z) mpF (by rw[pF.length_eq];lia) hzF hne
 obtain⟨F',f1,_,f2,_⟩:=K16.um hm (by lia)
 rw[e1]at f1;have eF:F.map aI=F'.map aI:=AV.ow.inj (Sz.inj f1);have inj:∀{A B:List (List Int)},A.map aI=B.map aI->A=B:=fun {A B} h=>by
  have:(A.map aI).map aH=(B.map aI).map aH:=by rw[h]
  rw[mPq,mPq]at this;have h2:A.map dI=B.map dI:=by
   rw[←mCq (f:=aH∘aI) fun r _=>bu r,←mCq (f:=aH∘aI) (l:=B) fun r _=>bu r]
   exact this
  have h3:(A.map dI).map mw=(B.map dI).map mw:=by rw[h2]
  rw[mPq,mPq]at h3;have idA:∀C:List (List Int),C.map (mw∘dI)=C:=fun C=>(mCq fun r _=>gq r).trans (Vb _)
  rw[idA,idA]at h3;exact h3
 have eF':=inj eF;rw[←eF',e2,gd]at f2;have eM:M2=M:=inj (AV.ow.inj (Sz.inj f2));subst eM;obtain⟨a,ha⟩:=Rt.of hzF;have rc:=GP z F;have hs:∀x,x∈F.flatten↔x∈M2.flatten:=fun x=>pF.mem_iff
 by_cases c:-z∈a
 .obtain ⟨u,v,rfl⟩:=UC c;have due:=CH nF hne ha;obtain⟨_,e3⟩:=hD _ due;refine⟨F,_,e1,e3,.inl ?_⟩;obtain⟨r,hr,er⟩:=ha.row;have zr:z∈r:=(er z).mpr (by simp)
  have zr':-z∈r:=(er (-z)).mpr (by simp)
  have cc:F.countP (fun r=>decide (z∈r) || decide (-z∈r))=F.countP (fun r=>decide (z∈r)):=by
   refine V2 fun s hs'=>?_
   simp only[W1,decide_eq_true_eq];constructor
   .rintro (q|q)
    .exact q
    .have:=K25.iV nF hs' hr q zr';rw[this];exact zr
   .exact fun q=>.inl q
  rw[cc,xH nF hzF]at rc;rw[cJ,lMq,lAq];show (K25.rest z F).length+2=_;lia
 .obtain ⟨b,hb⟩:=Rt.of hzF';have due:=Cc nF hne ha hb c;obtain⟨_,e3⟩:=hD _ due;refine⟨F,_,e1,e3,.inr ⟨?_,Eg hm nF hx hs hne ha c⟩⟩;obtain⟨r,hr,er⟩:=ha.row;have zr:z∈r:=(er z).mpr (by simp)
  have cc:=GF (p:=fun r=>decide (z∈r)) (q:=fun r=>decide (-z∈r)) (rs:=F) fun s hs' q=>by
   have q1:=of_decide_eq_true q.1;have q2:=of_decide_eq_true q.2;have:=K25.iV nF hs' hr q1 zr;rw[this]at q2;rcases Si.mp ((er (-z)).mp q2) with e|e
   .exact hne e.symm
   .exact c e
  rw[cc,xH nF hzF,xH nF hzF']at rc;rw[cJ,lMq,lAq];show (K25.rest z F).length+1+1=_;lia
theorem N3:∀(n:Nat) {M:List (List Int)},M.flatten.length=n->Mp M->eK (M.map good)=M->(∀e∈M.flatten,e≠0)->M.length<=200->n<=128->∀{kn:List Nat}{PS:List (List Nat)},Ps M M.length kn PS->∃(F:List (List Int)) (g:Nat),K15.cP [dM M]=some (.ow (F.map aI))/\4*PS.length+n=2*M.length+2*F.length+4*g:=by
 intro n
 induction n using VL with
 |_ n ih =>
  intro M hn hm gd nz hl h128 kn PS hp;cases hfl:M.flatten with
  |nil =>
   obtain⟨F,e1,pF,bF,lF,_⟩:=pV hm;rw[hfl]at hn pF;have allE:∀rs:List (List Int),rs.flatten=[]->bare rs=rs.length:=fun rs h=>by
    unfold bare;rw[List.countP_eq_length];intro r hr;have:=Uy.mp h r hr;simp[this]
   have bM:=allE M hfl;have bF':=allE F pF.eq_nil;have i1:=oV hm hp (l:=emp M) ⟨fun k hk=>(jN.mp hk).1,by
    have nd:(emp M).Nodup:=Sy.sublist TM VC;refine Sy.imp_of_mem (fun {x y} hx hy n h=>n ?_) (Su.mp nd)
    exact(su h (jN.mp hx).2).symm⟩
   rw[sm]at i1;have i2:=hp.len;refine⟨F,0,e1,?_⟩;rw[T4]at hn;lia
  |cons z rest' =>
   have hz:z∈M.flatten:=by rw[hfl];exact Ss ..
   have z0:=nz z hz;have hne:z ≠ -z:=by lia
   have hw:=pH (z:=z) hm;have pf:=vU (K23.C z M);have mpB:Mp (eK ((K23.C z M).map good)):=⟨pf.nodup_iff.mpr hw.hn,by rw[pf.length_eq];exact hw.hl,by rw[cJ,lMq];exact hw.hr,fun e he=>pf.mem_iff.mpr (hw.hneg e (pf.mem_iff.mp he))⟩
   have gB:=oX hw.hn;have lB:(eK ((K23.C z M).map good)).length=M.length:=by rw[cJ,lMq,tI]
   have cz:(K23.C z M).flatten.length+2=n:=by
    rw[K23.tS];have pm:M.flatten.Perm (z :: -z::K23.yZ z M.flatten):=by
     rw[Tb hm.hn (by
      refine Sm.mpr ⟨?_,Sm.mpr ⟨fun h=>(iN.mp h).2.2 rfl,Sy.sublist TM hm.hn⟩⟩
      intro h;rcases Si.mp h with q|q
      .exact hne q
      .exact (iN.mp q).2.1 rfl)]
     intro x;rw[Si,Si,iN];constructor
     .intro h
      by_cases q1:x=z
      .exact .inl q1
      .by_cases q2:x = -z
       .exact .inr (.inl q2)
       .exact .inr (.inr ⟨h,q1,q2⟩)
     .rintro (q|q|q)
      .rw [q];exact hz
      .rw [q];exact hm.hneg z hz
      .exact q.1
    have:=pm.length_eq;rw[lCq,lCq]at this;lia
   obtain⟨F,G,e1,e2,hc⟩:=DE hm gd (by lia) hz hne
   obtain⟨kB,PB,hB,_⟩:=K51.qJ (vd mpB);obtain⟨kW,PW,hW,_⟩:=K51.qJ (vd hw);obtain⟨t1,t2⟩:=K43.GC hw.hn;have hb:=K25.yW (K23.C z M);have x1:=K43.wo hw mpB t1 t2 hb.symm hW hB;have x2:=K43.wo mpB hw t2 t1 hb hB hW;have x3:PW.length=PS.length+(if LR M z=true then 1 else 0):=by
    unfold LR
    by_cases q:fB (K23.C z M) (plc M z) (plc M (-z))
    .rw [K43.zJ hm hz q hp hW,if_neg (by simp[q])]
     rfl
    .rw [K43.zd hm hz q hp hW,if_pos (by simp[q])]
   obtain⟨G',g,e3,eq⟩:=ih (K23.C z M).flatten.length (by lia) (M:=eK ((K23.C z M).map good)) pf.length_eq mpB gB (fun e he=>nz e ((tE.mp (pf.mem_iff.mp he)).1)) (by lia) (by lia) hB
   rw[e2]at e3;have lG:G'.length=G.length:=by
    have:G.map aI=G'.map aI:=AV.ow.inj (Sz.inj e3);have:=congrArg TJ this;rw[lMq,lMq]at this;exact this.symm
   rw[lB]at eq;rcases hc with c1|⟨c1,c2⟩
   .by_cases q:LR M z=true
    .rw [if_pos q]at x3;exact⟨F,g,e1,by lia⟩
    .rw [if_neg q]at x3;exact⟨F,g+1,e1,by lia⟩
   .rw [c2,if_neg (by simp)]at x3
    exact⟨F,g,e1,by lia⟩
end
end K17
--ZQ3 --ZQ4 --ZQ5 --ZQ6 --ZQ8 --ZQ9 --ZQB --ZQC --ZQD --ZQE --ZQF
namespace K51
open PySem L2 Mr Z Xe Zl
end K51
namespace K11
open PySem L2 Mr Z Xe Zl K12
theorem CO{p:List (List Int)}(h:Cn p) (hb:[]∈p) (hn:p.flatten.Nodup):p=[[]]:=by
 obtain⟨k,hk⟩:=Sw.mp hb;have hlt:=(gSq.mp hk).1;have hkD:p.getD k []=[]:=by rw[gDq,hk];rfl
 have h0:k=0:=by
  by_cases q:0<k
  .obtain ⟨j,e,_,_,h3⟩:=h.tr k q hlt;rw[hkD]at h3;cases h3
  .lia
 subst h0
 by_cases q:1<p.length
 .obtain ⟨j,e,h1,h2,_⟩:=h.tr 1 (by lia) q
  have:j=0:=by lia
  rw[this,hkD]at h2;cases h2
 .cases p with
  |nil=>cases hb
  |cons a p =>
   cases p with
   |nil =>
    have:a=[]:=Sz.inj hk;rw[this]
   |cons b p=>exact absurd (show 1<(a::b::p).length by simp) q
section
variable {P:List (List (List Int))}
theorem zi:∀{P:List (List (List Int))},P.flatten.flatten.Nodup->∀{p q:List (List Int)}{e:Int},p∈P->q∈P->e∈p.flatten->e∈q.flatten->p=q
 | [],_,p,q,e,hp,_,_,_=>by cases hp
 |a::P,h,p,q,e,hp,hq,h1,h2=>by
  rw[fCq,fAq,nAq]at h;have inP:∀{r:List (List Int)},r∈P->e∈r.flatten->e∈P.flatten.flatten:=fun {r} hr hr'=>by
   obtain⟨l,hl,hel⟩:=mFq.mp hr';exact mFq.mpr ⟨l,mFq.mpr ⟨r,hr,hl⟩,hel⟩
  rcases Si.mp hp with e1|e1
  .rcases Si.mp hq with e2|e2
   .rw [e1,e2]
   .rw [e1]at h1;exact absurd rfl (h.2.2 e h1 e (inP e2 h2))
  .rcases Si.mp hq with e2|e2
   .rw [e2]at h2;exact absurd rfl (h.2.2 e h2 e (inP e1 h1))
   .exact zi h.2.1 e1 e2 h1 h2
theorem getD_mem{p:List (List Int)}{k:Nat}{e:Int}(h:e∈p.getD k []):p.getD k []∈p:=by
 rw[gDq]at h ⊢;cases q:p[k]? with
 |none=>rw[q]at h;cases h
 |some r=>exact mGq q
end
end K11
--ZQ3 --ZQ4 --ZQ5 --ZQ6 --ZQ8 --ZQ9 --ZQB --ZQC --ZQD --ZQE --ZQF --ZQG
namespace K17
open PySem L2 Mr Z Xe Zl
abbrev oR(rs:List (List Int)):AV:=.ow (rs.map fun r=>.sh (dI r))
noncomputable def stp(s:List (List Int)×List (List Int)) (e:Int):List (List Int)×List (List Int):=match s.1.find? fun t=>decide (-e∈t) with
 |some t=>(s.1.erase t,s.2++[t])
 |none=>s
theorem qd(rs:List (List Int)):(rs.map fun r=>AV.sh (dI r)).map aH=rs.map dI:=by rw[mPq];exact mCq fun r _=>ef _
theorem xi{L:List (List Int)}(hn:L.flatten.Nodup) {i j:Nat}{r s:List Int}{e:Int}(hi:L[i]?=some r) (hj:L[j]?=some s) (h1:e∈r) (h2:e∈s):i=j:=same_place hn hi hj h1 h2
theorem erase_map{α β:Type}(f:α->β):∀(l:List α) (k:Nat),(l.map f).eraseIdx k=(l.eraseIdx k).map f
 | [],_=>by simp
 |_::_,0=>rfl
 |a::l,k+1=>by
  show f a::(l.map f).eraseIdx k=f a::(l.eraseIdx k).map f;rw[erase_map f l k]
theorem DD{L:List (List Int)}{t:List Int}(h:t∈L):L.eraseIdx (L.idxOf t)=L.erase t:=(List.erase_eq_eraseIdx_of_idxOf rfl).symm
section
variable {L P:List (List Int)}{e:Int}{v0 v1 v4:Option AV}
theorem Jq(hn:L.flatten.Nodup) (hl:L.length+P.length<=1000) {r0:Option AV}:∃v6,dg 6 de (L.map dI) [v0,v1,some (oR L),some (oR P),v4,some (.sh (.int e)),r0]=some (.nx [v0,v1,some (oR (stp (L,P) e).1),some (oR (stp (L,P) e).2),v4,some (.sh (.int e)),v6]):=by
 have no:∀(L' P':List (List Int)) (t:List Int), -e∉t->de [v0,v1,some (oR L'),some (oR P'),v4,some (.sh (.int e)),some (.sh (dI t))]=some (.nx [v0,v1,some (oR L'),some (oR P'),v4,some (.sh (.int e)),some (.sh (dI t))]):=fun L' P' t h=>by
  have hi:=Hz false (-e) t;rw[if_neg (by simp),decide_eq_false h]at hi
  simp_arith [de,dI,hi]
 unfold stp;cases hf:L.find? fun t=>decide (-e∈t) with
 |none =>
  have hno:∀t∈L, -e∉t:=fun t ht q=>by
   have:=WJ.mp hf t ht;simp[q]at this
  have key:=fS (x:=6) (body:=de) (fun i S=>∃v6,S=[v0,v1,some (oR L),some (oR P),v4,some (.sh (.int e)),v6]) (ds:=L.map dI) (S:=[v0,v1,some (oR L),some (oR P),v4,some (.sh (.int e)),r0]) ⟨r0,rfl⟩ (by
   rintro i d S hd ⟨v6,rfl⟩;obtain⟨t,ht,rfl⟩:=nP hd;exact⟨_,no L P t (hno t (mGq ht)),_,rfl⟩)
  obtain⟨S',e1,v6,rfl⟩:=key;exact⟨v6,e1⟩
 |some t =>
  have ht:=V4 hf;have het:-e∈t:=by simpa using W4 hf
  obtain⟨a,ha⟩:=Sw.mp ht;have hal:=(gSq.mp ha).1;have key:=fS (x:=6) (body:=de) (fun i S=>∃v6,S=(if i<=a then [v0,v1,some (oR L),some (oR P),v4,some (.sh (.int e)),v6] else [v0,v1,some (oR (L.erase t)),some (oR (P++[t])),v4,some (.sh (.int e)),v6])) (ds:=L.map dI) (S:=[v0,v1,some (oR L),some (oR P),v4,some (.sh (.int e)),r0]) ⟨r0,by rw[if_pos (Tf _)]⟩ (by
   rintro i d S hd ⟨v6,rfl⟩;obtain⟨s,hs,rfl⟩:=nP hd
   by_cases c:i=a
   .subst c;rw[ha]at hs;cases hs;rw[if_pos (Sg _)];refine⟨_,?_,some (.sh (dI t)),(if_neg (by lia)).symm⟩
    have hi:=Hz false (-e) t;rw[if_neg (by simp),decide_eq_true het]at hi
    have sL:=qd L;have ro:kc (L.map dI)=some L:=AI L;have io:dG (t.map D.int)=some t:=eP t;have hk:L.idxOf t<L.length:=UP.mpr ht;have g1:(L.map fun r=>AV.sh (dI r))[L.idxOf t]?=some (.sh (dI t)):=by rw[gMq,gEg hk,Vi];rfl
    have s1:HQ (.sh (dI t))=some (dI t):=rfl;have er:(L.map fun r=>AV.sh (dI r)).eraseIdx (L.idxOf t)=(L.erase t).map fun r=>.sh (dI r):=by rw[←DD ht,erase_map]
    have ap:(P.map fun r=>AV.sh (dI r))++[.sh (dI t)]=(P++[t]).map fun r=>.sh (dI r):=by rw[mBq];rfl
    have l1:P.length<cX:=by show _<16777216;lia
    unfold oR
    simp_arith [de,LA,hi,sL,ro,io,g1,s1,ht,er,l1,ap,dI]
   .have hns:-e∉s:=fun q=>c (xi hn hs ha q het)
    by_cases c2:i<=a
    .rw [if_pos c2];exact⟨_,no L P s hns,_,(if_pos (by lia)).symm⟩
    .rw [if_neg c2];exact⟨_,no _ _ s hns,_,(if_neg (by lia)).symm⟩)
  obtain⟨S',e1,v6,rfl⟩:=key;rw[lMq,if_neg (by lia)]at e1
  exact⟨v6,e1⟩
end
end K17
--ZQ3 --ZQ4 --ZQ5 --ZQ6 --ZQ8 --ZQ9 --ZQB --ZQC --ZQD --ZQE --ZQF --ZQG
namespace K17
open PySem L2 Mr Z Xe Zl
structure Fo (L P:List (List Int)) (r:List Int) (F:List (List Int)×List (List Int)) (X:List (List Int)):Prop where
 ap:F.2=P++X
 pm:L.Perm (X++F.1)
 to:∀t∈X,∃e∈r, -e∈t
 no:∀e∈r, -e∉F.1.flatten
theorem dr{L M:List (List Int)}(h:L.Perm M):L.flatten.Perm M.flatten:=by
 induction h with
 |nil=>exact .refl _
 |cons a _ ih=>rw[fCq,fCq];exact ih.append_left a
 |swap a b l =>
  rw[fCq,fCq,fCq,fCq,←Sk,←Sk];exact Ts.append_right _
 |trans _ _ h1 h2=>exact h1.trans h2
theorem EK{L P:List (List Int)}(hn:L.flatten.Nodup) (e:Int):∃X,Fo L P [e] (stp (L,P) e) X:=by
 unfold stp;cases hf:L.find? fun t=>decide (-e∈t) with
 |none =>
  refine⟨[],by simp,by simp,by simp,fun x hx q=>?_⟩
  rw[mSq.mp hx]at q;obtain⟨t,ht,het⟩:=mFq.mp q;have:=WJ.mp hf t ht;simp[het]at this
 |some t =>
  have ht:=V4 hf;have het:-e∈t:=by simpa using W4 hf
  have pm:=List.perm_cons_erase ht;refine⟨[t],rfl,pm,fun s hs=>⟨e,by simp,by rw[mSq.mp hs];exact het⟩,fun x hx q=>?_⟩
  rw[mSq.mp hx]at q;have:=(dr pm).nodup_iff.mp hn;rw[fCq,nAq]at this;exact this.2.2 _ het _ q rfl
theorem Fo.nd{L P:List (List Int)}{r:List Int}{F X} (h:Fo L P r F X) (hn:L.flatten.Nodup):F.1.flatten.Nodup:=by
 have:=(dr h.pm).nodup_iff.mp hn;rw[fAq,nAq]at this;exact this.2.1
theorem Fo.ln{L P:List (List Int)}{r:List Int}{F X} (h:Fo L P r F X):F.1.length+F.2.length=L.length+P.length:=by
 have:=h.pm.length_eq;rw[lAq]at this;rw[h.ap,lAq];lia
theorem B3:∀(r:List Int) {L P:List (List Int)},L.flatten.Nodup->∃X,Fo L P r (r.foldl stp (L,P)) X
 | [],L,P,_=>⟨[],by simp,by simp,by simp,by simp⟩
 |e::r,L,P,hn=>by
  obtain⟨X,h⟩:=EK (P:=P) hn e;obtain⟨Y,g⟩:=B3 r (L:=(stp (L,P) e).1) (P:=(stp (L,P) e).2) (h.nd hn);refine⟨X++Y,?_,?_,?_,?_⟩
  .show (r.foldl stp (stp (L,P) e)).2=_;rw[g.ap,h.ap,Sk]
  .show L.Perm (X++Y++(r.foldl stp (stp (L,P) e)).1);rw[Sk];exact h.pm.trans (g.pm.append_left X)
  .intro t ht;rcases mAq.mp ht with q|q
   .obtain ⟨x,hx,hx'⟩:=h.to t q;rw[mSq.mp hx]at hx';exact⟨e,by simp,hx'⟩
   .obtain ⟨x,hx,hx'⟩:=g.to t q;exact⟨x,mCo _ hx,hx'⟩
  .intro x hx q;rcases Si.mp hx with c|c
   .refine h.no e (by simp) ?_
    rw[c]at q;exact(dr g.pm).mem_iff.mpr (by rw[fAq];exact mAq.mpr (.inr q))
   .exact g.no x c q
section
variable {v0 v1 v4:Option AV}
theorem vC:∀(r:List Int) {L P:List (List Int)}{r5 r6:Option AV},L.flatten.Nodup->L.length+P.length<=1000->∃v5 v6,dg 5 eW (r.map D.int) [v0,v1,some (oR L),some (oR P),v4,r5,r6]=some (.nx [v0,v1,some (oR (r.foldl stp (L,P)).1),some (oR (r.foldl stp (L,P)).2),v4,v5,v6])
 | [],L,P,r5,r6,_,_=>⟨r5,r6,rfl⟩
 |e::r,L,P,r5,r6,hn,hl=>by
  obtain⟨X,h⟩:=EK (P:=P) hn e;obtain⟨v6,e1⟩:=Jq (v0:=v0) (v1:=v1) (v4:=v4) (e:=e) (r0:=r6) hn hl;have sL:=qd L;have e2:eW [v0,v1,some (oR L),some (oR P),v4,some (.sh (.int e)),r6]=some (.nx [v0,v1,some (oR (stp (L,P) e).1),some (oR (stp (L,P) e).2),v4,some (.sh (.int e)),v6]):=by
   unfold oR at e1 ⊢;have ll:L.length<=cX:=mU (by lia)
   simp_arith [eW,sL,e1,ll]
  obtain⟨v5',v6',e3⟩:=vC r (L:=(stp (L,P) e).1) (P:=(stp (L,P) e).2) (r5:=some (.sh (.int e))) (r6:=v6) (h.nd hn) (by rw[h.ln];exact hl)
  refine⟨v5',v6',?_⟩;show (eW [v0,v1,some (oR L),some (oR P),v4,some (.sh (.int e)),r6]).bind _=_;rw[e2];exact e3
end
end K17
--ZQ3 --ZQ4 --ZQ5 --ZQ6 --ZQ8 --ZQ9 --ZQB --ZQC --ZQD --ZQE --ZQF --ZQG
namespace K17
open PySem L2 Mr Z Xe Zl
structure Gv (L0 L P:List (List Int)) (k:Nat):Prop where
 pm:L0.Perm (P++L)
 tr:K11.tm P
 ne:P≠[]
 le:k<=P.length
 no:∀j,j<k->∀e∈P.getD j [], -e∉L.flatten
noncomputable def mu3(N:Nat):AS->Nat
 | [_,_,_,_,some (.sh (.int k)),_,_]=>N+1-k.toNat
 |_=>0
theorem nV{P X:List (List Int)}{j:Nat}(h:j<P.length):(P++X).getD j []=P.getD j []:=by
 rw[gDq,gDq,gZq h]
section
variable {v0 v1:Option AV}
abbrev Qq:MT:=dN (bg zz (aj 4) (fA cS (ah (aj 3) ax)))
theorem Ea{L0 L P:List (List Int)}{r5 r6:Option AV}(hn:L0.flatten.Nodup) (hl:L0.length<=1000) (h0:Gv L0 L P 0):∃S',dq Qq gA 100000 [v0,v1,some (oR L),some (oR P),some (.sh (.int 0)),r5,r6]=some (.nx S')/\∃L' P' v4 v5 v6,S'=[v0,v1,some (oR L'),some (oR P'),v4,v5,v6]/\Gv L0 L' P' P'.length:=by
 refine iA (c:=Qq) (body:=gA) (fun S=>∃L P k v5 v6,S=[v0,v1,some (oR L),some (oR P),some (.sh (.int ((k:Nat):Int))),v5,v6]/\Gv L0 L P k) (mu3 L0.length) (fun S'=>∃L' P' v4 v5 v6,S'=[v0,v1,some (oR L'),some (oR P'),v4,v5,v6]/\Gv L0 L' P' P'.length) ?_ 100000 _ ⟨L,P,0,r5,r6,rfl,h0⟩ ?_
 .rintro S ⟨L,P,k,v5,v6,rfl,hi⟩;have sP:=qd P;have lpm:=hi.pm.length_eq;rw[lAq]at lpm
  by_cases hk:k<P.length
  .have hr:P[k]?=some P[k]:=gEg hk;have hD:P.getD k []=P[k]:=by rw[gDq,hr];rfl
   have nd:=(dr hi.pm).nodup_iff.mp hn;rw[fAq,nAq]at nd;obtain⟨X,fo⟩:=B3 P[k] (L:=L) (P:=P) nd.2.1;obtain⟨v5',v6',e1⟩:=vC (v0:=v0) (v1:=v1) (v4:=some (.sh (.int ((k:Nat):Int)))) P[k] (L:=L) (P:=P) (r5:=v5) (r6:=v6) nd.2.1 (by lia)
   have c1:((k:Nat):Int)<(P.length:Int):=by lia
   have at0:atI (P.map dI) ((k:Nat):Int)=some (dI P[k]):=nU (by rw[gMq,hr];rfl)
   have lF:=fo.ln;generalize List.foldl stp (L,P) P[k]=F at fo e1 lF;have pm2:L0.Perm (F.2++F.1):=by
    rw[fo.ap,Sk];exact hi.pm.trans (fo.pm.append_left P)
   have lX:F.2.length=P.length+X.length:=by rw[fo.ap,lAq]
   refine⟨true,[v0,v1,some (oR L),some (oR P),some (.sh (.int ((k:Nat):Int))),v5,v6],?_,fun _=>⟨[v0,v1,some (oR F.1),some (oR F.2),some (.sh (.int ((k+1:Nat):Int))),v5',v6'],?_,⟨F.1,F.2,k+1,v5',v6',rfl,pm2,?_,?_,by lia,?_⟩,?_⟩,fun q=>(nomatch q)⟩
   .unfold oR
    simp_arith [sP,c1]
   .have ek:((k+1:Nat):Int)=(k:Int)+1:=by lia
    have di:dI P[k] = .list (P[k].map D.int):=rfl;unfold oR at e1 ⊢
    simp_arith [gA,sP,at0,di,e1,ek]
   .intro i h1 h2;rw[fo.ap]at h2 ⊢
    by_cases q:i<P.length
    .obtain ⟨j,e,a,b,c⟩:=hi.tr i h1 q;refine⟨j,e,a,?_,?_⟩
     .rw [nV (by lia)];exact b
     .rw [nV q];exact c
    .have hm:(P++X).getD i []∈X:=by
      rw[gDq,gYq (by lia)]
      rw[lAq]at h2;rw[gEg (by lia)]
      exact gRq _
     obtain⟨e,he,he'⟩:=fo.to _ hm;refine⟨k,e,by lia,?_,he'⟩
     rw[nV hk,hD];exact he
   .intro z;rw[z]at lX;simp at lX;lia
   .intro j hj e he q;rw[fo.ap,nV (by lia)]at he
    by_cases c:j<k
    .refine hi.no j c e he ((dr fo.pm).mem_iff.mpr ?_);rw[fAq];exact mAq.mpr (.inr q)
    .have:j=k:=by lia
     subst this;rw[hD]at he;exact fo.no e he q
   .show L0.length+1-Vs ((k+1:Nat):Int)<L0.length+1-Vs ((k:Nat):Int);rw[Ub,Ub];lia
  .have ek:k=P.length:=by have:=hi.le;lia
   have c1:¬ ((k:Nat):Int)<(P.length:Int):=by lia
   refine⟨false,[v0,v1,some (oR L),some (oR P),some (.sh (.int ((k:Nat):Int))),v5,v6],?_,fun q=>(nomatch q),fun _=>⟨L,P,_,v5,v6,rfl,?_⟩⟩
   .unfold oR
    simp_arith [sP,c1]
   .rw [←ek];exact hi
 .show L0.length+1-Vs 0<100000;lia
theorem Gv.part{L0 L P:List (List Int)}(h:Gv L0 L P P.length) (hc:∀z∈L0.flatten, -z∈L0.flatten):K11.Cn P/\∀z∈L.flatten, -z∈L.flatten:=by
 have mem:∀{z:Int},z∈L0.flatten↔z∈P.flatten∨z∈L.flatten:=fun {z}=>by
  rw[(dr h.pm).mem_iff,fAq,mAq]
 have no:∀e∈P.flatten, -e∉L.flatten:=fun e he=>by
  obtain⟨r,hr,her⟩:=mFq.mp he;obtain⟨j,hj⟩:=Sw.mp hr;refine h.no j (gSq.mp hj).1 e ?_;rw[gDq,hj];exact her
 refine⟨⟨h.ne,fun z hz=>?_,h.tr⟩,fun z hz=>?_⟩
 .rcases mem.mp (hc z (mem.mpr (.inl hz))) with q|q
  .exact q
  .exact absurd q (no z hz)
 .rcases mem.mp (hc z (mem.mpr (.inr hz))) with q|q
  .refine absurd ?_ (no _ q);rw[Tw];exact hz
  .exact q
abbrev oG(G:List (List (List Int))):AV:=.ow (G.map fun p=>.sh (dM p))
structure Hv (L0:List (List Int)) (G:List (List (List Int))) (L:List (List Int)):Prop where
 pm:L0.Perm (G.flatten++L)
 cn:∀p∈G,K11.Cn p
 clo:∀z∈L.flatten, -z∈L.flatten
 gl:G.length+L.length<=L0.length
noncomputable def mu4:AS->Nat
 | [_,_,some (.ow l),_,_,_,_]=>l.length
 |_=>0
theorem Bm{L0:List (List Int)}(hn:L0.flatten.Nodup) (hl:L0.length<=1000) (hc:∀z∈L0.flatten, -z∈L0.flatten):∃G,fL [dM L0]=some (oG G)/\L0.Perm G.flatten/\(∀p∈G,K11.Cn p)/\G.length<=L0.length:=by
 have key:∃S',dq (sX (aj 2)) fX 100000 [some (.sh (dM L0)),some (oG []),some (oR L0),none,none,none,none]=some (.nx S')/\∃G v2 v3 v4 v5 v6,S'=[some (.sh (dM L0)),some (oG G),v2,v3,v4,v5,v6]/\Hv L0 G []:=by
  refine iA (c:=sX (aj 2)) (body:=fX) (fun S=>∃G L v3 v4 v5 v6,S=[some (.sh (dM L0)),some (oG G),some (oR L),v3,v4,v5,v6]/\Hv L0 G L) mu4 (fun S'=>∃G v2 v3 v4 v5 v6,S'=[some (.sh (dM L0)),some (oG G),v2,v3,v4,v5,v6]/\Hv L0 G []) ?_ 100000 _ ⟨[],L0,none,none,none,none,rfl,by simp,by simp,hc,by simp⟩ ?_
  .rintro S ⟨G,L,v3,v4,v5,v6,rfl,hi⟩;have sL:=qd L;cases L with
   |nil =>
    refine⟨false,[some (.sh (dM L0)),some (oG G),some (oR []),v3,v4,v5,v6],?_,fun q=>(nomatch q),fun _=>⟨G,_,v3,v4,v5,v6,rfl,hi⟩⟩
    unfold oR
    simp_arith [sL,qH,WZ,WT]
   |cons a L =>
    have lpm:=hi.gl;rw[lCq]at lpm;have nd:=(dr hi.pm).nodup_iff.mp hn;rw[fAq,nAq]at nd;have g0:Gv (a::L) L [a] 0:=⟨.refl _,fun k h1 h2=>absurd h2 (by simp;lia),by simp,by simp,fun j hj=>absurd hj (Uc _)⟩
    obtain⟨S',e1,L',P',v4',v5',v6',rfl,gv⟩:=Ea (v0:=some (.sh (dM L0))) (v1:=some (oG G)) (r5:=v5) (r6:=v6) nd.2.1 (by rw[lCq];lia) g0
    obtain⟨cn,clo⟩:=gv.part hi.clo;have lpm2:=gv.pm.length_eq;rw[lAq,lCq]at lpm2;have hpl:0<P'.length:=UU.mpr gv.ne;have sP:=qd P';refine⟨true,[some (.sh (dM L0)),some (oG G),some (oR (a::L)),v3,v4,v5,v6],?_,fun _=>⟨[some (.sh (dM L0)),some (oG (G++[P'])),some (oR L'),some (.sh (dM P')),v4',v5',v6'],?_,⟨G++[P'],L',_,_,_,_,rfl,?_,?_,clo,?_⟩,?_⟩,fun q=>(nomatch q)⟩
    .unfold oR
     simp_arith [sL,qH,WZ,WT]
    .have l1:G.length<cX:=by show _<16777216;lia
     have l2:L.length+1<=cX:=mU (by lia)
     have ap:(G.map fun p=>AV.sh (dM p))++[.sh (.list (P'.map dI))]=(G++[P']).map fun p=>.sh (dM p):=by rw[mBq];rfl
     have c0:(0:Int)<=0/\(0:Int)<((L.length+1:Nat):Int)/\L.length+1<=cX:=⟨by lia,by lia,l2⟩
     have er:(AV.sh (dI a)::L.map fun r=>AV.sh (dI r)).eraseIdx (0:Int).toNat=L.map fun r=>.sh (dI r):=rfl
     have g1:(AV.sh (dI a)::L.map fun r=>AV.sh (dI r))[(0:Int).toNat]?=some (.sh (dI a)):=rfl
     have o1:[AV.sh (dI a)]=[a].map fun r=>.sh (dI r):=rfl
     unfold oR oG Qq at e1;unfold oR oG;rw[←o1]at e1
     simp_arith [fX,Md,c0,er,g1,and_self,e1,sP,l1,ap]
    .rw [fAq,Sk];refine hi.pm.trans (TN.append_left _ ?_);simpa using gv.pm
    .intro p hp;rcases mAq.mp hp with q|q
     .exact hi.cn p q
     .rw [mSq.mp q];exact cn
    .rw [lAq,lSq];lia
    .show (L'.map _).length<((a::L).map _).length;rw[lMq,lMq,lCq];lia
  .show (L0.map _).length<100000;rw[lMq];lia
 obtain⟨S',e1,G,v2,v3,v4,v5,v6,rfl,hv⟩:=key;refine⟨G,?_,?_,hv.cn,?_⟩
 .have ll:L0.length<=cX:=mU (by lia)
  have mm:(L0.map dI).map AV.sh=L0.map fun r=>.sh (dI r):=by rw[mPq];rfl
  have dm:dM L0 = .list (L0.map dI):=rfl;unfold oR oG at e1;rw[UZ]at e1;unfold oG;rw[dm]at e1 ⊢
  simp_arith [fL,qb,ll,mm,e1]
 .have:=hv.pm;rw[aNq]at this;exact this
 .have:=hv.gl;rw[T4]at this;lia
end
end K17
namespace K17
open PySem L2 Mr Z Xe Zl
open K51 (fB Ps Pc)
theorem tu:∀{A:List (List (List Int))},(∀p∈A,([]:List Int)∈p->p=[[]])->A.flatten.count []=A.countP fun p=>decide (p=[[]])
 | [],_=>rfl
 |p::A,h=>by
  rw[fCq,cAq,tu fun q hq=>h q (mCo _ hq),TL]
  by_cases c:([]:List Int)∈p
  .rw [h p (Ss ..) c];simp;lia
  .rw [WI.mpr c,if_neg (by
    simp only[decide_eq_true_eq];intro e;exact c (by rw[e];simp))]
   lia
theorem AB{a b:List Int}(h:∀y,y∈a↔y∈b) (ha:a≠[]):∃m,a.min?=some m/\b.min?=some m/\m∈a:=by
 cases e:a.min? with
 |none=>exact absurd (List.min?_eq_none_iff.mp e) ha
 |some m =>
  have q:=(VE (xs:=a)).mp e;exact⟨m,rfl,(VE (xs:=b)).mpr ⟨(h m).mp q.1,fun x hx=>q.2 x ((h x).mpr hx)⟩,q.1⟩
theorem A7:∀{A:List (List (List Int))},A.flatten.flatten.Nodup->(∀p∈A,p.flatten≠[])->(A.map fun p=>p.flatten.min?).Nodup
 | [],_,_=>Tc
 |p::A,h,hne=>by
  rw[fCq,fAq,nAq]at h;rw[Sq];refine Sm.mpr ⟨fun m=>?_,A7 h.2.1 fun q hq=>hne q (mCo _ hq)⟩
  obtain⟨q,hq,e⟩:=mMq.mp m;obtain⟨a,h1,_,h3⟩:=AB (fun _=>Iff.rfl) (hne p (Ss ..))
  rw[h1]at e;have:=((VE (xs:=q.flatten)).mp e).1;obtain⟨r,hr,har⟩:=mFq.mp this;exact h.2.2 a h3 a (mFq.mpr ⟨r,mFq.mpr ⟨q,hq,hr⟩,har⟩) rfl
structure Bp (A:List (List (List Int))):Prop where
 nd:A.flatten.flatten.Nodup
 ne:∀p∈A,p≠[]
 ba:∀p∈A,([]:List Int)∈p->p=[[]]
theorem HI{l m:List (List Int)}(h:l.Sublist m):l.flatten.Sublist m.flatten:=by
 induction h with
 |slnil=>exact .refl _
 |cons a _ ih=>rw[fCq];exact ih.trans (V3 ..)
 |cons_cons a _ ih=>rw[fCq,fCq];exact(T9.refl a).append ih
theorem Cf{A:List (List (List Int))}(h:A.flatten.flatten.Nodup) (f:List (List Int)->Bool):(A.filter f).flatten.flatten.Nodup:=by
 rw[Wx]at h ⊢;exact h.sublist (HI (TM.map _))
theorem Bp.fne{A:List (List (List Int))}(h:Bp A) {p:List (List Int)}(hp:p∈A) (hb:p≠[[]]):p.flatten≠[]:=fun z=>by
 cases p with
 |nil=>exact h.ne _ hp rfl
 |cons a p =>
  rw[fCq]at z;have:a=[]:=(Vv.mp z).1;subst this;exact hb (h.ba _ hp (Ss ..))
theorem Pl{A B:List (List (List Int))}(hA:Bp A) (hB:Bp B) (hs:∀x,x∈A.flatten.flatten->x∈B.flatten.flatten) (sh:∀p∈A,∀q∈B,∀x,x∈p.flatten->x∈q.flatten->∀y,y∈p.flatten↔y∈q.flatten) {k:Option Int}(hk:k∈(A.filter fun p=>!decide (p=[[]])).map fun p=>p.flatten.min?):k∈(B.filter fun p=>!decide (p=[[]])).map fun p=>p.flatten.min?:=by
 obtain⟨p,hp,e⟩:=mMq.mp hk;obtain⟨hp,hb⟩:=S5.mp hp;have hb':p≠[[]]:=by simpa using hb
 obtain⟨m,e1,_,hm⟩:=AB (fun _=>Iff.rfl) (hA.fne hp hb')
 obtain⟨r,hr,hmr⟩:=mFq.mp hm;obtain⟨r',hr',hmr'⟩:=mFq.mp (hs m (mFq.mpr ⟨r,mFq.mpr ⟨p,hp,hr⟩,hmr⟩));obtain⟨q,hq,hrq⟩:=mFq.mp hr';have hmq:m∈q.flatten:=mFq.mpr ⟨r',hrq,hmr'⟩;obtain⟨m',e2,e3,_⟩:=AB (sh p hp q hq m hm hmq) (hA.fne hp hb');rw[←e];refine mMq.mpr ⟨q,S5.mpr ⟨hq,?_⟩,by rw[e2,e3]⟩
 have:q≠[[]]:=fun z=>by rw[z]at hmq;simp at hmq
 simpa using this
theorem vS{A B:List (List (List Int))}(hA:Bp A) (hB:Bp B) (hs:∀x,x∈A.flatten.flatten↔x∈B.flatten.flatten) (sh:∀p∈A,∀q∈B,∀x,x∈p.flatten->x∈q.flatten->∀y,y∈p.flatten↔y∈q.flatten) (hc:A.flatten.count []=B.flatten.count []):A.length=B.length:=by
 have k1:=A7 (Cf hA.nd fun p=>!decide (p=[[]])) fun p hp=>hA.fne (S5.mp hp).1 (by simpa using (S5.mp hp).2)
 have k2:=A7 (Cf hB.nd fun p=>!decide (p=[[]])) fun p hp=>hB.fne (S5.mp hp).1 (by simpa using (S5.mp hp).2)
 have pm:=((Tb k1 k2).mpr fun k=>⟨Pl hA hB (fun x=>(hs x).mp) sh,Pl hB hA (fun x=>(hs x).mpr) fun p hp q hq x h1 h2 y=>(sh q hq p hp x h2 h1 y).symm⟩).length_eq
 rw[lMq,lMq,←Ti,←Ti]at pm;rw[tu hA.ba,tu hB.ba]at hc;have l1:=TF (l:=A) fun p=>decide (p=[[]])
 have l2:=TF (l:=B) fun p=>decide (p=[[]])
 have f:(fun p:List (List Int)=>!decide (p=[[]]))=fun p=>decide ¬ (decide (p=[[]])=true):=by
  funext p
  by_cases c:p=[[]] <;> simp[c]
 rw[f]at pm;lia
abbrev cls(M:List (List Int)) (PS:List (List Nat)):List (List (List Int)):=PS.map fun ps=>ps.map fun k=>M.getD k []
section
variable {M:List (List Int)}{kn:List Nat}{PS:List (List Nat)}
theorem OL{S:Int->Prop}(hm:K51.Mp M) (hneg:∀x,S x->S (-x)) (hrow:∀r∈M,∀x∈r,∀y∈r,S x->S y) {a b:Nat}(h:fB M a b) (ha:∀x∈M.getD a [],S x):∀y∈M.getD b [],S y:=by
 induction h with
 |base=>exact ha
 | @step k r e _ h1 h2 ih =>
  intro y hy;have hD:M.getD k []=r:=by rw[gDq,h1];rfl
  have s1:=hneg e (ih e (by rw[hD];exact h2))
  have he:e∈M.flatten:=mFq.mpr ⟨r,mGq h1,h2⟩;obtain⟨r',hr',her'⟩:=hm.at (hm.hneg e he);have hD':M.getD (K51.plc M (-e)) []=r':=by rw[gDq,hr'];rfl
  rw[hD']at hy;exact hrow r' (mGq hr') _ her' y hy s1
theorem sD{ps:List Nat}{s:Nat}(hm:K51.Mp M) (pc:Pc M s ps) {x:Int}:x∈(ps.map fun k=>M.getD k []).flatten↔∃k,fB M s k/\x∈M.getD k []:=by
 rw[mFq];constructor
 .rintro ⟨r,hr,hx⟩;obtain⟨k,hk,rfl⟩:=mMq.mp hr;exact⟨k,(pc.iff k).mp hk,hx⟩
 .rintro ⟨k,hk,hx⟩;exact⟨_,mMq.mpr ⟨k,(pc.iff k).mpr hk,rfl⟩,hx⟩
theorem FA{S:Int->Prop}{ps:List Nat}{s:Nat}(hm:K51.Mp M) (pc:Pc M s ps) (hneg:∀x,S x->S (-x)) (hrow:∀r∈M,∀x∈r,∀y∈r,S x->S y) {x:Int}(hx:x∈(ps.map fun k=>M.getD k []).flatten) (h:S x):∀y∈(ps.map fun k=>M.getD k []).flatten,S y:=by
 intro y hy;obtain⟨a,ha,hxa⟩:=(sD hm pc).mp hx;obtain⟨b,hb,hyb⟩:=(sD hm pc).mp hy;exact OL hm hneg hrow ((ha.symm hm).trans hb) (fun z hz=>hrow _ (K11.getD_mem hxa) x hxa z hz h) y hyb
theorem pE{ps:List Nat}{s:Nat}(hm:K51.Mp M) (pc:Pc M s ps) {x:Int}(hx:x∈(ps.map fun k=>M.getD k []).flatten):-x∈(ps.map fun k=>M.getD k []).flatten:=by
 obtain⟨k,hk,hxk⟩:=(sD hm pc).mp hx;have hr:M[k]?=some (M.getD k []):=by
  rw[gDq]at hxk ⊢;cases q:M[k]? with
  |none=>rw[q]at hxk;cases hxk
  |some r=>rfl
 obtain⟨r',hr',her'⟩:=hm.at (hm.hneg x (mFq.mpr ⟨_,mGq hr,hxk⟩));refine(sD hm pc).mpr ⟨_,.step hk hr hxk,?_⟩;rw[gDq,hr'];exact her'
theorem wU{ps:List Nat}{s:Nat}(hm:K51.Mp M) (pc:Pc M s ps) {r:List Int}(hr:r∈M) {x y:Int}(hx:x∈r) (hy:y∈r) (h:x∈(ps.map fun k=>M.getD k []).flatten):y∈(ps.map fun k=>M.getD k []).flatten:=by
 obtain⟨t,ht,hxt⟩:=mFq.mp h;obtain⟨k,hk,rfl⟩:=mMq.mp ht;have h2:=K11.getD_mem hxt;obtain⟨i,hi⟩:=Sw.mp hr;obtain⟨j,hj⟩:=Sw.mp h2;have:=xi hm.hn hi hj hx hxt;subst this;rw[hi]at hj;refine mFq.mpr ⟨_,ht,?_⟩;rw[←Sz.inj hj];exact hy
theorem An(hm:K51.Mp M) (hp:Ps M M.length kn PS):Bp (cls M PS):=by
 have pm:=K12.jP hp;refine⟨(dr pm).nodup_iff.mpr hm.hn,fun p h=>?_,fun p h hb=>?_⟩
 .obtain ⟨ps,hps,rfl⟩:=mMq.mp h;obtain⟨s,hs,pc⟩:=hp.pc ps hps;intro z;have m:s∈ps:=(pc.iff s).mpr .base;rw[List.map_eq_nil_iff.mp z]at m;cases m
 .obtain ⟨ps,hps,rfl⟩:=mMq.mp h;obtain⟨s,hs,pc⟩:=hp.pc ps hps;obtain⟨k,hk,ek⟩:=mMq.mp hb;have hk1:=pc.lt k hk;have hk2:M[k]?=some []:=by
   rw[gDq,gEg hk1]at ek;rw[gEg hk1];exact congrArg some ek
  have only:∀j,fB M k j->j=k:=fun j hj=>by
   induction hj with
   |base=>rfl
   |step _ a b ih =>
    rw[ih,hk2]at a;cases a;cases b
  have all:∀j∈ps,j=k:=fun j hj=>only j ((((pc.iff k).mp hk).symm hm).trans ((pc.iff j).mp hj))
  have nd:=pc.nd;have e:ps=[k]:=by
   match ps,hk,all,nd with
   | [a],_,all,_=>rw[all a (by simp)]
   |a::b::l,_,all,nd=>exact absurd ((all a (by simp)).trans (all b (by simp)).symm) (fun z=>(Sm.mp nd).1 (by rw[z];simp))
  rw[e];show [M.getD k []]=[[]];rw[ek]
theorem tX{N:List (List Int)}{kn':List Nat}{PS':List (List Nat)}(hm:K51.Mp M) (hn:K51.Mp N) (hp:Ps M M.length kn PS) (hp':Ps N N.length kn' PS') (hs:∀x,x∈M.flatten↔x∈N.flatten) (hb:M.count []=N.count []) (h1:∀S:Int->Prop,(∀x,S x->S (-x))->(∀r∈N,∀x∈r,∀y∈r,S x->S y)->∀r∈M,∀x∈r,∀y∈r,S x->S y) (h2:∀S:Int->Prop,(∀x,S x->S (-x))->(∀r∈M,∀x∈r,∀y∈r,S x->S y)->∀r∈N,∀x∈r,∀y∈r,S x->S y):PS.length=PS'.length:=by
 have pm:=K12.jP hp;have pm':=K12.jP hp';have:=vS (An hm hp) (An hn hp') (fun x=>((dr pm).mem_iff.trans (hs x)).trans (dr pm').mem_iff.symm) (fun p h q h' x hx hx' y=>by
  obtain⟨ps,hps,rfl⟩:=mMq.mp h;obtain⟨s,_,pc⟩:=hp.pc ps hps;obtain⟨qs,hqs,rfl⟩:=mMq.mp h';obtain⟨t,_,qc⟩:=hp'.pc qs hqs;exact⟨FA hm pc (fun z hz=>pE hn qc hz) (h1 (· ∈ (qs.map fun k=>N.getD k []).flatten) (fun z hz=>pE hn qc hz) fun r hr a ha b hb h=>wU hn qc hr ha hb h) hx hx' y,FA hn qc (fun z hz=>pE hm pc hz) (h2 (· ∈ (ps.map fun k=>M.getD k []).flatten) (fun z hz=>pE hm pc hz) fun r hr a ha b hb h=>wU hm pc hr ha hb h) hx' hx y⟩) (by rw[pm.count_eq,pm'.count_eq,hb])
 rwa [lMq,lMq]at this
end
end K17
--ZQ3 --ZQ4 --ZQ5 --ZQ6 --ZQ8 --ZQ9 --ZQB --ZQC --ZQD --ZQE --ZQF
namespace K19
open PySem L2 Mr Z Xe Zl K15 K16
theorem JG(t:List Int) (k:Nat) (hk:k<=t.length):(Mr.rot t k).reverse=Mr.rot t.reverse (t.length-k):=by
 unfold Mr.rot;rw[Vf];have e:t.reverse=(t.drop k).reverse++(t.take k).reverse:=by rw[←Vf,Ta]
 have l:(t.drop k).reverse.length=t.length-k:=by rw[Uj,SE]
 rw[e,←l,W7,W8]
theorem HV(f:Int->Int) (t:List Int) (k:Nat):(Mr.rot t k).map f=Mr.rot (t.map f) k:=by
 unfold Mr.rot;rw[mBq,Xg,VY]
theorem FT{t:List Int}(h:t.Nodup):t.reverse.Nodup:=(V5 t).nodup_iff.mpr h
theorem wI{t:List Int}(h:t.Nodup):(t.map fun z=>-z).Nodup:=by
 rw[Su,S8];exact(Su.mp h).imp fun q e=>q (by lia)
noncomputable def nr(t:List Int):List Int:=t.reverse.map fun z=>-z
theorem IA{t:List Int}(h:t.Nodup):good (nr (good t))=good (nr t):=by
 unfold nr good;rw[JG _ _ (oK t),HV];exact tV (wI (FT h)) _
def mr(rs:List (List Int)):List (List Int):=eK ((rs.map Uz).map good)
section
variable {rs:List (List Int)}
theorem ti:∀rs:List (List Int),(rs.map Uz).flatten.Perm rs.flatten
 | []=>.nil
 |r::rs=>by
  rw[Sq,fCq,fCq];exact(V5 r).append (ti rs)
theorem kX(rs:List (List Int)):(mr rs).flatten.Perm rs.flatten:=(cO (aS _)).trans ((bb bA _).trans (ti rs))
theorem Li(rs:List (List Int)):(mr rs).length=rs.length:=by unfold mr;rw[cJ,lMq,lMq]
theorem BK(hm:Mp rs):Mp (mr rs):=by
 have p:=kX rs;exact⟨p.nodup_iff.mpr hm.hn,by rw[p.length_eq];exact hm.hl,by rw[Li];exact hm.hr,fun e he=>p.mem_iff.mpr (hm.hneg e (p.mem_iff.mp he))⟩
theorem N5(hn:rs.flatten.Nodup) {x:Int}(hx:x∈rs.flatten):nx (mr rs) (nx rs x)=x:=by
 have hn2:(rs.map Uz).flatten.Nodup:=(ti rs).nodup_iff.mpr hn;have hn3:(mr rs).flatten.Nodup:=(kX rs).nodup_iff.mpr hn;have hrow:∀l∈mr rs,l=[]∨∃e,Cy (nx (rs.map Uz)) e l:=fun l hl=>by
  unfold mr at hl;obtain⟨t,ht,rfl⟩:=mMq.mp ((aS _).mem_iff.mp hl);cases t with
  |nil=>exact .inl rfl
  |cons a t=>exact .inr (sV (Ae hn2 ht rfl))
 rw[CI hn3 hrow ((kX rs).mem_iff.mpr (qX hn hx))];obtain⟨r,hr,hxr⟩:=mFq.mp hx;obtain⟨j,hj⟩:=Sw.mp hxr;have hlt:=(gSq.mp hj).1;have hm:(j+1) % r.length<r.length:=VQ _ (by lia)
 obtain⟨y,hy⟩:∃y,r[(j+1) % r.length]?=some y:=⟨_,gEg hm⟩;rw[zo hn hr hj hy];refine zo hn2 (mMq.mpr ⟨r,hr,rfl⟩) (j:=r.length-1-(j+1) % r.length) ?_ ?_
 .rw [Vc (by lia)]
  rw[show r.length-1-(r.length-1-(j+1) % r.length)=(j+1) % r.length by lia]
  exact hy
 .rw [Uj,Vc (VQ _ (by lia))]
  by_cases q:j+1<r.length
  .rw [Uo q,Uo (by lia),show r.length-1-(r.length-1-(j+1)+1)=j by lia]
   exact hj
  .have e:j+1=r.length:=by lia
   rw[e,U1,show r.length-1-0+1=r.length by lia,U1,show r.length-1-0=j by lia]
   exact hj
theorem OJ(hm:Mp rs) {x:Int}(hx:x∈rs.flatten):fw (mr rs) (-(fw rs x)) = -x:=by
 unfold fw;rw[Tw];exact N5 hm.hn (hm.hneg x hx)
theorem Om{f:Int->Int}{l:List Int}{e:Int}(h0:l[0]?=some e) (hs:∀j z y,l[j]?=some z->l[(j+1) % l.length]?=some y->f z=y) (hn:l.Nodup):Cy f e l:=by
 have hp:0<l.length:=(gSq.mp h0).1;have it:∀n,l[n % l.length]?=some (itr f n e):=fun n=>by
  induction n with
  |zero=>rw[Xk];exact h0
  |succ n ih =>
   have hm:(n+1) % l.length<l.length:=VQ _ hp;have hm2:(n % l.length+1) % l.length=(n+1) % l.length:=by rw[W2]
   obtain⟨y,hg⟩:∃y,l[(n+1) % l.length]?=some y:=⟨_,gEg hm⟩;have q:=hs _ _ _ ih (hm2 ▸ hg);rw[hg];exact congrArg some q.symm
 refine⟨hp,?_,?_,hn⟩
 .refine Uw fun i=>?_
  rw[gMq]
  by_cases hi:i<l.length
  .rw [Ui hi,Uh,←it i,Uo hi]
  .rw [S0 (by lia),S0 (by rw[Te];lia)]
   rfl
 .have:=it l.length;rw[U1,h0]at this;exact(Sz.inj this).symm
theorem IQ{f g:Int->Int}{l:List Int}{e:Int}(c:Cy f e l) (h:∀x∈l,g (-(f x)) = -x):∃e',Cy g e' (nr l):=by
 have hl:=c.len;have hlen:(nr l).length=l.length:=by unfold nr;rw[lMq,Uj]
 have hat:∀j,j<l.length->(nr l)[j]?=some (-(itr f (l.length-1-j) e)):=fun j hj=>by
  unfold nr;rw[gMq,Vc hj,c.at (by lia)]
  rfl
 refine⟨_,Om (hat 0 (by lia)) (fun j z y hz hy=>?_) (wI (FT c.nd))⟩
 have hj:j<l.length:=by rw[←hlen];exact(gSq.mp hz).1
 rw[hat j hj]at hz;cases hz;rw[hlen,hat _ (VQ _ (by lia))]at hy
 cases hy
 by_cases q:j+1<l.length
 .rw [Uo q];have e1:l.length-1-j=(l.length-1-(j+1))+1:=by lia
  rw[e1];exact h _ (mGq (c.at (by lia)))
 .have e1:j+1=l.length:=by lia
  rw[e1,U1,show l.length-1-j=0 by lia]
  have hb:=c.back;have e2:l.length=(l.length-1-0)+1:=by lia
  have:=h _ (mGq (c.at (i:=l.length-1-0) (by lia)))
  have e3:f (itr f (l.length-1-0) e)=e:=by
   rw[e2]at hb;exact hb
  rw[e3]at this;exact this
theorem BE:∀L:List (List Int),(L.map nr).flatten.Perm (L.flatten.map fun z=>-z)
 | []=>.nil
 |r::L=>by
  rw[Sq,fCq,fCq,mBq];exact(((V5 r).map _)).append (BE L)
theorem GT(hm:Mp rs) {L:List (List Int)}(o:xg (fw rs) rs.flatten L):xg (fw (mr rs)) (mr rs).flatten (L.map nr):=by
 have pf:=BE L;refine⟨fun l hl=>?_,pf.nodup_iff.mpr (wI o.dj),fun x=>?_⟩
 .obtain ⟨t,ht,rfl⟩:=mMq.mp hl;obtain⟨e,c⟩:=o.cy t ht;exact IQ c fun x hx=>OJ hm ((o.all x).mp (mFq.mpr ⟨t,ht,hx⟩))
 .rw [pf.mem_iff,(kX rs).mem_iff,mMq];constructor
  .rintro ⟨z,hz,rfl⟩;exact hm.hneg z ((o.all z).mp hz)
  .exact fun hx=>⟨-x,(o.all _).mpr (hm.hneg x hx),Tw x⟩
theorem se:∀rs:List (List Int),((rs.map Uz).map good).count []=rs.count []
 | []=>rfl
 | []::rs=>by
  rw[Sq,Sq,List.reverse_nil,uO,UL,UL,se rs]
 | (x::r)::rs=>by
  have hg:good (x::r).reverse≠[]:=fun q=>by
   have:=congrArg TJ q;rw[jW,Uj,T4]at this;cases this
  rw[Sq,Sq,Up hg,Up (by simp),se rs]
theorem EE(hm:Mp rs):∃N:List (List Int),fN [dM rs]=some (.ow (N.map aI))/\cP [dM (mr rs)]=some (.ow ((eK ((N.map nr).map good)).map aI))/\N.flatten.Perm rs.flatten/\N.length<=1000+rs.length:=by
 obtain⟨L,o1,e1⟩:=vR hm;obtain⟨L',o2,e2⟩:=jv (BK hm);have hL:∀l∈L,l.Nodup:=IX o1.dj;have hb:(ee rs).flatten=[]:=by
  unfold ee;refine Uy.mpr fun l hl=>?_
  obtain⟨x,_,rfl⟩:=mMq.mp hl;rfl
 refine⟨_,e1,?_,?_,?_⟩
 .rw [e2];have hp:=o2.perm (lK (BK hm)) (GT hm o1);have hc:ee (mr rs)=ee rs:=by
   rw[gI,gI];congr 1;unfold mr;rw[(aS _).count_eq,se]
  have key:((ee (mr rs)++L').map good).Perm (((eK ((ee rs++L).map good)).map nr).map good):=by
   have h1:(((eK ((ee rs++L).map good)).map nr).map good).Perm ((((ee rs++L).map good).map nr).map good):=((aS _).map nr).map good;refine TN.trans ?_ h1.symm;have h2:(((ee rs++L).map good).map nr).map good=(ee rs).map good++(L.map nr).map good:=by
    rw[mBq,mBq,mBq];congr 1
    .rw [gI,Ur,Ur,Ur];rfl
    .rw [mPq,mPq,mPq];exact mCq fun l hl=>IA (hL l hl)
   rw[h2,mBq,hc];exact TN.append_left _ hp
  rw[nR key]
 .refine (cO (aS _)).trans ((bb bA _).trans ?_);have pL:L.flatten.Perm rs.flatten:=(Tb o1.dj hm.hn).mpr o1.all;rw[fAq,hb,T5];exact pL
 .have:=(sH hm o1).2;have:=oP rs;rw[cJ,lMq,lAq];lia
end
end K19
--ZQ3 --ZQ4 --ZQ5 --ZQ6 --ZQ8 --ZQ9 --ZQB --ZQC --ZQD --ZQE --ZQF
namespace K19
open PySem L2 Mr Z Xe Zl K15 K16
theorem Mn(r:List Int):AV.ow ((r.map D.int).reverse.map AV.sh)=aI r.reverse:=by
 unfold aI;rw[←List.map_reverse,mPq];rfl
theorem HC(rs:List (List Int)):dJ ft (BJ (gY 0)) [] (rs.map dI)=some ((rs.map Uz).map aI):=by
 rw[Z.iw fun d=>aI (mw d).reverse]
 .rw [qt (fun r=>aI r.reverse),mPq]
  rfl
 .intro d hd;obtain⟨r,hr,rfl⟩:=oy hd;have e:=Mn r;refine⟨[some (.sh (dI r))],?_⟩
  simp_arith [gq,KY,dI,e]
theorem JX{rs:List (List Int)}(h:rs.flatten.length<=1000):∀r∈rs,r.length<=1000:=fun r hr=>by
 have:=T9.length_le (SG hr);lia
theorem Dj{rs:List (List Int)}(h1:rs.flatten.length<=1000) (h2:rs.length<=2000):kO [dM rs]=some (.ow ((mr rs).map aI)):=by
 have rc:=HC rs;have lr:rs.length<=cX:=by show _<=16777216;lia
 have ig:=kN (rs:=rs.map Uz) (fun r hr=>by
  obtain⟨t,ht,rfl⟩:=mMq.mp hr;have:=JX h1 t ht;rw[Uj];lia) (by rw[lMq];show _<=16777216;lia)
 have st:((rs.map Uz).map aI).map aH=(rs.map Uz).map dI:=by rw[mPq];exact mCq fun r _=>bu r
 unfold mr
 simp_arith [kO,wA,dM,rc,lr,st,ig]
theorem IM(G:List (List Int)):gS (.ow (G.map aI))=true:=by
 rw[gS];refine qU fun a ha=>?_
 obtain⟨r,_,rfl⟩:=mMq.mp ha;unfold aI;rw[gS];refine qU fun a ha=>?_
 obtain⟨z,_,rfl⟩:=mMq.mp ha;rw[gS];rfl
end K19
--ZQ3 --ZQ4 --ZQ5 --ZQ6 --ZQ8 --ZQ9 --ZQB --ZQC --ZQD --ZQE --ZQF --ZQG
namespace K17
open PySem L2 Mr Z Xe Zl
open K15 (nx fw)
open K25 (Rt)
open K43 (vd rds)
open K51 (fB Ps Pc)
theorem ux{A B:List (List Int)}(h:A.map aI=B.map aI):A=B:=by
 have:(A.map aI).map aH=(B.map aI).map aH:=by rw[h]
 rw[mPq,mPq]at this;have h2:A.map dI=B.map dI:=by
  rw[←mCq (f:=aH∘aI) fun r _=>bu r,←mCq (f:=aH∘aI) (l:=B) fun r _=>bu r]
  exact this
 have h3:(A.map dI).map mw=(B.map dI).map mw:=by rw[h2]
 rw[mPq,mPq]at h3;have idA:∀C:List (List Int),C.map (mw∘dI)=C:=fun C=>(mCq fun r _=>gq r).trans (Vb _)
 rwa [idA,idA]at h3
section
variable {M N:List (List Int)}{S:Int->Prop}
theorem ND(hN:N.flatten.Nodup) (hS:∀x∈N.flatten,S x->S (nx N x)):∀(w:List Int) {c:List Int}{y:Int},Rt N y (w++c)->S y->∀z∈w,S z
 | [],_,_,_,_,z,hz=>by cases hz
 |x::w,c,y,h,hy,z,hz=>by
  have e1:nx N y=x:=h.to hN;have hx:S x:=e1 ▸ hS y h.mem hy;rcases Si.mp hz with q|q
  .rw [q];exact hx
  .have h3:Rt N x (w++(c++[y])):=by simpa using h.step
   exact ND hN hS w h3 hx z q
theorem KG(hN:N.flatten.Nodup) (hS:∀x∈N.flatten,S x->S (nx N x)):∀r∈N,∀x∈r,∀y∈r,S x->S y:=fun r hr x hx y hy h=>by
 obtain⟨w,hw⟩:=Rt.of (rs:=N) (mFq.mpr ⟨r,hr,hx⟩);obtain⟨r',hr',q⟩:=hw.row;obtain⟨i,hi⟩:=Sw.mp hr;obtain⟨j,hj⟩:=Sw.mp hr';have:=xi hN hi hj hx ((q x).mpr (by simp))
 subst this;rw[hi]at hj;have e:=Sz.inj hj;subst e;rcases Si.mp ((q y).mp hy) with c|c
 .rw [c];exact h
 .exact ND hN hS w (c:=[]) (by rw[aNq];exact hw) h y c
theorem Ox(hN:N.flatten.Nodup) (hrow:∀r∈N,∀x∈r,∀y∈r,S x->S y) {x:Int}(hx:x∈N.flatten) (h:S x):S (nx N x):=by
 obtain⟨w,hw⟩:=Rt.of hx;have e1:=hw.to hN;obtain⟨r,hr,q⟩:=hw.row;exact hrow r hr x ((q x).mpr (by simp)) _ ((q _).mpr (by rw[e1];cases w <;> simp)) h
theorem DU(hm:Mp M) (hlen:M.length+M.flatten.length<=1000) {kn kn':List Nat}{PS PS':List (List Nat)}(hp:Ps M M.length kn PS) (e:K15.cP [dM M]=some (.ow (N.map aI))) (hp':Ps N N.length kn' PS'):PS.length=PS'.length:=by
 obtain⟨N',e1,mpN,_,pN,_,cN,_⟩:=K16.um hm hlen;obtain⟨N2,e2,_,_,_,hx⟩:=K25.pV hm;rw[e]at e1 e2;have q1:=ux (AV.ow.inj (Sz.inj e1));have q2:=ux (AV.ow.inj (Sz.inj e2));subst q1;subst q2;refine tX (vd hm) (vd mpN) hp hp' (fun x=>pN.mem_iff.symm) cN.symm ?_ ?_
 .intro S hneg hrow;refine KG hm.hn fun x hxM h=>?_
  have h1:=Ox mpN.hn hrow (mpN.hneg x (pN.mem_iff.mpr hxM)) (hneg x h);rw[hx _ (mpN.hneg x (pN.mem_iff.mpr hxM))]at h1;unfold fw at h1
  rwa [Tw]at h1
 .intro S hneg hrow;refine KG mpN.hn fun x hxN h=>?_
  rw[hx x hxN];exact Ox hm.hn hrow (hm.hneg x (pN.mem_iff.mp hxN)) (hneg x h)
theorem Mq{r:List Int}(hr:r∈K19.mr M):∃t∈M,∀x,x∈r↔x∈t:=by
 obtain⟨a,ha,rfl⟩:=mMq.mp ((aS _).mem_iff.mp hr);obtain⟨t,ht,rfl⟩:=mMq.mp ha;exact⟨t,ht,fun x=>by rw[(bA _).mem_iff,TK]⟩
theorem LY{t:List Int}(ht:t∈M):∃r∈K19.mr M,∀x,x∈r↔x∈t:=⟨good t.reverse,(aS _).mem_iff.mpr (mMq.mpr ⟨_,mMq.mpr ⟨t,ht,rfl⟩,rfl⟩),fun x=>by rw[(bA _).mem_iff,TK]⟩
theorem Ap(hm:Mp M) {kn kn':List Nat}{PS PS':List (List Nat)}(hp:Ps M M.length kn PS) (hp':Ps (K19.mr M) (K19.mr M).length kn' PS'):PS.length=PS'.length:=by
 refine tX (vd hm) (vd (K19.BK hm)) hp hp' (fun x=>(K19.kX M).mem_iff.symm) ?_ ?_ ?_
 .rw [←K19.se M,← (aS ((M.map Uz).map good)).count_eq];rfl
 .intro S _ hrow r hr x hx y hy h;obtain⟨t,ht,q⟩:=LY hr;exact hrow t ht x ((q x).mpr hx) y ((q y).mpr hy) h
 .intro S _ hrow r hr x hx y hy h;obtain⟨t,ht,q⟩:=Mq hr;exact hrow t ht x ((q x).mp hx) y ((q y).mp hy) h
theorem Mh{q:List (List Int)}(cn:K11.Cn q) (hneg:∀x,S x->S (-x)) (hrow:∀r∈q,∀x∈r,∀y∈r,S x->S y) {x:Int}(hx:x∈q.flatten) (h:S x):∀y∈q.flatten,S y:=by
 have up:∀k,k<q.length->∀x∈q.getD k [],S x->∀y∈q.getD 0 [],S y:=by
  intro k
  induction k using VL with
  |_ k ih =>
   intro hk x hx h y hy
   by_cases c:0<k
   .obtain ⟨j,e,h1,h2,h3⟩:=cn.tr k c hk;have s:=hneg _ (hrow _ (K11.getD_mem hx) x hx _ h3 h);rw[Tw]at s;exact ih j h1 (by lia) e h2 s y hy
   .have:k=0:=by lia
    subst this;exact hrow _ (K11.getD_mem hx) x hx y hy h
 obtain⟨r,hr,hxr⟩:=mFq.mp hx;obtain⟨i,hi⟩:=Sw.mp hr;have hD:∀{i:Nat}{r:List Int},q[i]?=some r->q.getD i []=r:=fun h=>by rw[gDq,h];rfl
 have h0:=up i (gSq.mp hi).1 x (by rw[hD hi];exact hxr) h
 have down:∀k,k<q.length->∀y∈q.getD k [],S y:=by
  intro k
  induction k using VL with
  |_ k ih =>
   intro hk y hy
   by_cases c:0<k
   .obtain ⟨j,e,h1,h2,h3⟩:=cn.tr k c hk;exact hrow _ (K11.getD_mem hy) _ h3 y hy (hneg e (ih j h1 (by lia) e h2))
   .have:k=0:=by lia
    subst this;exact h0 y hy
 intro y hy;obtain⟨t,ht,hyt⟩:=mFq.mp hy;obtain⟨j,hj⟩:=Sw.mp ht;exact down j (gSq.mp hj).1 y (by rw[hD hj];exact hyt)
theorem Bj:∀rs:List (List Int),(rs.map good).count []=rs.count []
 | []=>rfl
 | []::rs=>by rw[Sq,uO,UL,UL,Bj rs]
 | (x::r)::rs=>by
  have hg:good (x::r)≠[]:=fun q=>by
   have:=congrArg TJ q;rw[jW]at this;cases this
  rw[Sq,Up hg,Up (by simp),Bj rs]
theorem xE{P:List (List (List Int))}(hn:P.flatten.flatten.Nodup) (cn:∀p∈P,K11.Cn p) (hm:Mp (eK (P.flatten.map good))) {kn:List Nat}{PS:List (List Nat)}(hp:Ps (eK (P.flatten.map good)) (eK (P.flatten.map good)).length kn PS):PS.length=P.length:=by
 have pm:=K12.jP hp;have fl:(eK (P.flatten.map good)).flatten.Perm P.flatten.flatten:=(cO (aS _)).trans (bb bA _);have pnd:∀p∈P,p.flatten.Nodup:=fun p h=>by
  rw[Wx]at hn;exact hn.sublist (SG (mMq.mpr ⟨p,h,rfl⟩))
 have bB:Bp P:=⟨hn,fun p h=>(cn p h).ne,fun p h hb=>K11.CO (cn p h) hb (pnd p h)⟩
 have rowM:∀r∈eK (P.flatten.map good),∃p∈P,∃t∈p,∀x,x∈r↔x∈t:=fun r hr=>by
  obtain⟨t,ht,rfl⟩:=mMq.mp ((aS _).mem_iff.mp hr);obtain⟨p,h1,h2⟩:=mFq.mp ht;exact⟨p,h1,t,h2,fun x=>(bA t).mem_iff⟩
 have:=vS (An (vd hm) hp) bB (fun x=>(dr pm).mem_iff.trans fl.mem_iff) (fun p h q hq x hx hx' y=>by
  obtain⟨ps,hps,rfl⟩:=mMq.mp h;obtain⟨s,_,pc⟩:=hp.pc ps hps;refine⟨FA (S:=(· ∈ q.flatten)) (vd hm) pc (fun z hz=>(cn q hq).clo z hz) (fun r hr a ha b hb h=>?_) hx hx' y,Mh (S:=(· ∈ (ps.map fun k=>(eK (P.flatten.map good)).getD k []).flatten)) (cn q hq) (fun z hz=>pE (vd hm) pc hz) (fun r hr a ha b hb h=>?_) hx' hx y⟩
  .obtain ⟨p',hp',t,ht,qq⟩:=rowM r hr;have:=K11.zi hn hp' hq (mFq.mpr ⟨t,ht,(qq a).mp ha⟩) h;subst this;exact mFq.mpr ⟨t,ht,(qq b).mp hb⟩
  .exact wU (vd hm) pc (r:=good r) ((aS _).mem_iff.mpr (mMq.mpr ⟨r,mFq.mpr ⟨q,hq,hr⟩,rfl⟩)) ((bA r).mem_iff.mpr ha) ((bA r).mem_iff.mpr hb) h) (by rw[pm.count_eq,(aS _).count_eq,Bj])
 rwa [lMq]at this
end
end K17
--ZQ3 --ZQ4 --ZQ5 --ZQ6 --ZQ8 --ZQ9 --ZQB --ZQC --ZQD --ZQE --ZQF --ZQG
namespace K17
open PySem L2 Mr Z Xe Zl
open K43 (vd rds)
open K51 (fB Ps Pc)
section
variable {M:List (List Int)}
theorem xa(hm:Mp M) (hz:∀e∈M.flatten,e≠0):2*(rds M).length=M.flatten.length:=by
 unfold rds;rw[←Ti,(gP _).countP_eq];have pm:(M.flatten.map fun z=>-z).Perm M.flatten:=(Tb (K19.wI hm.hn) hm.hn).mpr fun x=>by
  rw[mMq];constructor
  .rintro ⟨z,h,rfl⟩;exact hm.hneg z h
  .exact fun h=>⟨-x,hm.hneg x h,Tw x⟩
 have e1:=pm.countP_eq fun z=>decide (0<z)
 rw[W3]at e1;have e2:M.flatten.countP ((fun z=>decide (0<z))∘fun z=>-z)=M.flatten.countP fun a=>decide ¬ (decide (0<a)=true):=V2 fun x hx=>by
  have:=hz x hx;simp;lia
 have l:=TF (l:=M.flatten) fun z=>decide (0<z)
 lia
theorem qY(hm:Mp M) {F:List (List Int)}(el:K15.cP [dM M]=some (.ow (F.map aI))):∃kn PS,Ps M M.length kn PS/\K43.eh [dM M]=some (.sh (.tup [.int (M.length:Int),.int ((rds M).length:Int),.int (F.length:Int),.int ((PS.length:Nat):Int),.int ((2*((PS.length:Nat):Int)-(M.length:Int)+((rds M).length:Int)-(F.length:Int)) / 2)])):=by
 obtain⟨kn,PS,hp,ep⟩:=K51.qJ (vd hm);have hl:=hm.hl;have ro:gT [dM M]=some (aI (rds M)):=GO (rs:=M) (by lia)
 have sR:=bu (rds M);have mu:∀i:Int,mM (.int 2) (.int i)=some (.int (2*i)):=fun i=>EU (by decide) (by decide)
 have dv:=fun i:Int=>mG (i:=i) (j:=2) (by decide) (by decide)
 refine⟨kn,PS,hp,?_⟩
 simp_arith [K43.eh,K43.vT,ro,sR,dI,el,ep,mu,dv]
end
def tl:MS:=(aC (aO 2 (bj K13.iZ (aB (bj Zl.bo (aB (aK 1) aN)) aN)))
 (aC (aO 3 (kSc (fA cS (ah (aj 2) ax))))
 (aC (aO 4 (kSc (bg nh (fA cS (ah (rOf (bj Zl.bo (aB (aK 2) aN))) ax)) (rC (.int 2)))))
 (aC (aO 5 (kSc (fA cS (ah (rOf (bj K15.fN (aB (aK 2) aN))) ax))))
 (aC (aO 6 (gu (oa (aK 2)) [] ft (kM (gY 0))))
 (aC (aO 7 (bj K43.eh (aB (aK 6) aN)))
 (aC (jM (rR (eQ (dN (fA mL (ah (aj 7) (ah (rC (.ty "tuple")) ax))))) (dN (bg Dr (fA cS (ah (aj 7) ax)) (rC (.int 5))))) (cI (kSc (rC (.bl false)))) bD)
 (aC (jM (eQ (dN (cA K13.aU (ah (rOf (IF (aK 7) og (jL (rC (.int 4))))) (ah (rOf (yk (aB (aK 3) (aB (aK 4) (aB (aK 5) (aB (kSc (fA cS (ah (aj 1) ax))) aN)))))) ax))))) (cI (kSc (rC (.bl false)))) bD)
 (aC (aO 8 (kSc (bg Bi (aj 7) (rC (.int 4)))))
 (aC (jM (rR (eQ (dN (cA K13.aU (ah (aj 8) (ah (bg nh (bg rV (bg mM (rC (.int 2)) (fA cS (ah (aj 1) ax))) (bg gW (bg rV (aj 3) (aj 4)) (aj 5))) (rC (.int 2))) ax))))) (dN (bg zz (aj 8) (rC (.int 0))))) (cI (kSc (rC (.bl false)))) bD)
 (aC (jM (dN (bg Dr (bg gW (bg rV (aj 3) (aj 4)) (aj 5)) (bg rV (bg mM (rC (.int 2)) (fA cS (ah (aj 1) ax))) (bg mM (rC (.int 2)) (aj 8))))) (cI (kSc (rC (.bl false)))) bD)
 (aC (jM (rR (eQ (dN (cA K13.aU (ah (cA K17.jh (ah (aj 6) ax)) (ah (aj 8) ax))))) (eQ (dN (cA K13.aU (ah (aj 6) (ah (aj 2) ax)))))) (cI (kSc (rC (.bl false)))) bD)
 (aC (jM (eQ (dN (cA K13.aU (ah (rOf (bj K43.eh (aB (bj K15.cP (aB (aK 6) aN)) aN))) (ah (rOf (yk (aB (aK 5) (aB (aK 4) (aB (aK 3) (aB (kSc (fA cS (ah (aj 1) ax))) (aB (aK 8) aN))))))) ax))))) (cI (kSc (rC (.bl false)))) bD)
 (cI (kSc (yi (cA K13.aU (ah (rOf (bj K43.eh (aB (xX K19.kO (ah (aj 6) ax)) aN))) (ah (aj 7) ax))) (cA K13.aU (ah (aj 6) (ah (aj 2) ax)))))))))))))))))))
theorem DS(n:Nat) (r:List Int) (h:r.length<1000000):K13.vN (n+2) (.tup (r.map D.int)):=⟨by rw[lMq];exact h,fun d hd=>by obtain⟨z,_,rfl⟩:=mMq.mp hd;exact trivial⟩
structure Pw (P:List (List (List Int))):Prop where
 nd:P.flatten.flatten.Nodup
 ng:∀z∈P.flatten.flatten, -z∈P.flatten.flatten
 nz:∀z∈P.flatten.flatten,z≠0
 le:P.flatten.flatten.length<=128
 lt:P.flatten.length<=128
 lp:P.length<=128
 cn:∀p∈P,K11.Cn p
theorem Ci{P:List (List (List Int))}(h:Pw P) {v0:Option AV}{x:AV}(hx:aH x = .list (P.map dM)):tl [v0,some x,none,none,none,none,none,none,none]=some (.rt (.sh (.bl true))):=by
 have hle:=h.le;have hlt:=h.lt;have hlp:=h.lp;have fl:bo [.list (P.map dM)]=some (K13.oM P.flatten):=K13.L8 (ms:=P) (by lia)
 have so:=K13.E6 P.flatten;have mo:K13.iZ [dM P.flatten]=some (.ow ((eK (P.flatten.map good)).map aI)):=K13.Hh (fun r hr=>by
  have:=T9.length_le (SG hr);lia) (mU (by lia))
 have pG:(eK (P.flatten.map good)).flatten.Perm P.flatten.flatten:=(cO (aS _)).trans (bb bA _);have lG:(eK (P.flatten.map good)).length=P.flatten.length:=by rw[cJ,lMq]
 have tw:=oX h.nd;have mp:Mp (eK (P.flatten.map good)):=⟨pG.nodup_iff.mpr h.nd,by rw[pG.length_eq];lia,by lia,fun e he=>pG.mem_iff.mpr (h.ng e (pG.mem_iff.mp he))⟩
 have nz:∀e∈(eK (P.flatten.map good)).flatten,e≠0:=fun e he=>h.nz e (pG.mem_iff.mp he)
 have hn:(eK (P.flatten.map good)).flatten.length<=128:=by rw[pG.length_eq];exact hle
 have pp:=fun {kn} {PS}=>xE h.nd h.cn mp (kn:=kn) (PS:=PS)
 generalize eK (P.flatten.map good)=M at mo pG lG tw mp nz hn pp;obtain⟨N,e1,mpN,e2,pN,twN,cN,lN⟩:=K16.um mp (by lia)
 rw[tw]at e2;obtain⟨N',f1,f2,_,_⟩:=K15.Ad mp;rw[e1]at f1;have q1:=ux (AV.ow.inj (Sz.inj f1));subst q1;obtain⟨kn,PS,hp,c1⟩:=qY mp e1;obtain⟨kn',PS',hp',c2⟩:=qY mpN e2;have k1:=DU mp (by lia) hp e1 hp'
 obtain⟨Q,g1,g2,_,_⟩:=K19.EE mp;rw[f2]at g1;have q2:=ux (AV.ow.inj (Sz.inj g1));subst q2;have mpR:=K19.BK mp;obtain⟨kr,PR,hr,c3⟩:=qY mpR g2;have k2:=Ap mp hp hr;have k3:=pp hp;obtain⟨F,g,f3,eu⟩:=N3 _ rfl mp tw nz (by lia) hn hp
 rw[e1]at f3;have q3:=ux (AV.ow.inj (Sz.inj f3));subst q3;have r1:=xa mp nz;have r2:=xa mpN fun e he=>nz e (pN.mem_iff.mp he)
 have r3:=xa mpR fun e he=>nz e ((K19.kX M).mem_iff.mp he)
 rw[pN.length_eq]at r2;rw[(K19.kX M).length_eq]at r3;have lR:(K19.mr M).length=M.length:=by unfold K19.mr;rw[cJ,lMq,lMq]
 have lQ:(eK ((N.map K19.nr).map good)).length=N.length:=by rw[cJ,lMq,lMq]
 have a1:(rds N).length=(rds M).length:=by lia
 have a2:(rds (K19.mr M)).length=(rds M).length:=by lia
 rw[←k1,a1]at c2;rw[←k2,a2,lR,lQ]at c3;have mi:=K19.Dj (rs:=M) (by lia) (by lia)
 have sM:(M.map aI).map aH=M.map dI:=by rw[mPq];exact mCq fun r _=>bu r
 have sN:(N.map aI).map aH=N.map dI:=by rw[mPq];exact mCq fun r _=>bu r
 have sR:((K19.mr M).map aI).map aH=(K19.mr M).map dI:=by rw[mPq];exact mCq fun r _=>bu r
 have tM:bo [dM M]=some (aI M.flatten):=CF (by lia)
 have sF:=bu M.flatten;have cM:=K12.Dt M;have lM':M.length<=cX:=mU (by lia)
 have alM:K13.aU [dM M,dM M]=some (.sh (.bl true)):=K13.jC 4 _ (K13.J5 1 M mp.hr mp.hl);have alI:∀i:Int,K13.aU [.int i,.int i]=some (.sh (.bl true)):=fun i=>K13.jC 4 _ trivial
 have alT:∀r:List Int,r.length<1000000->K13.aU [.tup (r.map D.int),.tup (r.map D.int)]=some (.sh (.bl true)):=fun r hr=>K13.jC 4 _ (DS 2 r hr)
 have mu:∀i:Int,mM (.int 2) (.int i)=some (.int (2*i)):=fun i=>EU (by decide) (by decide)
 have dv:=fun i:Int=>mG (i:=i) (j:=2) (by decide) (by decide)
 have hd:(2*((PS.length:Nat):Int)-(M.length:Int)+((rds M).length:Int)-(N.length:Int)) / 2=(g:Int):=by lia
 have hd2:(2*((PS.length:Nat):Int)-(N.length:Int)+((rds M).length:Int)-(M.length:Int)) / 2=(g:Int):=by lia
 have hd3:(2*((P.length:Nat):Int)-(2*((P.length:Nat):Int)-2*(g:Int))) / 2=(g:Int):=by lia
 have hh:((M.flatten.length:Nat):Int) / 2=((rds M).length:Int):=by lia
 have hv:(M.length:Int)-((rds M).length:Int)+(N.length:Int)=2*((P.length:Nat):Int)-2*(g:Int):=by lia
 rw[hd]at c1 c3;rw[hd2]at c2;rw[k3]at c1 c2 c3;have al4:=alT [(M.length:Int),((rds M).length:Int),(N.length:Int),((P.length:Nat):Int)] (by simp)
 have al5:=alT [(N.length:Int),((rds M).length:Int),(M.length:Int),((P.length:Nat):Int),(g:Int)] (by simp)
 have al6:=alT [(M.length:Int),((rds M).length:Int),(N.length:Int),((P.length:Nat):Int),(g:Int)] (by simp)
 simp only[Sq,UZ]at al4 al5 al6;have g0:¬ (g:Int)<0:=by lia
 have ix:∀a b c d e:Int,Bi (.tup [.int a,.int b,.int c,.int d,.int e]) (.int 4)=some (.int e):=fun _ _ _ _ _=>rfl
 have cg:∀a b c d e:Int,lD [D.int a,.int b,.int c,.int d,.int e] none (some 4)=[.int a,.int b,.int c,.int d]:=fun _ _ _ _ _=>rfl
 have hA:jh [dM M]=some (.sh (.int (g:Int))):=by
  simp_arith [jh,uX,c1,ix]
 have al0:=alI (g:Int);have cl:=K19.IM (K19.mr M);have is:∀ds:List D,mL [.tup ds,.ty "tuple"]=some (.bl true):=fun _=>rfl
 have ta:∀ds:List D,Fi (.sh (.tup ds))=some ds:=fun _=>rfl
 have sx:HT.fT 5 5 (some 4)=4:=rfl;have f5:(((5:Nat):Int)=5)=True:=eq_true rfl
 simp_arith [Jx,cl,f5,and_false,is,ta,sx,tl,hx,fl,so,mo,sM,tM,sF,dI,f2,dv,hh,cM,lM',c1,Ob,cg,mu,ix,al4,hd3,al0,g0,hv,hA,alM,e1,sN,c2,al5,mi,sR,c3,al6]
def md:MS:=(aC (jM (dN (bg xZ (bg iE (cA Zl.aD (ah (aj 0) (ah (rC (.int 0)) ax))) (rC (.int 2))) (rC (.int 1)))) (aO 1 (bj K17.fL (aB (Kd (bj K16.nS (aB (aK 0) aN)) (rC (.int 0))) aN))) bD) tl)
theorem Kz{P:List (List (List Int))}(h:K12.Pt P) (cn:∀p∈P,K11.Cn p):Pw P:=⟨h.nd,h.ng,fun z hz=>(h.nz z hz).1,by have:=h.le;lia,by have:=h.lt;lia,by have:=h.lp;lia,cn⟩
theorem Kg{ns:List Int}{P:List (List (List Int))}(h:Pw P) {x:AV}(hx:aH x = .list (P.map dM)):md [some (.sh (.scr ns)),some x,none,none,none,none,none,none,none]=some (.rt (.sh (.bl true))):=by
 have c0:aD [.scr ns,.int 0]=some (.sh (.int (cell ns 0))):=Bu ns;have m2:=fe (i:=cell ns 0) (j:=2) (by decide)
 by_cases q:cell ns 0 % 2=1
 .obtain ⟨T,nm,ea,hT,_,_⟩:=K16.K5 ns;have hlT:=hT.len;obtain⟨G,eg,pg,cg,lg⟩:=Bm hT.nd (by lia) hT.neg
  have fp:=dr pg;have pw:Pw G:=⟨fp.nodup_iff.mp hT.nd,fun z hz=>fp.mem_iff.mp (hT.neg z (fp.mem_iff.mpr hz)),fun z hz=>hT.nz z (fp.mem_iff.mpr hz),by rw[←fp.length_eq];exact hT.le,by rw[←pg.length_eq];exact hlT,by lia,cg⟩
  have fin:=Ci pw (v0:=some (.sh (.scr ns))) (x:=oG G) (by
   unfold oG;rw[dR,mPq];exact congrArg D.list (mCq fun p _=>ef _))
  have a0:atI [dM T,dI nm] 0=some (dM T):=rfl
  simp_arith [md,c0,m2,q,K16.Ou,ea,a0,eg,fin]
 .have fin:=Ci h (v0:=some (.sh (.scr ns))) hx
  simp_arith [md,c0,m2,q,fin]
theorem My{ns:List Int}(hns:ns.length<=63):Fg [.scr ns]=some (.sh (.bl true)):=by
 obtain⟨st,sh,a,b,h1,h1',h2,h2',h3,h4,en⟩:=K12.Ge ns;have hnm:=K12.Lr (b:=b) h1 h1' h2 h2' h3 h4;generalize K12.Kk st sh a b=nm at en hnm;have hcs:lD ns (some 3) (some 66)=(ns.drop 3).take 63:=Gy ns 3 66;have hl:((ns.drop 3).take 63).length<=63:=by rw[lTq];exact Nat.min_le_left ..
 generalize (ns.drop 3).take 63=cs at hcs hl;obtain⟨P,u,ep,pp,hu,l1,l2,cn⟩:=K11.Hy (nm:=nm) hl hnm.len;have hP:=K12.OS hnm pp hu l1 l2;have sP:=K12.BU P;have c0:aD [.scr ns,.int 0]=some (.sh (.int (cell ns 0))):=Bu ns;have d1:=mG (i:=cell ns 0) (j:=13266) (by decide) (by decide)
 have m3:=fe (i:=cell ns 0 / 13266) (j:=3) (by decide)
 have lP:P.length<=cX:=by show _<=16777216;lia
 have fc:=K12.GU P;have e:Fg=fi 1 9 Ay:=rfl;have lw:Ay=(aC (aO 1 (bj K12.jd (aB (HN (gY 0) (jL (rC (.int 3))) (jL (rC (.int 66)))) (aB (bj K12.gZ (aB (aK 0) aN)) aN)))) (aC (jM (dN (bg xZ (bg iE (bg nh (cA Zl.aD (ah (aj 0) (ah (rC (.int 0)) ax))) (rC (.int 13266))) (rC (.int 3))) (rC (.int 1)))) (aO 1 (gu (oa (aK 1)) [] (dN (bg vm (aj 0) (rOf (dD (aB (dD aN) aN))))) (aK 0))) bD) md)):=rfl
 by_cases q:cell ns 0 / 13266 % 3=1
 .have fin:=Kg (ns:=ns) (Kz hP.flt fun p hp=>cn p (S5.mp hp).1) (x:=.ow ((P.filter fun p=>!decide (p=[[]])).map fun p=>.sh (dM p))) (by rw[dR,K12.Jb])
  simp_arith [e,lw,en,kL,hcs,ep,c0,d1,m3,q,sP,lP,fc,fin]
 .have fin:=Kg (ns:=ns) (Kz hP cn) (x:=.ow (P.map K12.aP)) (by rw[dR,sP])
  simp_arith [e,lw,en,kL,hcs,ep,c0,d1,m3,q,fin]
end K17
namespace K17
open PySem L2 Mr Z
theorem Ms{l:W.OpenLaw}{w:World}{K:W.Frag}{h:Heap}{mg:Str->Option Value}{fa:Addr}(X:K.In h) (G:h.Ns mainGlobals mg) (hfa:mg "law" = some (.ref fa))
  (a0:W.nsIn K mainGlobals "turned" = some (some (.ref f0))) (l0:K.lookup f0=some ⟨oc0,od0,.func (W.fnOf "turned" "turned" (bh iC) (aY iC) (au iC) .none kV0 dc0 pm0 an0 cd0 ct0),sl0⟩) (c0:W.codeIn K cd0 "turned" = true) (k0:W.keepIn K (.ref f0)=true)
  (a1:W.nsIn K mainGlobals "told_ends" = some (some (.ref f1))) (l1:K.lookup f1=some ⟨oc1,od1,.func (W.fnOf "told_ends" "told_ends" (bh dY) (aY dY) (au dY) .none kV1 dc1 pm1 an1 cd1 ct1),sl1⟩) (c1:W.codeIn K cd1 "told_ends" = true) (k1:W.keepIn K (.ref f1)=true)
  (a2:W.nsIn K mainGlobals "in_good_order" = some (some (.ref f2))) (l2:K.lookup f2=some ⟨oc2,od2,.func (W.fnOf "in_good_order" "in_good_order" (bh bZ) (aY bZ) (au bZ) .none kV2 dc2 pm2 an2 cd2 ct2),sl2⟩) (c2:W.codeIn K cd2 "in_good_order" = true) (k2:W.keepIn K (.ref f2)=true)
  (a3:W.nsIn K mainGlobals "ends_of" = some (some (.ref f3))) (l3:K.lookup f3=some ⟨oc3,od3,.func (W.fnOf "ends_of" "ends_of" (bh eZ) (aY eZ) (au eZ) .none kV3 dc3 pm3 an3 cd3 ct3),sl3⟩) (c3:W.codeIn K cd3 "ends_of" = true) (k3:W.keepIn K (.ref f3)=true)
  (a4:W.nsIn K mainGlobals "roads_of" = some (some (.ref f4))) (l4:K.lookup f4=some ⟨oc4,od4,.func (W.fnOf "roads_of" "roads_of" (bh eT) (aY eT) (au eT) .none kV4 dc4 pm4 an4 cd4 ct4),sl4⟩) (c4:W.codeIn K cd4 "roads_of" = true) (k4:W.keepIn K (.ref f4)=true)
  (a5:W.nsIn K mainGlobals "places_at" = some (some (.ref f5))) (l5:K.lookup f5=some ⟨oc5,od5,.func (W.fnOf "places_at" "places_at" (bh dX) (aY dX) (au dX) .none kV5 dc5 pm5 an5 cd5 ct5),sl5⟩) (c5:W.codeIn K cd5 "places_at" = true) (k5:W.keepIn K (.ref f5)=true)
  (a6:W.nsIn K mainGlobals "nexts" = some (some (.ref f6))) (l6:K.lookup f6=some ⟨oc6,od6,.func (W.fnOf "nexts" "nexts" (bh jT) (aY jT) (au jT) .none kV6 dc6 pm6 an6 cd6 ct6),sl6⟩) (c6:W.codeIn K cd6 "nexts" = true) (k6:W.keepIn K (.ref f6)=true)
  (a7:W.nsIn K mainGlobals "reached" = some (some (.ref f7))) (l7:K.lookup f7=some ⟨oc7,od7,.func (W.fnOf "reached" "reached" (bh fQ) (aY fQ) (au fQ) .none kV7 dc7 pm7 an7 cd7 ct7),sl7⟩) (c7:W.codeIn K cd7 "reached" = true) (k7:W.keepIn K (.ref f7)=true)
  (a8:W.nsIn K mainGlobals "pieces" = some (some (.ref f8))) (l8:K.lookup f8=some ⟨oc8,od8,.func (W.fnOf "pieces" "pieces" (bh ip) (aY ip) (au ip) .none kV8 dc8 pm8 an8 cd8 ct8),sl8⟩) (c8:W.codeIn K cd8 "pieces" = true) (k8:W.keepIn K (.ref f8)=true)
  (a9:W.nsIn K mainGlobals "onwards" = some (some (.ref f9))) (l9:K.lookup f9=some ⟨oc9,od9,.func (W.fnOf "onwards" "onwards" (bh fJ) (aY fJ) (au fJ) .none kV9 dc9 pm9 an9 cd9 ct9),sl9⟩) (c9:W.codeIn K cd9 "onwards" = true) (k9:W.keepIn K (.ref f9)=true)
  (a10:W.nsIn K mainGlobals "gone_round" = some (some (.ref f10))) (l10:K.lookup f10=some ⟨oc10,od10,.func (W.fnOf "gone_round" "gone_round" (bh dE) (aY dE) (au dE) .none kV10 dc10 pm10 an10 cd10 ct10),sl10⟩) (c10:W.codeIn K cd10 "gone_round" = true) (k10:W.keepIn K (.ref f10)=true)
  (a11:W.nsIn K mainGlobals "lands" = some (some (.ref f11))) (l11:K.lookup f11=some ⟨oc11,od11,.func (W.fnOf "lands" "lands" (bh iX) (aY iX) (au iX) .none kV11 dc11 pm11 an11 cd11 ct11),sl11⟩) (c11:W.codeIn K cd11 "lands" = true) (k11:W.keepIn K (.ref f11)=true)
  (a12:W.nsIn K mainGlobals "counts" = some (some (.ref f12))) (l12:K.lookup f12=some ⟨oc12,od12,.func (W.fnOf "counts" "counts" (bh gm) (aY gm) (au gm) .none kV12 dc12 pm12 an12 cd12 ct12),sl12⟩) (c12:W.codeIn K cd12 "counts" = true) (k12:W.keepIn K (.ref f12)=true)
  (a13:W.nsIn K mainGlobals "handles" = some (some (.ref f13))) (l13:K.lookup f13=some ⟨oc13,od13,.func (W.fnOf "handles" "handles" (bh fG) (aY fG) (au fG) .none kV13 dc13 pm13 an13 cd13 ct13),sl13⟩) (c13:W.codeIn K cd13 "handles" = true) (k13:W.keepIn K (.ref f13)=true)
  (a14:W.nsIn K mainGlobals "mirror" = some (some (.ref f14))) (l14:K.lookup f14=some ⟨oc14,od14,.func (W.fnOf "mirror" "mirror" (bh iq) (aY iq) (au iq) .none kV14 dc14 pm14 an14 cd14 ct14),sl14⟩) (c14:W.codeIn K cd14 "mirror" = true) (k14:W.keepIn K (.ref f14)=true)
  (a15:W.nsIn K mainGlobals "_law_cell" = some (some (.ref f15))) (l15:K.lookup f15=some ⟨oc15,od15,.func (W.fnOf "_law_cell" "_law_cell" (bh fq) (aY fq) (au fq) .none kV15 dc15 pm15 an15 cd15 ct15),sl15⟩) (c15:W.codeIn K cd15 "_law_cell" = true) (k15:W.keepIn K (.ref f15)=true)
  (a16:W.nsIn K mainGlobals "_law_names" = some (some (.ref f16))) (l16:K.lookup f16=some ⟨oc16,od16,.func (W.fnOf "_law_names" "_law_names" (bh fO) (aY fO) (au fO) .none kV16 dc16 pm16 an16 cd16 ct16),sl16⟩) (c16:W.codeIn K cd16 "_law_names" = true) (k16:W.keepIn K (.ref f16)=true)
  (a17:W.nsIn K mainGlobals "_law_parts" = some (some (.ref f17))) (l17:K.lookup f17=some ⟨oc17,od17,.func (W.fnOf "_law_parts" "_law_parts" (bh fR) (aY fR) (au fR) .none kV17 dc17 pm17 an17 cd17 ct17),sl17⟩) (c17:W.codeIn K cd17 "_law_parts" = true) (k17:W.keepIn K (.ref f17)=true)
  (a18:W.nsIn K mainGlobals "_law_turn" = some (some (.ref f18))) (l18:K.lookup f18=some ⟨oc18,od18,.func (W.fnOf "_law_turn" "_law_turn" (bh iF) (aY iF) (au iF) .none kV18 dc18 pm18 an18 cd18 ct18),sl18⟩) (c18:W.codeIn K cd18 "_law_turn" = true) (k18:W.keepIn K (.ref f18)=true)
  (a19:W.nsIn K mainGlobals "_law_map" = some (some (.ref f19))) (l19:K.lookup f19=some ⟨oc19,od19,.func (W.fnOf "_law_map" "_law_map" (bh iT) (aY iT) (au iT) .none kV19 dc19 pm19 an19 cd19 ct19),sl19⟩) (c19:W.codeIn K cd19 "_law_map" = true) (k19:W.keepIn K (.ref f19)=true)
  (a20:W.nsIn K mainGlobals "_law_all" = some (some (.ref f20))) (l20:K.lookup f20=some ⟨oc20,od20,.func (W.fnOf "_law_all" "_law_all" (bh jR) (aY jR) (au jR) .none kV20 dc20 pm20 an20 cd20 ct20),sl20⟩) (c20:W.codeIn K cd20 "_law_all" = true) (k20:W.keepIn K (.ref f20)=true)
  (a21:W.nsIn K mainGlobals "_law_alike" = some (some (.ref f21))) (l21:K.lookup f21=some ⟨oc21,od21,.func (W.fnOf "_law_alike" "_law_alike" (bh dQ) (aY dQ) (au dQ) .none kV21 dc21 pm21 an21 cd21 ct21),sl21⟩) (c21:W.codeIn K cd21 "_law_alike" = true) (k21:W.keepIn K (.ref f21)=true)
  (a22:W.nsIn K mainGlobals "_law_nexts" = some (some (.ref f22))) (l22:K.lookup f22=some ⟨oc22,od22,.func (W.fnOf "_law_nexts" "_law_nexts" (bh fI) (aY fI) (au fI) .none kV22 dc22 pm22 an22 cd22 ct22),sl22⟩) (c22:W.codeIn K cd22 "_law_nexts" = true) (k22:W.keepIn K (.ref f22)=true)
  (a23:W.nsIn K mainGlobals "_law_lands" = some (some (.ref f23))) (l23:K.lookup f23=some ⟨oc23,od23,.func (W.fnOf "_law_lands" "_law_lands" (bh fK) (aY fK) (au fK) .none kV23 dc23 pm23 an23 cd23 ct23),sl23⟩) (c23:W.codeIn K cd23 "_law_lands" = true) (k23:W.keepIn K (.ref f23)=true)
  (a24:W.nsIn K mainGlobals "_law_any" = some (some (.ref f24))) (l24:K.lookup f24=some ⟨oc24,od24,.func (W.fnOf "_law_any" "_law_any" (bh jQ) (aY jQ) (au jQ) .none kV24 dc24 pm24 an24 cd24 ct24),sl24⟩) (c24:W.codeIn K cd24 "_law_any" = true) (k24:W.keepIn K (.ref f24)=true)
  (a25:W.nsIn K mainGlobals "_law_grouped" = some (some (.ref f25))) (l25:K.lookup f25=some ⟨oc25,od25,.func (W.fnOf "_law_grouped" "_law_grouped" (bh dW) (aY dW) (au dW) .none kV25 dc25 pm25 an25 cd25 ct25),sl25⟩) (c25:W.codeIn K cd25 "_law_grouped" = true) (k25:W.keepIn K (.ref f25)=true)
  (a26:W.nsIn K mainGlobals "law" = some (some (.ref f26))) (l26:K.lookup f26=some ⟨oc26,od26,.func (W.fnOf "law" "law" (bh ox) (aY ox) (au ox) .none kV26 dc26 pm26 an26 cd26 ct26),sl26⟩) (c26:W.codeIn K cd26 "law" = true) (k26:W.keepIn K (.ref f26)=true)
  (btu:W.nsIn K mainGlobals "tuple" = some none)
  (z0:W.nsIn K mainGlobals "len" = some none) (z1:W.nsIn K mainGlobals "min" = some none) (z2:W.nsIn K mainGlobals "max" = some none) (z3:W.nsIn K mainGlobals "abs" = some none) (z4:W.nsIn K mainGlobals "all" = some none) (z5:W.nsIn K mainGlobals "sorted" = some none) (z6:W.nsIn K mainGlobals "isinstance" = some none) (z7:W.nsIn K mainGlobals "list" = some none) (z8:W.nsIn K mainGlobals "int" = some none) (z9:W.nsIn K mainGlobals "bool" = some none) (z10:W.nsIn K mainGlobals "str" = some none) (z11:W.nsIn K mainGlobals "dict" = some none) (z12:W.nsIn K mainGlobals "zip" = some none) (z13:W.nsIn K mainGlobals "enumerate" = some none) (z14:W.nsIn K mainGlobals "range" = some none) (z15:W.nsIn K mainGlobals "reversed" = some none) :
  ∃fd:FuncData,(∀(s:Shared) (v:Value),BindsTo s fd ⟨[v],[]⟩ [("_law_script", v)])/\∀base:Heap,K.In base->base.Ns mainGlobals mg->rO l.prog w K mg base Nf 6 fa fd ["_law_script"] (CB K):=by
 have e:=hfa.symm.trans (W.mg_of X G a26);cases e;have B:Bt mg:=⟨W.mg_none_of X G z0,W.mg_none_of X G z1,W.mg_none_of X G z2,W.mg_none_of X G z3,W.mg_none_of X G z4,W.mg_none_of X G z5,W.mg_none_of X G z6,W.mg_none_of X G z7,W.mg_none_of X G z8,W.mg_none_of X G z9,W.mg_none_of X G z10,W.mg_none_of X G z11,W.mg_none_of X G z12,W.mg_none_of X G z13,W.mg_none_of X G z14,W.mg_none_of X G z15⟩;have D0:gJ K mg "turned" iC ["ends"] _ _:=⟨aM l0 c0 k0,W.mg_of X G a0,(aM l0 c0 k0).binds fun _ _ _ _ _ _ us hl=>match us,hl with|[_],_=>rfl⟩
 have D1:gJ K mg "told_ends" dY ["turns"] _ _:=⟨aM l1 c1 k1,W.mg_of X G a1,(aM l1 c1 k1).binds fun _ _ _ _ _ _ us hl=>match us,hl with|[_],_=>rfl⟩
 have D2:gJ K mg "in_good_order" bZ ["turns"] _ _:=⟨aM l2 c2 k2,W.mg_of X G a2,(aM l2 c2 k2).binds fun _ _ _ _ _ _ us hl=>match us,hl with|[_],_=>rfl⟩
 have D3:gJ K mg "ends_of" eZ ["m"] _ _:=⟨aM l3 c3 k3,W.mg_of X G a3,(aM l3 c3 k3).binds fun _ _ _ _ _ _ us hl=>match us,hl with|[_],_=>rfl⟩
 have D4:gJ K mg "roads_of" eT ["m"] _ _:=⟨aM l4 c4 k4,W.mg_of X G a4,(aM l4 c4 k4).binds fun _ _ _ _ _ _ us hl=>match us,hl with|[_],_=>rfl⟩
 have D5:gJ K mg "places_at" dX ["m"] _ _:=⟨aM l5 c5 k5,W.mg_of X G a5,(aM l5 c5 k5).binds fun _ _ _ _ _ _ us hl=>match us,hl with|[_],_=>rfl⟩
 have D6:gJ K mg "nexts" jT ["m"] _ _:=⟨aM l6 c6 k6,W.mg_of X G a6,(aM l6 c6 k6).binds fun _ _ _ _ _ _ us hl=>match us,hl with|[_],_=>rfl⟩
 have D7:gJ K mg "reached" fQ ["m", "start"] _ _:=⟨aM l7 c7 k7,W.mg_of X G a7,(aM l7 c7 k7).binds fun _ _ _ _ _ _ us hl=>match us,hl with|[_,_],_=>rfl⟩
 have D8:gJ K mg "pieces" ip ["m"] _ _:=⟨aM l8 c8 k8,W.mg_of X G a8,(aM l8 c8 k8).binds fun _ _ _ _ _ _ us hl=>match us,hl with|[_],_=>rfl⟩
 have D9:gJ K mg "onwards" fJ ["m"] _ _:=⟨aM l9 c9 k9,W.mg_of X G a9,(aM l9 c9 k9).binds fun _ _ _ _ _ _ us hl=>match us,hl with|[_],_=>rfl⟩
 have D10:gJ K mg "gone_round" dE ["steps", "end"] _ _:=⟨aM l10 c10 k10,W.mg_of X G a10,(aM l10 c10 k10).binds fun _ _ _ _ _ _ us hl=>match us,hl with|[_,_],_=>rfl⟩
 have D11:gJ K mg "lands" iX ["m"] _ _:=⟨aM l11 c11 k11,W.mg_of X G a11,(aM l11 c11 k11).binds fun _ _ _ _ _ _ us hl=>match us,hl with|[_],_=>rfl⟩
 have D12:gJ K mg "counts" gm ["m"] _ _:=⟨aM l12 c12 k12,W.mg_of X G a12,(aM l12 c12 k12).binds fun _ _ _ _ _ _ us hl=>match us,hl with|[_],_=>rfl⟩
 have D13:gJ K mg "handles" fG ["m"] _ _:=⟨aM l13 c13 k13,W.mg_of X G a13,(aM l13 c13 k13).binds fun _ _ _ _ _ _ us hl=>match us,hl with|[_],_=>rfl⟩
 have D14:gJ K mg "mirror" iq ["m"] _ _:=⟨aM l14 c14 k14,W.mg_of X G a14,(aM l14 c14 k14).binds fun _ _ _ _ _ _ us hl=>match us,hl with|[_],_=>rfl⟩
 have D15:gJ K mg "_law_cell" fq ["_law_script", "_law_k"] _ _:=⟨aM l15 c15 k15,W.mg_of X G a15,(aM l15 c15 k15).binds fun _ _ _ _ _ _ us hl=>match us,hl with|[_,_],_=>rfl⟩
 have D16:gJ K mg "_law_names" fO ["_law_script"] _ _:=⟨aM l16 c16 k16,W.mg_of X G a16,(aM l16 c16 k16).binds fun _ _ _ _ _ _ us hl=>match us,hl with|[_],_=>rfl⟩
 have D17:gJ K mg "_law_parts" fR ["_law_cells", "_law_names_here"] _ _:=⟨aM l17 c17 k17,W.mg_of X G a17,(aM l17 c17 k17).binds fun _ _ _ _ _ _ us hl=>match us,hl with|[_,_],_=>rfl⟩
 have D18:gJ K mg "_law_turn" iF ["_law_turn_here"] _ _:=⟨aM l18 c18 k18,W.mg_of X G a18,(aM l18 c18 k18).binds fun _ _ _ _ _ _ us hl=>match us,hl with|[_],_=>rfl⟩
 have D19:gJ K mg "_law_map" iT ["_law_turns"] _ _:=⟨aM l19 c19 k19,W.mg_of X G a19,(aM l19 c19 k19).binds fun _ _ _ _ _ _ us hl=>match us,hl with|[_],_=>rfl⟩
 have D20:gJ K mg "_law_all" jR ["_law_parts_here"] _ _:=⟨aM l20 c20 k20,W.mg_of X G a20,(aM l20 c20 k20).binds fun _ _ _ _ _ _ us hl=>match us,hl with|[_],_=>rfl⟩
 have D21:gJ K mg "_law_alike" dQ ["_law_found", "_law_due"] _ _:=⟨aM l21 c21 k21,W.mg_of X G a21,(aM l21 c21 k21).binds fun _ _ _ _ _ _ us hl=>match us,hl with|[_,_],_=>rfl⟩
 have D22:gJ K mg "_law_nexts" fI ["_law_m"] _ _:=⟨aM l22 c22 k22,W.mg_of X G a22,(aM l22 c22 k22).binds fun _ _ _ _ _ _ us hl=>match us,hl with|[_],_=>rfl⟩
 have D23:gJ K mg "_law_lands" fK ["_law_m"] _ _:=⟨aM l23 c23 k23,W.mg_of X G a23,(aM l23 c23 k23).binds fun _ _ _ _ _ _ us hl=>match us,hl with|[_],_=>rfl⟩
 have D24:gJ K mg "_law_any" jQ ["_law_script"] _ _:=⟨aM l24 c24 k24,W.mg_of X G a24,(aM l24 c24 k24).binds fun _ _ _ _ _ _ us hl=>match us,hl with|[_],_=>rfl⟩
 have D25:gJ K mg "_law_grouped" dW ["_law_turns"] _ _:=⟨aM l25 c25 k25,W.mg_of X G a25,(aM l25 c25 k25).binds fun _ _ _ _ _ _ us hl=>match us,hl with|[_],_=>rfl⟩
 have D26:gJ K mg "law" ox ["_law_script"] _ _:=⟨aM l26 c26 k26,W.mg_of X G a26,(aM l26 c26 k26).binds fun _ _ _ _ _ _ us hl=>match us,hl with|[_],_=>rfl⟩
 refine⟨W.fnOf "law" "law" (bh ox) (aY ox) (au ox) .none kV26 dc26 pm26 an26 cd26 ct26,fun s v=>.of_eq rfl,fun base kb nb=>?_⟩
 have bTU:=W.mg_none_of X G btu;have F0:=DC (P:=l.prog) (w:=w) (base:=base) D0 B;have F1:=xV (P:=l.prog) (w:=w) (base:=base) D1 B;have F2:=qC (P:=l.prog) (w:=w) (base:=base) D2 B F0;have F3:=Ac (P:=l.prog) (w:=w) (base:=base) D3 B F1;have F4:=zF (P:=l.prog) (w:=w) (base:=base) D4 B F3;have F5:=xF (P:=l.prog) (w:=w) (base:=base) D5 B;have F6:=Ey (P:=l.prog) (w:=w) (base:=base) D6 B;have F7:=zY (P:=l.prog) (w:=w) (base:=base) D7 B F5;have F8:=CN (P:=l.prog) (w:=w) (base:=base) D8 B F7;have F9:=AF (P:=l.prog) (w:=w) (base:=base) D9 B F6;have F10:=vo (P:=l.prog) (w:=w) (base:=base) D10 B;have F11:=FG (P:=l.prog) (w:=w) (base:=base) D11 B F9 F3 F2 F10;have F12:=CZ (P:=l.prog) (w:=w) (base:=base) D12 B F4 F11 F8;have F13:=zW (P:=l.prog) (w:=w) (base:=base) D13 B F12;have F14:=Dm (P:=l.prog) (w:=w) (base:=base) D14 B F2;have F15:=C7 (P:=l.prog) (w:=w) (base:=base) D15 B;have F16:=zX (P:=l.prog) (w:=w) (base:=base) D16 B F15;have F17:=Ak (P:=l.prog) (w:=w) (base:=base) D17 B;have F18:=Eh (P:=l.prog) (w:=w) (base:=base) D18 B;have F19:=G2 (P:=l.prog) (w:=w) (base:=base) D19 B F18;have F20:=GE (P:=l.prog) (w:=w) (base:=base) D20 B;have F21:=A6 (P:=l.prog) (w:=w) (base:=base) D21 B bTU;have F22:=Bg (P:=l.prog) (w:=w) (base:=base) D22 B;have F23:=AU (P:=l.prog) (w:=w) (base:=base) D23 B F22 F19;have F24:=GZ (P:=l.prog) (w:=w) (base:=base) D24 B F15;have F25:=xp (P:=l.prog) (w:=w) (base:=base) D25 B;have F26:=Mm (P:=l.prog) (w:=w) (base:=base) D26 B bTU F17 F19 F12 F16 F25 F20 F23 F21 F15 F24 F13 F11 F14;exact F26.ok.imp (Jm fun ns h=>My h)
theorem Qu{l:W.OpenLaw}{q:Program}{loose:List Str}{XP:(Str->Option Value)->Heap->Prop}{YP:World->Heap->Prop}{d:DefRec}{K:Params->W.Frag}(hn:l.most=some 63) (hdf:d.params.defaults=[])
  (hY:∀(w:World) (h:Heap),YP w h->(K w.params).In h)
  (F:∀(w:World) (mg:Str->Option Value) (fa:Addr) (h:Heap),(K w.params).In h->h.Ns mainGlobals mg->mg d.name=some (.ref fa) ->
   ∃fd:FuncData,(∀(s:Shared) (u:Value),BindsTo s fd ⟨[u],[]⟩ [("_law_script", u)])/\∀base:Heap,(K w.params).In base->base.Ns mainGlobals mg->rO l.prog w (K w.params) mg base Nf 6 fa fd ["_law_script"] (CB (K w.params))) :
  W.WalkO q loose XP YP l.row.toRowW d [] (fun f vs=>PySem.call f vs) :=
 L2.Jj (n:=63) (k:=6) (x := "_law_script") (CX:=fun _=>Nf) (sp:=fun w=>CB (K w.params)) hn (by decide) hdf ⟨rfl,by decide,by decide⟩ hY F (fun _ _ a ns hl _ hS=>⟨a,ns,rfl,hS,hl,fun _=>rfl⟩) fun _ _ _ _ _ z=>z
end K17
structure PySem.W.Fast:Prop where(tw1590634822632060339 tw10273011269594582909 tw10259688871490277327 tw14920500977785156154 tw7339593720267174792 tw18418500066114795974 tw3030538571266182292 tw12701043224435716369 tw14775423187504146885 tw13131196150852838797 tw2072532759969378411 tw12456716731618890343 tw762237777232786174 tw7736808332473065852 tw12205626253485726144 tw2319510968186183580 tw12457311612705900974 tw10999174659244848942 tw10616622416012344490 tw17230592341768067624 tw6368933212005158845 tw2010642371618846712 tw5864497060231274244 tw428852968577902436 tw6263019871739470066 tw15897580689511321872 tw4461645609368975602 tw5884832196100360975 tw10383488240672419388 tw4866081194317590536 tw778368993372102872 tw17915089499258240081 tw17087419387100423428 tw1708632946313972262 tw1188112353346768119 tw4482424923475334107 tw11695994229455472993 tw14392759348305432624 tw2823613775962288075 tw1758871120997214164 tw3850047874522461600 tw17750634798897345438 tw6078011187983438912 tw2513445150943326172 tw5921521871214283905 tw4746032427849283968 tw5022436761527296290 tw8818095154715097810 tw8280438675143675737 tw5073586363398642935 tw2501097812702022741 tw9564822624376942931 tw3251415198377796624 tw18101720305002882208 tw17871288834068960210 tw16767133204858622883 tw6739078450858426326 tw7256467894627277004 tw11609092266562938145 tw10055405881900548519 tw2133115115765996689 tw6251815991365409969 tw708757788861005307 tw1678739410985833258 tw14787194698401080921 tw14323364425860196433 tw9481283979484392527 tw9540285938559852938 tw16299337817722731340 tw9055092219582649367 tw7259197562387453202 tw4757354535343166607 tw1459700558589693365 tw2105266396262224534 tw14699195730428062089 tw11705900435370345585 tw14156312160172270055 tw9263995733177840102 tw4167832150958358229 tw9406550339640733617 tw3164467252431976835 tw16630419505518598415 tw898536781316411621 tw10831719469854888836 tw17386902476490561001 tw7956767974908753932 tw16168842507411738386 tw28115344861931948 tw3501808527975643424 tw9294488479128154881 tw18142747129108921699 tw8679222579724964553 tw14800627165012246207 tw11077601003318990588 tw8045820576354607960 tw14068078206035256398 tw10836829056336145515 tw6062464874386468136 tw16196444584046571167 tw15485071628707911861 tw14598846690781338284 tw306118542112244882 tw5105673857566367247 tw1686966370679091583 tw7725465897679723655 tw12773705047101307429 tw8290921655685339796 tw5366748541924237070 tw18435579331800147521 tw11172993790549563430 tw13570741912376109763 tw10479563897054077019 tw5303005233972491871 tw4226686792290595889 tw4958736745503613992 tw5572237505427120921:True)
open PySem PySem.W PyProof.Rows
set_option maxRecDepth 100000 in
set_option maxHeartbeats 0 in
theorem PySem.Challenge.cw_mapround_k17_whole_balance_holds : PySem.Challenge.rw_mapround_k17_whole_balance.Holds := by
 w_on;o_law;k_head;(case hw=>w_witness2)
 k_fill
 refine K17.Qu (l:=PySem.Challenge.rw_mapround_k17_whole_balance) rfl rfl (fun w h Y=>W.kIn_of Y) ?F
 case F =>
  intro w mg fa h KX G hmg;refine' K17.Ms KX G hmg ?a0 ?l0 ?c0 ?k0 ?a1 ?l1 ?c1 ?k1 ?a2 ?l2 ?c2 ?k2 ?a3 ?l3 ?c3 ?k3 ?a4 ?l4 ?c4 ?k4 ?a5 ?l5 ?c5 ?k5 ?a6 ?l6 ?c6 ?k6 ?a7 ?l7 ?c7 ?k7 ?a8 ?l8 ?c8 ?k8 ?a9 ?l9 ?c9 ?k9 ?a10 ?l10 ?c10 ?k10 ?a11 ?l11 ?c11 ?k11 ?a12 ?l12 ?c12 ?k12 ?a13 ?l13 ?c13 ?k13 ?a14 ?l14 ?c14 ?k14 ?a15 ?l15 ?c15 ?k15 ?a16 ?l16 ?c16 ?k16 ?a17 ?l17 ?c17 ?k17 ?a18 ?l18 ?c18 ?k18 ?a19 ?l19 ?c19 ?k19 ?a20 ?l20 ?c20 ?k20 ?a21 ?l21 ?c21 ?k21 ?a22 ?l22 ?c22 ?k22 ?a23 ?l23 ?c23 ?k23 ?a24 ?l24 ?c24 ?k24 ?a25 ?l25 ?c25 ?k25 ?a26 ?l26 ?c26 ?k26 ?btu  ?z0 ?z1 ?z2 ?z3 ?z4 ?z5 ?z6 ?z7 ?z8 ?z9 ?z10 ?z11 ?z12 ?z13 ?z14 ?z15
  (case a0=>k_is);(case l0=>k_is);(case c0=>k_is);(case k0=>k_is)
  (case a1=>k_is);(case l1=>k_is);(case c1=>k_is);(case k1=>k_is)
  (case a2=>k_is);(case l2=>k_is);(case c2=>k_is);(case k2=>k_is)
  (case a3=>k_is);(case l3=>k_is);(case c3=>k_is);(case k3=>k_is)
  (case a4=>k_is);(case l4=>k_is);(case c4=>k_is);(case k4=>k_is)
  (case a5=>k_is);(case l5=>k_is);(case c5=>k_is);(case k5=>k_is)
  (case a6=>k_is);(case l6=>k_is);(case c6=>k_is);(case k6=>k_is)
  (case a7=>k_is);(case l7=>k_is);(case c7=>k_is);(case k7=>k_is)
  (case a8=>k_is);(case l8=>k_is);(case c8=>k_is);(case k8=>k_is)
  (case a9=>k_is);(case l9=>k_is);(case c9=>k_is);(case k9=>k_is)
  (case a10=>k_is);(case l10=>k_is);(case c10=>k_is);(case k10=>k_is)
  (case a11=>k_is);(case l11=>k_is);(case c11=>k_is);(case k11=>k_is)
  (case a12=>k_is);(case l12=>k_is);(case c12=>k_is);(case k12=>k_is)
  (case a13=>k_is);(case l13=>k_is);(case c13=>k_is);(case k13=>k_is)
  (case a14=>k_is);(case l14=>k_is);(case c14=>k_is);(case k14=>k_is)
  (case a15=>k_is);(case l15=>k_is);(case c15=>k_is);(case k15=>k_is)
  (case a16=>k_is);(case l16=>k_is);(case c16=>k_is);(case k16=>k_is)
  (case a17=>k_is);(case l17=>k_is);(case c17=>k_is);(case k17=>k_is)
  (case a18=>k_is);(case l18=>k_is);(case c18=>k_is);(case k18=>k_is)
  (case a19=>k_is);(case l19=>k_is);(case c19=>k_is);(case k19=>k_is)
  (case a20=>k_is);(case l20=>k_is);(case c20=>k_is);(case k20=>k_is)
  (case a21=>k_is);(case l21=>k_is);(case c21=>k_is);(case k21=>k_is)
  (case a22=>k_is);(case l22=>k_is);(case c22=>k_is);(case k22=>k_is)
  (case a23=>k_is);(case l23=>k_is);(case c23=>k_is);(case k23=>k_is)
  (case a24=>k_is);(case l24=>k_is);(case c24=>k_is);(case k24=>k_is)
  (case a25=>k_is);(case l25=>k_is);(case c25=>k_is);(case k25=>k_is)
  (case a26=>k_is);(case l26=>k_is);(case c26=>k_is);(case k26=>k_is)
  (case btu=>k_is)
  (case z0=>k_is);(case z1=>k_is);(case z2=>k_is);(case z3=>k_is);(case z4=>k_is);(case z5=>k_is);(case z6=>k_is);(case z7=>k_is);(case z8=>k_is);(case z9=>k_is);(case z10=>k_is);(case z11=>k_is);(case z12=>k_is);(case z13=>k_is);(case z14=>k_is);(case z15=>k_is)

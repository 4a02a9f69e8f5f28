import PyProof.Rows.All
import Wide.All
import OpenK.AllK
import Wide.FinOn
import Lean
import PyProof.EqAt
import PyProof.EqKinds
import PyProof.TupleCall
import KE.KIntText
import PyProof.ConsumeWalk
import PySem.Challenge.RW_mapround_k25_road_drawn_together
set_option Elab.async false
set_option linter.all false
set_option bootstrap.genMatcherCode false
set_option genSizeOf false
set_option compiler.extract_closed false
set_option maxRecDepth 100000
set_option maxHeartbeats 4000000
open Option renaming bind_eq_some_iff->oBq,map_eq_some_iff->oMq
open List renaming getElem?_eq_some_iff->gSq,getElem?_eq_getElem->gEg,getD_eq_getElem?_getD->gDq,length_append->lAq,length_map->lMq,mem_append->mAq,mem_flatten->mFq,mem_map->mMq,getElem?_map->gMq,mem_of_getElem?->mGq,map_congr_left->mCq,getElem_mem->gRq,length_singleton->lSq,mem_singleton->mSq,length_take->lTq,nodup_append->nAq,append_nil->aNq,flatten_append->fAq,getElem?_append_right->gYq,getElem?_append_left->gZq,length_cons->lCq,map_map->mPq,map_append->mBq,mem_cons_of_mem->mCo,length_set->lZq,flatten_cons->fCq,count_append->cAq,nodup_cons->Vx,getElem?_set_ne->VA,mem_cons->VB,size_toArray->VE,map_cons->VG,mem_append_right->VH,length_drop->VI,replicate->VM,append_assoc->VP,getElem?_set_self->VS,drop_eq_getElem_cons->VW,sublist_flatten_of_mem->VX,pairwise_append->VY,flatten_singleton->VZ,mem_cons_self->V0,Pairwise->V1,mem_of_mem_take->V3,take_append_drop->V4,nodup_nil->V6,nodup_iff_pairwise_ne->V7,getElem?_set->V8,length_range->V9,mem_of_mem_drop->Wb,take_sublist->Wc,contains_cons->We,perm_append_comm->Wg,take_of_length_le->Wh,filter_cons_of_pos->Wj,range->Wm,mem_iff_getElem?->Wn,length_eq_zero_iff->Wo,filter_cons_of_neg->Wp,mem_reverse->Wr,drop_sublist->Ws,pairwise_map->Wt,getElem?_eq_none->Wv,getElem?_take_of_lt->Ww,Perm->Wx,take_length->Wy,getElem?_replicate->Wz,lookup->WB,mem_filter->WD,drop_eq_nil_of_le->WE,pairwise_iff_getElem->WH,length_filter_le->WI,append_of_mem->WJ,mem_append_left->WL,mem_iff_getElem->WM,nil_append->WQ,length->WR,eraseIdx_cons_succ->WS,drop_of_length_le->W0,find?_cons_of_neg->W2,count_pos_iff->W4,count_cons->W7,take_add_one->W8,getElem?_zip_eq_some->W9,eq_of_mem_replicate->Xa,drop_length->Xf,getElem?_drop->Xj,set_cons_zero->Xk,any_cons->Xm,find?_cons->Xn,find?_cons_of_pos->Xq,filter_map->Xr,count_eq_zero_of_not_mem->Xt,length_replicate->Xu,set_getElem_self->Xw,drop_zero->Xz,Sublist->XB,length_eraseIdx->XD,perm_ext_iff_of_nodup->XI,countP_cons->XJ,extract_eq_take_drop->XM,getElem?_range->XO,length_nil->XQ,set_cons_succ->XU,mem_range->X0,getElem_drop->X2,isEmpty_cons->X4,eraseIdxIfInBounds_toArray->X5,cons_append->X6,of_mem_zip->Ye,foldl_cons->Yf,set_set->Yh,filterMap_cons->Yi,length_pos_iff->Yj,getElem_take->Ys,ext_getElem?->Yt,idxOf_lt_length_iff->Yw,not_mem_nil->Yy,map_fst_zip->Yz,map_nil->YA,pairwise_mergeSort->YC,length_pos_of_mem->YH,pairwise_lt_range->YJ,append_eq_nil_iff->YK,set_append_right->YM,count_cons_of_ne->YT,drop_left->YV,drop_drop->YW,length_dropLast->YX,idxOf_cons_self->YY,reverse_reverse->YZ,dropLast_concat->Y1,nodup_iff_count->Y2,all_cons->Y4,reverse_append->Y6,mergeSort_perm->Y7,replicate_succ->Y8,map_take->Y9,perm_iff_count->Za,mem_filterMap->Zc,getElem_idxOf->Zd,pairwise_cons->Ze,filter_append->Zf,map_replicate->Zg,idxOf_append->Zk,cons->Zm,getElem?_inj->Zp,drop_append->Zt,map_id->Zv,lookup_cons->Zx,any_eq_true->Zy,mem_flatMap->Zz,countP_map->ZA,take_zero->ZD,mapM_cons->ZF,set_comm->ZI,any_map->ZM,flatten->ZO
open And renaming intro->Vs
open PySem.Heap renaming get?_push_of_some->Vt,lt_size->Vy,get?_push_size->Wa,get?_update_other->Wl,get?_none_of_le->WK,get?_update_self->W5,get?_update_ne->Xg,size_update->XF,SameBut->XW,size_push->X1,get?_push_ne->X3,MadeExcOf->Yl,update_setField_same->Yu,get?_push_at->Yv
open Nat renaming le_refl->Vu,lt_of_lt_of_le->VN,ne_of_lt->VO,zero_le->Wf,le_trans->Wi,le_of_lt->Wu,sub_self->WA,le_succ->WC,lt_succ_of_lt->WO,zero_add->WT,lt_irrefl->WW,lt_succ_self->WY,not_lt_zero->Xo,min_eq_left->Xp,add_one_sub_one->XN,lt_or_eq_of_le->XS,ne_of_gt->XX,le_of_eq->XY,add_assoc->X7,le_add_right->X8,min_eq_right->X9,mod_eq_of_lt->Ya,pos_of_ne_zero->Ym,lt_succ_iff_lt_or_eq->Yx,add_sub_cancel_left->YB,add_comm->YF,mod_self->YG,le_of_lt_succ->Zi,lt_trichotomy->Zj,max_eq_right->Zu,add_zero->ZL,sub_zero->ZN
open Array renaming getElem?_eq_getElem->Vv,length_toList->VD,getElem?_eq_some_iff->VQ,getElem?_toList->VR,toList_append->VT,getElem_mem->V5,toList_reverse->WN,toList_push->Xv,size_extract->XT,mem_toList_iff->Yc,toList_extract->Yd,toList_setIfInBounds->Yn,getElem?_extract->YI,getD->Y5,append_assoc->Zb,Perm->ZC,size_map->ZE
open PySem.Value renaming ref->Vw,none->WV,builtin->WX,type->Xd,int->Yp,str->YL,bool->Y3,float->Zq,isStrOf->ZH,isInt->ZR,bytes->ZS
open PySem.F renaming plainAttrs_list->Vz,slot_list_append->VU,type_list_append->VV,slot_list_index->WU,slot_list_extend->Xb,type_list_extend->Xc,type_list_index->Xi,typeOf_object_class->XA,excBase_ValueError->XE,slot_gs_get->Yk,excAttr_ValueError->Yo,slot_list_count->YD,entry_bexc_ga->YN,slot_list_pop->YQ,type_list_pop->YR,store_object->Y0
open PyProof.Rows renaming boot_isinstance->VC,boot_list->Xs,callWith_type1->Xy,boot_sorted->XR,boot_tuple->XZ,callWith_builtin1->Yb,boot_min->YO,boot_str->YS,boot_bool->ZQ,boot_int->ZU,lt_int->ZV
open Bool renaming false_ne_true->VF,and_eq_true->WZ,not_eq_true->W1,false_eq_true->W3,or_true->Xh,eq_iff_iff->Xl,false_and->YU,not_eq_true'->Zn,eq_false_iff->Zo,noConfusion->Zw,not_true->ZJ,or_false->ZK
open Or renaming inr->VJ,inl->VL
open Option renaming some->V2,map_some->W6,bind_some->XG,isSome_map->Yr,getD_none->Zr,none->ZT
open Sum renaming inl->Wk,inr->Yq
open Int renaming emod_lt_of_pos->Wq,emod_nonneg->WG,neg_neg->Xx,le_of_lt->Yg,toNat_natCast->Zh,le_refl->Zs,mul_le_mul->ZG
open Classical renaming propDecidable->YE
open Prod renaming ext->ZP
noncomputable section
open Array renaming mem_of_getElem?->aQq
namespace L2
open PySem PySem.Spec PyProof.Rows
abbrev bI:=Sum Int Str
noncomputable def vZ:bI->Value->Bool
 | .inl k,v=>ZR k v
 | .inr x,v=>ZH x v
noncomputable def SY(w:World):bI->Int
 | .inl k=>hashInt k
 | .inr x=>hashStr w x
theorem cU:∀{k:bI}{v:Value},vZ k v=true->(∃i t,k=Wk i/\v=Yp i t)∨(∃x t,k=Yq x/\v=YL x t)
 | .inl i,v,h=>by
  obtain⟨t,e⟩:=Value.isInt_shape (k:=i) (v:=v) h;exact .inl ⟨i,t,rfl,e⟩
 | .inr x,v,h=>by
  obtain⟨t,e⟩:=Value.isStrOf_shape (x:=x) (v:=v) h;exact .inr ⟨x,t,rfl,e⟩
theorem DM(i:Int) (t:Tok):vZ (.inl i) (.int i t)=true:=by simp[vZ,ZR]
theorem EV(x:Str) (t:Tok):vZ (.inr x) (.str x t)=true:=by simp[vZ,ZH]
theorem Pf(a b:Int):decide ((Wk a:bI)=Wk b)=(a == b):=by
 by_cases e:a=b
 .subst e;simp
 .have h:¬ (Wk a:bI)=Wk b:=fun q=>e (Wk.inj q)
  rw[decide_eq_false h];exact(beq_eq_false_iff_ne.mpr e).symm
theorem N3(a b:Str):decide ((Yq a:bI)=Yq b)=decide (a=b):=by
 by_cases e:a=b
 .subst e;simp
 .have h:¬ (Yq a:bI)=Yq b:=fun q=>e (Yq.inj q)
  rw[decide_eq_false h,decide_eq_false e]
theorem PJ(a:Int) (b:Str):decide ((Wk a:bI)=Yq b)=false:=decide_eq_false (fun q=>nomatch q)
theorem Oy(a:Str) (b:Int):decide ((Yq a:bI)=Wk b)=false:=decide_eq_false (fun q=>nomatch q)
def dF(prog:Program) (w:World):PySem.KeyKind prog w bI where
 is:=vZ
 hash:=SY w
 inj:=fun v a b ha hb=>by
  rcases cU ha with ⟨i,t,rfl,rfl⟩|⟨x,t,rfl,rfl⟩
  .rcases cU hb with ⟨j,u,rfl,e⟩|⟨y,u,rfl,e⟩
   .injection e with e1 _;rw[e1]
   .exact nomatch e
  .rcases cU hb with ⟨j,u,rfl,e⟩|⟨y,u,rfl,e⟩
   .exact nomatch e
   .injection e with e1 _;rw[e1]
 byValue:=fun k v h=>by
  rcases cU h with ⟨i,t,rfl,rfl⟩|⟨x,t,rfl,rfl⟩ <;> rfl
 pyHash:=fun hv h=>by
  rcases cU hv with ⟨i,t,rfl,rfl⟩|⟨x,t,rfl,rfl⟩
  .exact wpAny_pyHash_int h
  .exact wpAny_pyHash_str h
 eqBool:=fun hu hv h=>by
  rcases cU hu with ⟨i,t,rfl,rfl⟩|⟨x,t,rfl,rfl⟩
  .rcases cU hv with ⟨j,u,rfl,rfl⟩|⟨y,u,rfl,rfl⟩
   .rw [Pf]at h;exact wpAny_eqBool_int h
   .rw [PJ]at h;exact SeqAt.EqAt.int_str i t y u _ _ _ _ h
  .rcases cU hv with ⟨j,u,rfl,rfl⟩|⟨y,u,rfl,rfl⟩
   .rw [Oy]at h;exact SeqAt.EqAt.str_int x t j u _ _ _ _ h
   .rw [N3]at h;exact wpAny_eqBool_str h
 «strs»:=fun k x t v h=>by
  rcases cU h with ⟨i,u,rfl,e⟩|⟨y,u,rfl,e⟩
  .exact nomatch e
  .injection e with e1 _
   subst e1;cases v <;> rfl
theorem zt(prog:Program) (w:World) (i:Int) (t:Tok):(dF prog w).is (.inl i) (.int i t)=true:=DM i t
theorem Ax(prog:Program) (w:World) (x:Str) (t:Tok):(dF prog w).is (.inr x) (.str x t)=true:=EV x t
inductive V where
 |non|bl (b:Bool)|int (i:Int)|str (x:Str)|byt (b:Array UInt8)|flt (b:UInt64)|ref (a:Addr)|ty (n:String)
 deriving DecidableEq
def bO:V->Value->Prop
 | .non,u=>u=WV
 | .bl b,u=>u=Y3 b
 | .int i,u=>∃t,u=Yp i t
 | .str x,u=>∃t,u=YL x t
 | .byt b,u=>∃t,u=ZS b t
 | .flt b,u=>∃t,u=Zq b t
 | .ref a,u=>u=Vw a
 | .ty n,u=>u=Xd n
abbrev bq:List V->List Value->Prop:=Paired bO
theorem bq.length{xs:List V}{us:List Value}(r:bq xs us):xs.length=us.length:=Paired.length r
theorem bq.get:∀{xs:List V}{us:List Value}{i:Nat}{x:V},bq xs us->xs[i]?=some x->∃u,us[i]?=some u/\bO x u
 |_,_,_,_,.nil,e=>by simp at e
 |_,_,0,_,.cons r _,e=>by simp at e;subst e;exact⟨_,rfl,r⟩
 |_,_,i+1,x,.cons _ t,e=>by
  obtain⟨u,h1,h2⟩:=bq.get (i:=i) (x:=x) t (by simpa using e)
  exact⟨u,by simpa using h1,h2⟩
theorem bq.set{x:V}{u:Value}(r:bO x u):∀{xs:List V}{us:List Value}(i:Nat),bq xs us->bq (xs.set i x) (us.set i u)
 |_,_,_,.nil=>.nil
 |_,_,0,.cons _ t=>.cons r t
 |_,_,i+1,.cons q t=>.cons q (bq.set r i t)
theorem bq.append:∀{xs ys:List V}{us ws:List Value},bq xs us->bq ys ws->bq (xs++ys) (us++ws)
 |_,_,_,_,.nil,s=>s
 |_,_,_,_,.cons r t,s=>.cons r (bq.append t s)
theorem bq.take:∀{xs:List V}{us:List Value}(n:Nat),bq xs us->bq (xs.take n) (us.take n)
 |_,_,0,_=>.nil
 |_,_,_+1,.nil=>.nil
 |_,_,n+1,.cons r t=>.cons r (bq.take n t)
theorem bq.drop:∀{xs:List V}{us:List Value}(n:Nat),bq xs us->bq (xs.drop n) (us.drop n)
 |_,_,0,r=>r
 |_,_,_+1,.nil=>.nil
 |_,_,n+1,.cons _ t=>bq.drop n t
def mq:Option V->Option Value->Prop
 |some v,some u=>bO v u
 |none,none=>True
 |_,_=>False
def KV{κ:Type}:List (κ×V)->List (κ×Value)->Prop:=Paired fun(p:κ×V) (q:κ×Value)=>p.1=q.1/\bO p.2 q.2
def kV:bI->V
 | .inl i=>.int i
 | .inr x=>.str x
inductive HO where
 /-- a list -/
 |lst (xs:List V)
 /-- a tuple (never changes) -/
 |tup (xs:List V)
 /-- a dict whose keys are ints and texts;one whose keys are tuples of ints and texts (the empty one is oY) -/
 |dK (az:List (bI×V))|dT (az:List (List bI×V))
 /-- a set of ints: its members,its size -/
 |set (S:Int->Bool) (n:Nat)
 /-- an instance of the class at C,its dict at dx,its attributes -/
 |ins (C dx:Addr) (fs:List (Str×V))
 /-- the dict of the instance at x -/
 |own (x:Addr)
 /-- the dict of an exception -/
 |xd (fs:List (Str×V))
 /-- a bound method,f of x -/
 |met (f x:Addr)
 /-- a range object lo,lo+1,.. below hi -/
 |rng (lo hi:Int)
 /-- a thing that is known to the object (the script;a dict while a loop walks it): read,never written while it is so -/
 |frz (o:Obj) (u:HO)
 /-- a code object's table -/
 |tbl (ps:Array Value)
 /-- any other thing,by what is true of its one object (a def of one's own: SetO a S n:=HO.ext fun h=>..) -/
 |ext (φ:Heap->Prop)
abbrev Hp:=Addr->Option HO
noncomputable def bW(H:Hp) (a:Addr) (o:HO):Hp:=fun b=>if b=a then some o else H b
theorem aL{H:Hp}{a:Addr}{o:HO}:bW H a o a=some o:=by unfold bW;rw[if_pos rfl]
theorem ax{H:Hp}{a b:Addr}{o:HO}(h:b≠a):bW H a o b=H b:=by unfold bW;rw[if_neg h]
theorem yh{H:Hp}{a:Addr}{o u:HO}:bW (bW H a o) a u=bW H a u:=by
 funext b;unfold bW;split <;> rfl
theorem RS{H:Hp}{a b:Addr}{o u:HO}(h:H a=some o) (h':H b=some u) (d:o≠u):a≠b:=by
 intro e;subst e;rw[h]at h';exact d (V2.inj h')
theorem cP{H:Hp}{a b:Addr}{o:HO}(h:H a=some o) (h':H b=none):a≠b:=by
 intro e;subst e;rw[h]at h';cases h'
section
variable (P:Program) (w:World)
def cx(H:Hp) (h:Heap) (a:Addr):HO->Prop
 | .lst xs=>xs.length<=sizeLine/\∃(its:List Value) (n:Nat),bq xs its/\h.get? a=some { cls:=.type "list", data:=.seq its.toArray n }
 | .tup xs=>xs.length<=sizeLine/\∃its:List Value,bq xs its/\IsTup h a its.toArray
 | .dK az=>az.length<=sizeLine/\(a == sysModules)=false/\∃vs,KV az vs/\h.DictOf (dF P w) a vs
 | .dT az=>az.length<=sizeLine/\(a == sysModules)=false/\∃xs:List (List bI×Addr×Value),
   Paired (fun(p:List bI×V) (q:List bI×Addr×Value)=>p.1=q.1/\H q.2.1=some (.tup (p.1.map kV))/\bO p.2 q.2.2) az xs /\
   ∃o es ep,h.get? a=some o/\o.ExactDict/\o.data = .dict es ep/\es.toList=xs.map (entryOfKey (tupleKind (dF P w)))/\(xs.map (·.1)).Nodup
 | .set S n=>h.SetOf (intKind P w) a S n
 | .ins C dx fs=>H dx=some (.own a)/\fs.length<=1000/\dx≠a/\h.get? a=some (W.instObj C dx) /\
   ∃mA,h.Ns1 dx mA/\(∀f,mq (fs.lookup f) (mA f))/\PySem.Within mA (fs.map (·.1))
 | .own _=>∃o,h.get? a=some o
 | .xd fs=>∃mA,h.Ns1 a mA/\∀f,mq (fs.lookup f) (mA f)
 | .rng lo hi=>∃t u v,h.get? a=some { cls:=.type "range", data:=.fields #[.int lo t,.int hi u,.int 1 v] }
 | .frz o u=>h.get? a=some o/\cx H h a u
 | .tbl ps=>h.get? a=some { cls:=.none,data:=.fields ps }
 | .met f x=>h.get? a=some (W.methodObj (.ref f) (.ref x))
 | .ext φ=>φ h/\(∃o,h.get? a=some o)/\∀h1 h2:Heap,φ h1->(∀o,h1.get? a=some o->h2.get? a=some o)->φ h2
def mC(H:Hp) (h:Heap):Prop:=∀a o,H a=some o->cx P w H h a o
end
section
variable {P:Program}{w:World}{H H':Hp}{h h':Heap}{a:Addr}{o:HO}
theorem cx.lt(x:cx P w H h a o):a<h.objs.size:=by
 cases o with
 |lst xs=>obtain⟨_,_,_,_,e⟩:=x;exact Vy e
 |tup xs=>obtain⟨_,_,_,p⟩:=x;exact p.lt
 |dK az=>obtain⟨_,_,_,_,o,_,_,e,_⟩:=x;exact Vy e
 |dT az=>obtain⟨_,_,_,_,o,_,_,e,_⟩:=x;exact Vy e
 |set S n=>obtain⟨o,_,_,_,e,_⟩:=x;exact Vy e
 |ins C dx fs=>obtain⟨_,_,_,e,_⟩:=x;exact Vy e
 |own y=>obtain⟨_,e⟩:=x;exact Vy e
 |xd fs=>obtain⟨_,⟨_,_,_,e,_⟩,_⟩:=x;exact Vy e
 |rng lo hi=>obtain⟨_,_,_,e⟩:=x;exact Vy e
 |frz ob u=>obtain⟨e,_⟩:=x;exact Vy e
 |tbl ps=>exact Vy (show h.get? a=some _ from x)
 |met f y=>exact Vy (show h.get? a=some _ from x)
 |ext φ=>obtain⟨_,⟨_,e⟩,_⟩:=x;exact Vy e
theorem Paired.mapP{α β:Type}{F G:α->β->Prop}:∀{l₁:List α}{l₂:List β},Paired F l₁ l₂->(∀a b,F a b->G a b)->Paired G l₁ l₂
 |_,_,.nil,_=>.nil
 |_,_,.cons r t,f=>.cons (f _ _ r) (Paired.mapP t f)
theorem cx.stay(x:cx P w H h a o) (k:∀b u,(b=a∨H b=some (.own a))->h.get? b=some u->h'.get? b=some u)
  (ho:∀b,H b=some (.own a)->H' b=some (.own a)) (ht:∀b xs,H b=some (.tup xs)->H' b=some (.tup xs)):cx P w H' h' a o:=by
 induction o with
 |lst xs=>obtain⟨z,its,n,r,e⟩:=x;exact⟨z,its,n,r,k _ _ (.inl rfl) e⟩
 |tup xs=>obtain⟨z,its,r,ob,e,c⟩:=x;exact⟨z,its,r,ob,k _ _ (.inl rfl) e,c⟩
 |dK az=>obtain⟨z,y,vs,r,ob,es,ep,e,c⟩:=x;exact⟨z,y,vs,r,ob,es,ep,k _ _ (.inl rfl) e,c⟩
 |dT az =>
  obtain⟨z,y,xs,r,ob,es,ep,e,c⟩:=x;exact⟨z,y,xs,Paired.mapP r fun p q z=>⟨z.1,ht _ _ z.2.1,z.2.2⟩,ob,es,ep,k _ _ (.inl rfl) e,c⟩
 |set S n=>obtain⟨ob,es,ep,t,e,c⟩:=x;exact⟨ob,es,ep,t,k _ _ (.inl rfl) e,c⟩
 |ins C dx fs =>
  obtain⟨d,z,ne,e,mA,⟨od,es,ep,e2,c⟩,r⟩:=x;exact⟨ho _ d,z,ne,k _ _ (.inl rfl) e,mA,⟨od,es,ep,k _ _ (.inr d) e2,c⟩,r⟩
 |own y=>obtain⟨ob,e⟩:=x;exact⟨ob,k _ _ (.inl rfl) e⟩
 |xd fs=>obtain⟨mA,⟨od,es,ep,e,c⟩,r⟩:=x;exact⟨mA,⟨od,es,ep,k _ _ (.inl rfl) e,c⟩,r⟩
 |rng lo hi=>obtain⟨t,u,v,e⟩:=x;exact⟨t,u,v,k _ _ (.inl rfl) e⟩
 |frz ob u ih=>obtain⟨e,q⟩:=x;exact⟨k _ _ (.inl rfl) e,ih q⟩
 |tbl ps =>
  have e:h.get? a=some { cls:=.none,data:=.fields ps }:=x;show h'.get? a=some { cls:=.none,data:=.fields ps };exact k a _ (.inl rfl) e
 |met f y =>
  have e:h.get? a=some (W.methodObj (.ref f) (.ref y)):=x;show h'.get? a=some (W.methodObj (.ref f) (.ref y));exact k a _ (.inl rfl) e
 |ext φ=>obtain⟨p,⟨o,e⟩,st⟩:=x;exact⟨st _ _ p fun o q=>k _ _ (.inl rfl) q,⟨o,k _ _ (.inl rfl) e⟩,st⟩
theorem mC.lt(x:mC P w H h) (e:H a=some o):a<h.objs.size:=(x a o e).lt
theorem mC.fresh(x:mC P w H h) (e:h.objs.size<=a):H a=none:=by
 cases q:H a with
 |none=>rfl
 |some u=>exact absurd (VN (x.lt q) e) (WW _)
theorem mC.kept(x:mC P w H h) (k:∀b u,h.get? b=some u->h'.get? b=some u):mC P w H h':=fun a o e =>
 (x a o e).stay (fun b u _ q=>k b u q) (fun _ q=>q) fun _ _ q=>q
theorem mC.laid(x:mC P w H h) (k:∀b u,h.get? b=some u->h'.get? b=some u) (hp:h.objs.size<=a) (new:cx P w (bW H a o) h' a o):mC P w (bW H a o) h':=fun b u e=>by
 have hn:=x.fresh hp
 by_cases hb:b=a
 .subst hb;rw[aL]at e;cases e;exact new
 .rw [ax hb]at e;exact(x b u e).stay (fun c v _ q=>k c v q) (fun c q=>by rw[ax (cP q hn)];exact q) fun c xs q=>by rw[ax (cP q hn)];exact q
end
def Rd(H:Hp) (a:Addr) (u:HO):Prop:=H a=some u∨∃o,H a=some (.frz o u)
theorem Rd.ok{P:Program}{w:World}{H:Hp}{h:Heap}{a:Addr}{u:HO}(r:Rd H a u) (x:mC P w H h):cx P w H h a u:=by
 rcases r with r|⟨o,r⟩
 .exact x a u r
 .obtain ⟨_,q⟩:=x a _ r;exact q
def QC:Option HO->Prop
 |some (.lst _)=>True
 |some (.dK _)=>True
 |some (.dT _)=>True
 |some (.set _ _)=>True
 |some (.ins _ _ _)=>True
 |some (.ext _)=>True
 |_=>False
section
variable {P:Program}{w:World}{H:Hp}{h h':Heap}{x e:Addr}{o':HO}
theorem mC.write(ok:mC P w H h) (mu:QC (H x)) (he:e=x∨H e=some (.own x)) (k:∀b u,b≠e->h.get? b=some u->h'.get? b=some u) (heo:∃u,h'.get? e=some u)
  (new:cx P w (bW H x o') h' x o'):mC P w (bW H x o') h':=fun b u q=>by
 have nown:∀c y,H c=some (.own y)->c≠x:=fun c y r z=>by subst z;rw[r]at mu;exact mu
 have ntup:∀c xs,H c=some (.tup xs)->c≠x:=fun c xs r z=>by subst z;rw[r]at mu;exact mu
 by_cases hb:b=x
 .subst hb;rw[aL]at q;cases q;exact new
 .rw [ax hb]at q
  by_cases hbe:b=e
  .have q':H b=some (.own x):=by
    rcases he with z|z
    .exact absurd (hbe.trans z) hb
    .rw [hbe];exact z
   rw[q]at q';cases q';obtain⟨v,hv⟩:=heo;exact⟨v,by rw[hbe];exact hv⟩
  .refine (ok b u q).stay (fun c v hc r=>k c v ?_ r) (fun c r=>by rw[ax (nown c b r)];exact r) fun c xs r=>by rw[ax (ntup c xs r)];exact r
   rcases hc with rfl|hc
   .exact hbe
   .rintro rfl;rcases he with z|z
    .exact nown c b hc z
    .rw [hc]at z;cases z;exact hb rfl
end
structure Un (fs ex:List Addr) (H H':Hp) (h h':Heap):Prop where
 keep:∀b o,h.get? b=some o->H b=none->b∉fs->b∉ex->h'.get? b=some o
 slot:∀b o,h.get? b=some o->H b=none->b∈fs->b∉ex->∃sl,h'.get? b=some { o with slots:=sl }
 free:∀b o,h.get? b=some o->H b=none->b∉ex->H' b=none
 there:∀b o,h.get? b=some o->b∉ex->∃o',h'.get? b=some o'
 tups:∀b xs,H b=some (.tup xs)->H' b=some (.tup xs)
 frzs:∀b o u,H b=some (.frz o u)->H' b=some (.frz o u)
 tbls:∀b ps,H b=some (.tbl ps)->∃more,H' b=some (.tbl (ps++more))
section
variable {fs fs' ex ex':List Addr}{H H1 H2:Hp}{h h1 h2 h':Heap}{a x e:Addr}{o:HO}
theorem Un.any(u:Un fs ex H H1 h h1) {b:Addr}{ob:Obj}(q:h.get? b=some ob) (n:H b=none) (hx:b∉ex):∃sl,h1.get? b=some { ob with slots:=sl }:=by
 by_cases hb:b∈fs
 .exact u.slot b ob q n hb hx
 .exact ⟨ob.slots,u.keep b ob q n hb hx⟩
theorem Un.kept(k:∀b u,h.get? b=some u->h'.get? b=some u):Un fs ex H H h h' :=
 ⟨fun b ob q _ _ _=>k b ob q,fun b ob q _ _ _=>⟨ob.slots,k b ob q⟩,fun _ _ _ n _=>n,fun b ob q _=>⟨ob,k b ob q⟩,fun _ _ q=>q,fun _ _ _ q=>q,fun _ ps q=>⟨#[],by rw[q];simp⟩⟩
theorem Un.refl:Un fs ex H H h h:=Un.kept fun _ _ q=>q
theorem Un.laid(k:∀b u,h.get? b=some u->h'.get? b=some u) (hp:h.objs.size<=a) (hn:H a=none):Un fs ex H (bW H a o) h h' where
 keep:=fun b u q _ _ _=>k b u q
 slot:=fun b u q _ _ _=>⟨u.slots,k b u q⟩
 free:=fun b u q n _=>by rw[ax (VO (VN (Vy q) hp))];exact n
 there:=fun b u q _=>⟨u,k b u q⟩
 tups:=fun b xs q=>by rw[ax (cP q hn)];exact q
 frzs:=fun b u xs q=>by rw[ax (cP q hn)];exact q
 tbls:=fun b ps q=>⟨#[],by rw[ax (cP q hn),q];simp⟩
theorem Un.write(mu:QC (H x)) (he:e=x∨H e=some (.own x)) (k:∀b u,b≠e->h.get? b=some u->h'.get? b=some u) (heo:∃u,h'.get? e=some u):Un fs ex H (bW H x o) h h':=by
 have hx:∀b,H b=none->b≠x:=fun b n z=>by subst z;rw[n]at mu;exact mu
 have hb:∀b,H b=none->b≠e:=fun b n z=>by
  subst z;rcases he with r|r
  .exact hx b n r
  .rw [n]at r;cases r
 have hm:∀b u,H b=some u->¬ QC (some u)->b≠x:=fun b u q nm z=>by subst z;rw[q]at mu;exact nm mu
 refine⟨fun b u q n _ _=>k b u (hb b n) q,fun b u q n _ _=>⟨u.slots,k b u (hb b n) q⟩,fun b u q n _=>by rw[ax (hx b n)];exact n,fun b u q _=>?_,
  fun b xs q=>by rw[ax (hm b _ q fun z=>z)];exact q,fun b u xs q=>by rw[ax (hm b _ q fun z=>z)];exact q,fun b ps q=>⟨#[],by rw[ax (hm b _ q fun z=>z),q];simp⟩⟩
 by_cases hbe:b=e
 .subst hbe;exact heo
 .exact ⟨u,k b u hbe q⟩
end
noncomputable def R9(h:Heap) (H:Hp):List Addr:=(Wm h.objs.size).filter fun a=>(H a).isSome
def xx(h:Heap) (H:Hp):Heap:=W.hideAll h (R9 h H)
theorem EI(h:Heap) (H:Hp):(xx h H).objs.size=h.objs.size:=W.hideAll_size _ _
theorem Hd{h:Heap}{H:Hp}{b:Addr}{o:Obj}(e:h.get? b=some o) (n:H b=none):(xx h H).get? b=some o :=
 W.hideAll_get _ e fun hm=>by
  have q:(H b).isSome=true:=(WD.mp hm).2;rw[n]at q;simp at q
theorem Lm{h:Heap}{H:Hp}{b:Addr}{o:Obj}(e:(xx h H).get? b=some o):h.get? b=some o/\H b=none:=by
 have e':h.get? b=some o:=W.of_hideAll (R9 h H) e;refine⟨e',?_⟩;cases q:H b with
 |none=>rfl
 |some x =>
  have hm:b∈R9 h H:=WD.mpr ⟨X0.mpr (Vy e'),by simp[q]⟩
  have z:(xx h H).get? b=none:=W.hideAll_none (R9 h H) hm;rw[z]at e;cases e
noncomputable def LD(g h:Heap) (L:Addr):List (Addr×Obj):=(Wm h.objs.size).filterMap fun a=>if a=L∨(g.get? a).isSome=true then none else (h.get? a).map fun o=>(a,o)
def rest(g h:Heap) (L d:Addr):List (Addr×Obj):=(LD g h L).filter fun p=>decide (p.1≠d)
structure Mod (K:W.Frag) (mg:Str->Option Value) (base:Heap):Prop where
 kin:K.In base
 glob:base.Ns mainGlobals mg
 blt:∃mb,base.Ns builtinsNs mb/\∀x:Str,x ≠ "__name__" -> mb x=bootBuiltins x
 nolimit:base.NoLimit
structure Cx where
 prog:Program
 w:World
 K:W.Frag
 mg:Str->Option Value
 base:Heap
 A:Around
 N:List Str
 s₀:Shared
 H₀:Hp
 env:Env
 outer:List Env
 stack:List Env
 ex:List Addr
 fn:Str->Bool
 calm:Bool
 pn:List (Addr×Obj)
 xe:Value->Shared->Prop
noncomputable def BS(l:List Env):List Addr:=l.filterMap (·.frame)
abbrev Cx.fs(X:Cx):List Addr:=BS X.outer
def R8(sc:Scope) (x:Str):Prop:=sc.names.lookup x=some .local∨sc.names.lookup x=some .cell∨sc.names.lookup x=some .free
def P8(sc:Scope) (x:Str):Prop:=sc.names.lookup x=some .local∨sc.names.lookup x=some .cell
def Rv(env:Env) (h:Heap) (m:Str->Option Value) (x:Str) (u:Value):Prop :=
 (env.kindOf x=some .local/\m x=some u)∨((env.kindOf x=some .cell∨env.kindOf x=some .free)/\∃c,env.cells.lookup x=some c/\h.IsCell c (some u))
structure Cx.Ok (X:Cx):Prop where
 mod:Mod X.K X.mg X.base
 kind:X.env.scope.kind = .function
 glob:X.env.globals=mainGlobals
 blt:X.env.builtins=builtinsNs
 above:X.s₀.heap.objs.size<=X.env.locals
 inj:∀x y c,X.env.cells.lookup x=some c->X.env.cells.lookup y=some c->x=y
 has:∀x,(X.env.kindOf x=some .cell∨X.env.kindOf x=some .free)->∃c,X.env.cells.lookup x=some c
 cab:∀x c,X.fn x=true->X.env.cells.lookup x=some c->X.s₀.heap.objs.size<=c
 hd:X.calm=true->X.A.handled=none
 frames:X.A.frames=some X.stack
 stk:X.stack=X.outer∨(X.stack=X.env::X.outer/\X.env.frame=some X.env.locals)
 exf:∀b∈X.ex,b≠X.env.locals/\∀x c,X.env.cells.lookup x=some c->c≠b
 bs:∀b o,X.base.get? b=some o->X.s₀.heap.get? b=some o/\X.H₀ b=none
 bsz:X.base.objs.size<=X.s₀.heap.objs.size
 noex:∀b o,X.base.get? b=some o->b∉X.ex
 exfs:∀b∈X.ex,b∉X.fs
 funs:X.s₀.heap.FunFrames X.base X.outer
 frf:∀b∈X.fs,X.H₀ b=none
structure Inv (X:Cx) (ae:List (Addr×Obj)) (σ:List (Option V)) (H:Hp) (s:Shared):Prop where
 ok:X.Ok
 os:s.os=X.s₀.os
 bare:AllBare s.gens
 base:Un X.fs X.ex X.H₀ H X.s₀.heap s.heap
 loc:∃m,s.heap.Ns X.env.locals m/\∀(i:Nat) (x:Str) (v:V),X.N[i]?=some x->σ[i]?=some (some v)->R8 X.env.scope x->∃u,bO v u/\Rv X.env s.heap m x u
 cell:∀x c,X.env.cells.lookup x=some c->∃v,s.heap.IsCell c v
 free:H X.env.locals=none
 freeC:∀x c,X.env.cells.lookup x=some c->H c=none
 pin:∀p∈X.pn++ae,s.heap.get? p.1=some p.2/\H p.1=none/\p.1≠X.env.locals/\p.1∉X.fs/\∀v,p.2.data ≠ .cell v
 hok:mC X.prog X.w H s.heap
 len:σ.length=X.N.length
section
variable {X:Cx}{ae:List (Addr×Obj)}{σ:List (Option V)}{H H':Hp}{s:Shared}{h':Heap}
theorem Cx.Ok.nofr(ok:X.Ok) {b:Addr}{o:Obj}(e:X.base.get? b=some o):b∉X.fs:=fun hb=>by
 have:=(ok.funs.mem hb).1;rw[e]at this;cases this
theorem Inv.bs(I:Inv X ae σ H s):∀b o,X.base.get? b=some o->s.heap.get? b=some o/\H b=none:=fun b o e =>
 ⟨I.base.keep b o (I.ok.bs b o e).1 (I.ok.bs b o e).2 (I.ok.nofr e) (I.ok.noex b o e),I.base.free b o (I.ok.bs b o e).1 (I.ok.bs b o e).2 (I.ok.noex b o e)⟩
theorem Inv.bk(I:Inv X ae σ H s):∀b o,X.base.get? b=some o->s.heap.get? b=some o:=fun b o e=>(I.bs b o e).1
theorem Inv.mod(I:Inv X ae σ H s):Mod X.K X.mg X.base:=I.ok.mod
theorem Inv.kIn(I:Inv X ae σ H s):X.K.In s.heap:=I.ok.mod.kin.keeps I.bk
theorem Inv.lt(I:Inv X ae σ H s):X.env.locals<s.heap.objs.size:=let ⟨_,hn,_⟩:=I.loc;hn.lt
theorem Inv.sz(I:Inv X ae σ H s):X.s₀.heap.objs.size<=s.heap.objs.size:=Wi I.ok.above (Wu I.lt)
theorem Inv.nofs(I:Inv X ae σ H s) {a:Addr}(h:s.heap.objs.size<=a):a∉X.fs:=fun hb=>by
 obtain⟨_,o,ho,_⟩:=I.ok.funs.mem hb;exact absurd (VN (Vy ho) (Wi I.sz h)) (WW _)
theorem Inv.cne(I:Inv X ae σ H s):∀x c,X.env.cells.lookup x=some c->c≠X.env.locals:=fun x c e z=>by
 obtain⟨v,o,ho,hd⟩:=I.cell x c e;obtain⟨m,⟨o',es,ep,ho',hd',_⟩,_⟩:=I.loc;rw[z,ho']at ho;cases ho;rw[hd']at hd;cases hd
theorem Inv.funs(I:Inv X ae σ H s):s.heap.FunFrames X.base X.outer:=by
 have all:∀(l:List Env),(∀b∈BS l,b∈X.fs)->X.s₀.heap.FunFrames X.base l->s.heap.FunFrames X.base l:=by
  intro l
  induction l with
  |nil=>intro _ _;trivial
  |cons env r ih =>
   intro hs hl;obtain⟨hk,⟨L,o,hf,hn,ho,hd⟩,hr⟩:=hl;have hL:L∈X.fs:=hs L (by unfold BS;rw[Yi,hf];exact V0)
   obtain⟨sl,e⟩:=I.base.slot L o ho (I.ok.frf L hL) hL fun z=>I.ok.exfs L z hL
   exact⟨hk,⟨L,_,hf,hn,e,hd⟩,ih (fun b hb=>hs b (by unfold BS;rw[Yi,hf];exact mCo _ hb)) hr⟩
 exact all X.outer (fun _ hb=>hb) I.ok.funs
theorem Inv.stack(I:Inv X ae σ H s):s.heap.FunFrames X.base X.stack:=by
 rcases I.ok.stk with e|⟨e,hf⟩
 .rw [e];exact I.funs
 .rw [e];obtain⟨m,hn,_⟩:=I.loc;refine .cons (by rw[I.ok.kind];decide) hf hn ?_ I.funs
  exact WK (Wi I.ok.bsz I.ok.above)
theorem Inv.stkSub(I:Inv X ae σ H s):∀b∈BS X.stack,b∈X.env.locals::X.fs:=fun b hb=>by
 rcases I.ok.stk with e|⟨e,hf⟩
 .rw [e]at hb;exact mCo _ hb
 .rw [e]at hb;unfold BS at hb;rw[Yi,hf]at hb;exact hb
theorem Inv.stkFree(I:Inv X ae σ H s):∀b∈BS X.stack,H b=none:=fun b hb=>by
 rcases VB.mp (I.stkSub b hb) with e|hb
 .rw [e];exact I.free
 .obtain ⟨_,o,ho,_⟩:=I.ok.funs.mem hb;exact I.base.free b o ho (I.ok.frf b hb) fun z=>I.ok.exfs b z hb
theorem Inv.step{g':Array GenState}{t':Nat}{d':Drawn}{ch:List Addr}(I:Inv X ae σ H s)
  (hch:∀b∈ch,(b∈X.ex∨X.s₀.heap.objs.size<=b)/\b≠X.env.locals/\(∀x c,X.env.cells.lookup x=some c->c≠b)/\∀p∈X.pn++ae,p.1≠b)
  (keep:∀b o,b≠X.env.locals->b∉X.fs->b∉ch->s.heap.get? b=some o->H b=none->h'.get? b=some o)
  (slot:∀b o,b≠X.env.locals->b∈X.fs->b∉ch->s.heap.get? b=some o->H b=none->∃sl,h'.get? b=some { o with slots:=sl }) (free:∀b o,b∉ch->s.heap.get? b=some o->H b=none->H' b=none)
  (there:∀b o,b∉ch->s.heap.get? b=some o->∃o',h'.get? b=some o')
  (tups:∀b xs,H b=some (.tup xs)->H' b=some (.tup xs)) (frzs:∀b o u,H b=some (.frz o u)->H' b=some (.frz o u)) (tbls:∀b ps,H b=some (.tbl ps)->∃more,H' b=some (.tbl (ps++more)))
  (ns:∀m,s.heap.Ns X.env.locals m->h'.Ns X.env.locals m) (hok:mC X.prog X.w H' h') (hg:AllBare g') :
  Inv X ae σ H' { s with heap:=h',gens:=g',drawn:=d',toks:=t' }:=by
 have neL:∀b o,X.s₀.heap.get? b=some o->b≠X.env.locals:=fun b o e=>VO (VN (Vy e) I.ok.above)
 have neC:∀b o,X.s₀.heap.get? b=some o->b∉X.ex->b∉ch:=fun b o e hx hb=>by
  rcases (hch b hb).1 with z|z
  .exact hx z
  .exact absurd (VN (Vy e) z) (WW _)
 have cellK:∀x c,X.env.cells.lookup x=some c->∀v,s.heap.IsCell c v->h'.IsCell c v:=fun x c e v ⟨o,ho,hd⟩=>by
  have nch:c∉ch:=fun z=>(hch c z).2.2.1 x c e rfl
  by_cases hc:c∈X.fs
  .obtain ⟨sl,q⟩:=slot c o (I.cne x c e) hc nch ho (I.freeC x c e);exact⟨_,q,hd⟩
  .exact ⟨o,keep c o (I.cne x c e) hc nch ho (I.freeC x c e),hd⟩
 refine⟨I.ok,I.os,hg,⟨fun b o e n hb hx=>?_,fun b o e n hb hx=>?_,fun b o e n hx=>?_,fun b o e hx=>?_,fun b xs e=>tups b xs (I.base.tups b xs e),fun b o xs e=>frzs b o xs (I.base.frzs b o xs e),fun b ps e=>?_⟩,?_,fun x c e=>?_,?_,fun x c e=>?_,fun p hp=>?_,hok,I.len⟩
 .exact keep b o (neL b o e) hb (neC b o e hx) (I.base.keep b o e n hb hx) (I.base.free b o e n hx)
 .obtain ⟨sl,e1⟩:=I.base.slot b o e n hb hx;obtain⟨sl',e2⟩:=slot b _ (neL b o e) hb (neC b o e hx) e1 (I.base.free b o e n hx);exact⟨sl',e2⟩
 .obtain ⟨o',e1⟩:=I.base.there b o e hx;exact free b o' (neC b o e hx) e1 (I.base.free b o e n hx)
 .obtain ⟨o',e1⟩:=I.base.there b o e hx;exact there b o' (neC b o e hx) e1
 .obtain ⟨m1,e1⟩:=I.base.tbls b ps e;obtain⟨m2,e2⟩:=tbls b _ e1;exact⟨m1++m2,by rw[e2,Zb]⟩
 .obtain ⟨m,hn,hl⟩:=I.loc;refine⟨m,ns m hn,fun i x v e1 e2 e3=>?_⟩
  obtain⟨u,r,l⟩:=hl i x v e1 e2 e3;refine⟨u,r,?_⟩;rcases l with l|⟨k,c,e,z⟩
  .exact .inl l
  .exact .inr ⟨k,c,e,cellK x c e _ z⟩
 .obtain ⟨v,z⟩:=I.cell x c e;exact⟨v,cellK x c e v z⟩
 .obtain ⟨m,⟨o,_,_,ho,_⟩,_⟩:=I.loc;exact free _ o (fun z=>(hch _ z).2.1 rfl) ho I.free
 .obtain ⟨v,o,ho,hd⟩:=I.cell x c e;exact free c o (fun z=>(hch c z).2.2.1 x c e rfl) ho (I.freeC x c e)
 .obtain ⟨e,n,ne,nf,d⟩:=I.pin p hp;have nch:p.1∉ch:=fun z=>(hch p.1 z).2.2.2 p hp rfl
  exact⟨keep p.1 p.2 ne nf nch e n,free p.1 p.2 nch e n,ne,nf,d⟩
theorem Inv.un{t':Nat}(I:Inv X ae σ H s) (u:Un X.fs [] H H' s.heap h') (hok:mC X.prog X.w H' h'):Inv X ae σ H' { s with heap:=h',toks:=t' }:=by
 obtain⟨m,⟨o,es,ep,ho,r⟩,_⟩:=id I.loc;obtain⟨sl,hL⟩:=u.any ho I.free (by simp)
 exact I.step (g':=s.gens) (d':=s.drawn) (ch:=[]) (fun _ z=>nomatch z) (fun b o _ hb _ e n=>u.keep b o e n hb (by simp)) (fun b o _ hb _ e n=>u.slot b o e n hb (by simp)) (fun b o _ e n=>u.free b o e n (by simp)) (fun b o _ e=>u.there b o e (by simp)) u.tups u.frzs u.tbls (fun m' hm=>by
  obtain⟨o',es',ep',ho',r'⟩:=hm;rw[ho]at ho';cases ho';exact⟨_,es',ep',hL,r'⟩) hok I.bare
theorem Inv.call{g':Array GenState}{t':Nat}{d':Drawn}{ch:List Addr}(I:Inv X ae σ H s) (u:Un (BS X.stack) ch H H' s.heap h') (hok:mC X.prog X.w H' h') (hg:AllBare g')
  (hch:∀b∈ch,(b∈X.ex∨X.s₀.heap.objs.size<=b)/\b≠X.env.locals/\(∀x c,X.env.cells.lookup x=some c->c≠b)/\∀p∈X.pn++ae,p.1≠b) :
  Inv X ae σ H' { s with heap:=h',gens:=g',drawn:=d',toks:=t' }:=by
 obtain⟨m,⟨o,es,ep,ho,r⟩,_⟩:=id I.loc;obtain⟨sl,hL⟩:=u.any ho I.free fun z=>(hch _ z).2.1 rfl
 exact I.step (ch:=ch) hch (fun b o hL hb hc e n=>u.keep b o e n (fun z=>(VB.mp (I.stkSub b z)).elim hL hb) hc) (fun b o _ _ hc e n=>u.any e n hc) (fun b o hc e n=>u.free b o e n hc) (fun b o hc e=>u.there b o e hc) u.tups u.frzs u.tbls (fun m' hm=>by
  obtain⟨o',es',ep',ho',r'⟩:=hm;rw[ho]at ho';cases ho';exact⟨_,es',ep',hL,r'⟩) hok hg
theorem Inv.turned{t':Nat}{it:Addr}(I:Inv X ae σ H s) (k:∀b o,b≠it->s.heap.get? b=some o->h'.get? b=some o) (hn:H it=none) (hL:it≠X.env.locals)
  (h1:it∈X.ex∨X.s₀.heap.objs.size<=it) (h2:∀x c,X.env.cells.lookup x=some c->c≠it) (h3:∀p∈X.pn++ae,p.1≠it):Inv X ae σ H { s with heap:=h',toks:=t' }:=by
 have nit:∀b u,H b=some u->b≠it:=fun b u e z=>by rw[z,hn]at e;cases e
 refine I.step (g':=s.gens) (d':=s.drawn) (ch:=[it]) (fun b hb=>?_) (fun b o _ _ hc e _=>k b o (fun z=>hc (by simp[z])) e) (fun b o _ _ hc e _=>⟨o.slots,k b o (fun z=>hc (by simp[z])) e⟩) (fun _ _ _ _ n=>n)
  (fun b o hc e=>⟨o,k b o (fun z=>hc (by simp[z])) e⟩) (fun _ _ e=>e) (fun _ _ _ e=>e) (fun b ps e=>⟨#[],by rw[e];simp⟩) (fun m hm=>?_) (fun b u e=>?_) I.bare
 .have e:b=it:=by simpa using hb
  subst e;exact⟨h1,hL,h2,h3⟩
 .obtain ⟨o,es,ep,ho,r⟩:=hm;exact⟨o,es,ep,k _ o (Ne.symm hL) ho,r⟩
 .refine (I.hok b u e).stay (fun c v hc q=>k c v ?_ q) (fun _ q=>q) fun _ _ q=>q
  rcases hc with z|z
  .rw [z];exact nit b u e
  .exact nit c _ z
theorem Inv.tok(I:Inv X ae σ H s) (t:Nat):Inv X ae σ H { s with toks:=t }:=I.un (h':=s.heap) (t':=t) Un.refl I.hok
theorem Inv.kept{t':Nat}(I:Inv X ae σ H s) (k:∀b u,s.heap.get? b=some u->h'.get? b=some u):Inv X ae σ H { s with heap:=h',toks:=t' }:=I.un (Un.kept k) (I.hok.kept k)
theorem Inv.laid{a:Addr}{o:HO}{t':Nat}(I:Inv X ae σ H s) (k:∀b u,s.heap.get? b=some u->h'.get? b=some u) (hp:s.heap.objs.size<=a) (new:cx X.prog X.w (bW H a o) h' a o) :
  Inv X ae σ (bW H a o) { s with heap:=h',toks:=t' }:=I.un (Un.laid k hp (I.hok.fresh hp)) (I.hok.laid k hp new)
theorem Inv.write{x e:Addr}{o:HO}{t':Nat}(I:Inv X ae σ H s) (mu:QC (H x)) (he:e=x∨H e=some (.own x)) (k:∀b u,b≠e->s.heap.get? b=some u->h'.get? b=some u) (heo:∃u,h'.get? e=some u)
  (new:cx X.prog X.w (bW H x o) h' x o):Inv X ae σ (bW H x o) { s with heap:=h',toks:=t' }:=I.un (Un.write mu he k heo) (I.hok.write mu he k heo new)
theorem Inv.pins_of{pins':List (Addr×Obj)}(I:Inv X ae σ H s) (h:∀p∈pins',s.heap.get? p.1=some p.2/\H p.1=none/\p.1≠X.env.locals/\p.1∉X.fs/\∀v,p.2.data ≠ .cell v):Inv X pins' σ H s :=
 ⟨I.ok,I.os,I.bare,I.base,I.loc,I.cell,I.free,I.freeC,fun p hp=>(mAq.mp hp).elim (fun z=>I.pin p (WL _ z)) (h p),I.hok,I.len⟩
theorem uY{N:List Str}(hN:N.Nodup) {i j:Nat}{x:Str}(a:N[i]?=some x) (b:N[j]?=some x):i=j:=by
 obtain⟨h1,e1⟩:=gSq.mp a;obtain⟨h2,e2⟩:=gSq.mp b;exact(List.getElem_inj hN).mp (e1.trans e2.symm)
theorem E6{M:Model}{A:Around}{E:Value->Shared->Prop}{i:Nat}{x:Str}{v:V}{u:Value}{Q:Unit->Shared->Prop}(I:Inv X ae σ H s) (hN:X.N.Nodup) (hi:X.N[i]?=some x) (hx:P8 X.env.scope x) (r:bO v u)
  (h:∀s',Inv X ae (σ.set i (some v)) H s'->(∃a,XW a s.heap s'.heap/\(a=X.env.locals∨X.env.cells.lookup x=some a))->Q () s') (hf:X.fn x=true∨X.env.scope.names.lookup x=some .local:=by first|exact .inl rfl|exact .inr rfl|assumption):wpAny M A (storeName X.env x u) Q E s:=by
 obtain⟨m,hn,hl⟩:=id I.loc;have hcls:(X.env.scope.kind == .class || (X.env.scope.kind == .module && X.env.locals != X.env.globals))=false:=by rw[I.ok.kind];rfl
 have hiσ:i<σ.length:=by rw[I.len];exact(gSq.mp hi).1
 have cne:=I.cne;have tracked:∀{a:Addr}{h':Heap},(∃o,s.heap.get? a=some o/\H a=none)->XW a s.heap h'->mC X.prog X.w H h':=fun {a h'} ha hs b ob e=>by
  obtain⟨_,_,hfree⟩:=ha;refine(I.hok b ob e).stay (fun c w' hc q=>(hs.2 c ?_).trans q) (fun _ q=>q) fun _ _ q=>q
  rintro rfl;rcases hc with rfl|hc
  .rw [hfree]at e;cases e
  .rw [hfree]at hc;cases hc
 rcases hx with hk|hk
 .refine wpAny_storeName_local hk hn (fun h' hn' hs=>?_) hcls
  obtain⟨oL,_,_,hoL,_⟩:=id hn;refine h _ ⟨I.ok,I.os,I.bare,⟨fun b o e n hb hx=>?_,fun b o e n hb hx=>?_,I.base.free,fun b o e hx=>?_,I.base.tups,I.base.frzs,I.base.tbls⟩,⟨_,hn',fun j y v' e1 e2 e3=>?_⟩,fun y c e=>?_,I.free,I.freeC,fun p hp=>?_,tracked ⟨oL,hoL,I.free⟩ hs,by simpa using I.len⟩ ⟨_,hs,.inl rfl⟩
  .exact (hs.2 b (VO (VN (Vy e) I.ok.above))).trans (I.base.keep b o e n hb hx)
  .obtain ⟨sl,e1⟩:=I.base.slot b o e n hb hx;exact⟨sl,(hs.2 b (VO (VN (Vy e) I.ok.above))).trans e1⟩
  .obtain ⟨o',e1⟩:=I.base.there b o e hx;exact⟨o',(hs.2 b (VO (VN (Vy e) I.ok.above))).trans e1⟩
  .by_cases hj:j=i
   .subst hj;rw[hi]at e1;cases e1;rw[VS hiσ]at e2;cases e2;exact⟨u,r,.inl ⟨hk,by simp⟩⟩
   .rw [VA (Ne.symm hj)]at e2;obtain⟨u',r',q⟩:=hl j y v' e1 e2 e3;refine⟨u',r',?_⟩;rcases q with ⟨k,e⟩|⟨k,c,e,z⟩
    .refine .inl ⟨k,?_⟩;have:y≠x:=fun e=>hj (uY hN e1 (e ▸ hi))
     simp[this,e]
    .exact .inr ⟨k,c,e,z.sameBut hs (cne y c e)⟩
  .obtain ⟨w',z⟩:=I.cell y c e;exact⟨w',z.sameBut hs (cne y c e)⟩
  .obtain ⟨e,n,ne,nf,d⟩:=I.pin p hp;exact⟨(hs.2 p.1 ne).trans e,n,ne,nf,d⟩
 .have hfn:X.fn x=true:=by
   rcases hf with z|z
   .exact z
   .rw [z]at hk;cases hk
  obtain⟨c,hc⟩:=I.ok.has x (.inl hk);obtain⟨w',z⟩:=I.cell x c hc;refine wpAny_storeName_cell I.ok.kind hk hc z (fun h' hc' hs=>?_)
  obtain⟨oc,hoc,hocd⟩:=id z;refine h { s with heap:=h' } ⟨I.ok,I.os,I.bare,⟨fun b o e n hb hx=>?_,fun b o e n hb hx=>?_,I.base.free,fun b o e hx=>?_,I.base.tups,I.base.frzs,I.base.tbls⟩,⟨m,hn.sameBut hs (Ne.symm (cne x c hc)),fun j y v' e1 e2 e3=>?_⟩,fun y c' e=>?_,I.free,I.freeC,fun p hp=>?_,tracked ⟨oc,hoc,I.freeC x c hc⟩ hs,by simpa using I.len⟩ ⟨c,hs,.inr hc⟩
  .exact (hs.2 b (VO (VN (Vy e) (I.ok.cab x c hfn hc)))).trans (I.base.keep b o e n hb hx)
  .obtain ⟨sl,e1⟩:=I.base.slot b o e n hb hx;exact⟨sl,(hs.2 b (VO (VN (Vy e) (I.ok.cab x c hfn hc)))).trans e1⟩
  .obtain ⟨o',e1⟩:=I.base.there b o e hx;exact⟨o',(hs.2 b (VO (VN (Vy e) (I.ok.cab x c hfn hc)))).trans e1⟩
  .by_cases hj:j=i
   .subst hj;rw[hi]at e1;cases e1;rw[VS hiσ]at e2;cases e2;exact⟨u,r,.inr ⟨.inl hk,c,hc,hc'⟩⟩
   .rw [VA (Ne.symm hj)]at e2;obtain⟨u',r',q⟩:=hl j y v' e1 e2 e3;refine⟨u',r',?_⟩;rcases q with q|⟨k,c',e,z'⟩
    .exact .inl q
    .refine .inr ⟨k,c',e,z'.sameBut hs ?_⟩;rintro rfl;exact hj (uY hN e1 (I.ok.inj _ _ _ e hc ▸ hi))
  .by_cases hcc:c'=c
   .subst hcc;exact⟨_,hc'⟩
   .obtain ⟨w2,z2⟩:=I.cell y c' e;exact⟨w2,z2.sameBut hs hcc⟩
  .obtain ⟨e,n,ne,nf,d⟩:=I.pin p hp;refine⟨(hs.2 p.1 ?_).trans e,n,ne,nf,d⟩;intro q;rw[q,hoc]at e;have q':oc=p.2:=V2.inj e;exact d w' (by rw[←q'];exact hocd)
theorem pX{M:Model}{A:Around}{E:Value->Shared->Prop}{i:Nat}{x:Str}{v:V}{u:Value}{Q:Unit->Shared->Prop}(I:Inv X ae σ H s) (hN:X.N.Nodup) (hi:X.N[i]?=some x) (hx:P8 X.env.scope x) (r:bO v u)
  (h:∀s',Inv X ae (σ.set i (some v)) H s'->Q () s') (hf:X.fn x=true∨X.env.scope.names.lookup x=some .local:=by first|exact .inl rfl|exact .inr rfl|assumption):wpAny M A (storeName X.env x u) Q E s :=
 E6 I hN hi hx r (fun s' I' _=>h s' I') hf
theorem Inv.call'{s':Shared}{ch:List Addr}(I:Inv X ae σ H s) (ho:s'.os=s.os) (u:Un (BS X.stack) ch H H' s.heap s'.heap) (hok:mC X.prog X.w H' s'.heap) (hg:AllBare s'.gens)
  (hch:∀b∈ch,(b∈X.ex∨X.s₀.heap.objs.size<=b)/\b≠X.env.locals/\(∀x c,X.env.cells.lookup x=some c->c≠b)/\∀p∈X.pn++ae,p.1≠b):Inv X ae σ H' s':=by
 obtain⟨h',g',d',t',o'⟩:=s';have e:o'=s.os:=ho;subst e;exact I.call (g':=g') (t':=t') (d':=d') u hok hg hch
end
abbrev XK:=Value->Option Addr->Hp->Prop
abbrev St:=List (Option V)
abbrev VK:=V->Hp->Prop
abbrev TE:=St->Hp->VK->Prop
abbrev TT:=St->Hp->(Bool->Hp->Prop)->Prop
abbrev TA:=St->Hp->(List V->Hp->Prop)->Prop
structure ja where
 nx:St->Hp->Prop
 rt:VK
 bk:St->Hp->Prop:=fun _ _=>False
 ct:St->Hp->Prop:=fun _ _=>False
abbrev TS:=ja->St->Hp->Prop
def EP(X:Cx) (ae:List (Addr×Obj)) (σ:St) (Q:VK) (u:Value) (s':Shared):Prop:=∃v H',Inv X ae σ H' s'/\bO v u/\Q v H'
def TP(X:Cx) (ae:List (Addr×Obj)) (σ:St) (Q:Bool->Hp->Prop) (b:Bool) (s':Shared):Prop:=∃H',Inv X ae σ H' s'/\Q b H'
def AP(X:Cx) (ae:List (Addr×Obj)) (σ:St) (Q:List V->Hp->Prop) (us:List Value) (s':Shared):Prop:=∃vs H',Inv X ae σ H' s'/\bq vs us/\Q vs H'
def SP(X:Cx) (ae:List (Addr×Obj)) (D:ja) (f:Flow) (s':Shared):Prop :=
 match f with
 | .next=>∃σ' H',Inv X ae σ' H' s'/\D.nx σ' H'
 | .brk=>∃σ' H',Inv X ae σ' H' s'/\D.bk σ' H'
 | .cont=>∃σ' H',Inv X ae σ' H' s'/\D.ct σ' H'
 | .ret u=>∃v σ' H',Inv X ae σ' H' s'/\bO v u/\D.rt v H'
def PE(X:Cx) (e:Expr) (t:TE):Prop :=
 ∀(ae:List (Addr×Obj)) (s:Shared) (σ:St) (H:Hp) (Q:VK),Inv X ae σ H s->t σ H Q->wpAny (model X.prog X.w) X.A (eval e X.env) (EP X ae σ Q) X.xe s
def PT(X:Cx) (e:Expr) (t:TT):Prop :=
 ∀(ae:List (Addr×Obj)) (s:Shared) (σ:St) (H:Hp) (Q:Bool->Hp->Prop),Inv X ae σ H s->t σ H Q->wpAny (model X.prog X.w) X.A (isTrue e X.env (eval e X.env)) (TP X ae σ Q) X.xe s
def PW(X:Cx) (e:Expr) (t:TT):Prop :=
 ∀(whole:Sem Value) (ae:List (Addr×Obj)) (s:Shared) (σ:St) (H:Hp) (Q:Bool->Hp->Prop),Inv X ae σ H s->t σ H Q->wpAny (model X.prog X.w) X.A (isTrue e X.env whole) (TP X ae σ Q) X.xe s
theorem PW.pt{X:Cx}{e:Expr}{t:TT}(h:PW X e t):PT X e t:=h _
def PA(X:Cx) (es:List Expr) (t:TA):Prop :=
 ∀(pos:Pos) (ae:List (Addr×Obj)) (s:Shared) (σ:St) (H:Hp) (Q:List V->Hp->Prop),Inv X ae σ H s->t σ H Q->wpAny (model X.prog X.w) X.A (spliced (backTo pos (starEach es X.env))) (AP X ae σ Q) X.xe s
def PS(X:Cx) (st:Stmt) (t:TS):Prop :=
 ∀(ae:List (Addr×Obj)) (s:Shared) (σ:St) (H:Hp) (D:ja),Inv X ae σ H s->t D σ H->wpAny (model X.prog X.w) X.A (exec st X.env) (SP X ae D) X.xe s
def Au(X:Cx) (st:List Stmt) (t:TS):Prop :=
 ∀(ae:List (Addr×Obj)) (s:Shared) (σ:St) (H:Hp) (D:ja),Inv X ae σ H s->t D σ H->wpAny (model X.prog X.w) X.A (execs st X.env) (SP X ae D) X.xe s
theorem dB{α:Type}{t:Sem α}{Q Q':α->Shared->Prop}{M:Model}{A:Around}{E:Value->Shared->Prop}{s:Shared}(h:wpAny M A t Q E s) (hQ:∀a s,Q a s->Q' a s):wpAny M A t Q' E s:=wpAny_mono h hQ fun _ _ x=>x
section
variable {X:Cx}
def iE(i:Nat):TE:=fun σ H Q=>∃v,σ[i]?=some (some v)/\Q v H
def tC(v:V):TE:=fun _ H Q=>Q v H
theorem O6{i:Nat}{x:Str}{pos:Pos}(hN:X.N[i]?=some x) (hv:R8 X.env.scope x) (hd:(x == ("__debug__" : Str))=false:=by decide) (hcd:(x == ("__classdict__" : Str))=false:=by decide):PE X (.Name x pos) (iE i):=by
 intro ae s σ H Q I h;obtain⟨v,e,h⟩:=h;obtain⟨m,hn,hl⟩:=I.loc;obtain⟨u,r,l⟩:=hl i x v hN e hv;have fin:EP X ae σ Q u s:=⟨v,H,I,r,h⟩;rcases l with ⟨hk,hm⟩|⟨hk,c,hc,hcell⟩
 .exact wpAny_Name (wpAny_loadName_local I.ok.kind hk hn hm fin) hd
 .rcases hk with hk|hk
  .exact wpAny_Name (wpAny_loadName_cell I.ok.kind hk hc hcell fin) hd
  .exact wpAny_Name (wpAny_loadName_free I.ok.kind hk hc hcell fin hcd) hd
theorem aC{i j pos}:PE X (.Constant (.int i) j pos) (tC (.int i)):=fun _ _ _ H _ I h=>wpAny_Constant_int ⟨.int i,H,I.tok _,⟨_,rfl⟩,h⟩
theorem pJ{b j pos}:PE X (.Constant (.bool b) j pos) (tC (.bl b)):=fun _ _ _ H _ I h=>Constant_bool ⟨.bl b,H,I,rfl,h⟩
theorem mX{j pos}:PE X (.Constant .none j pos) (tC .non):=fun _ _ _ H _ I h=>Constant_none ⟨.non,H,I,rfl,h⟩
theorem eN{x j pos}:PE X (.Constant (.str x) j pos) (tC (.str x)):=fun _ _ _ H _ I h=>Calls.Constant_str ⟨.str x,H,I.tok _,⟨_,rfl⟩,h⟩
def Gl(X:Cx) (x:Str):Prop:=X.env.kindOf x=some .globalImplicit
theorem jT{E:Value->Shared->Prop}{ae:List (Addr×Obj)}{s:Shared}{σ:St}{H:Hp}{x:Str}{u:Value}{pos:Pos}{Q:Value->Shared->Prop}(I:Inv X ae σ H s) (hg:Gl X x) (hm:X.mg x=some u) (h:Q u s)
  (hd:(x == ("__debug__" : Str))=false:=by decide):wpAny (model X.prog X.w) X.A (eval (.Name x pos) X.env) Q E s :=
 Calls.Name_function_global I.ok.kind hg (Calls.loadGlobal_global (by rw[I.ok.glob];exact I.mod.glob.keeps I.bk) hm h) hd
theorem uf{E:Value->Shared->Prop}{ae:List (Addr×Obj)}{s:Shared}{σ:St}{H:Hp}{x:Str}{u:Value}{pos:Pos}{Q:Value->Shared->Prop}(I:Inv X ae σ H s) (hg:Gl X x) (hm:X.mg x=none) (hv:bootBuiltins x=some u) (h:Q u s)
  (hn:x ≠ "__name__" := by decide) (hd:(x == ("__debug__" : Str))=false:=by decide):wpAny (model X.prog X.w) X.A (eval (.Name x pos) X.env) Q E s:=by
 obtain⟨mb,h1,h2⟩:=I.mod.blt;exact Calls.Name_function_global I.ok.kind hg (Calls.loadGlobal_builtin (by rw[I.ok.glob];exact I.mod.glob.keeps I.bk) hm (by rw[I.ok.blt];exact h1.keeps I.bk) ((h2 x hn).trans hv) h) hd
theorem lH{x:Str}{v:V}{u:Value}{pos:Pos}(hg:Gl X x) (hm:X.mg x=some u) (r:bO v u) (hd:(x == ("__debug__" : Str))=false:=by decide):PE X (.Name x pos) (tC v) :=
 fun _ _ _ H _ I h=>jT I hg hm ⟨v,H,I,r,h⟩ hd
theorem gB{x:Str}{v:V}{u:Value}{pos:Pos}(hg:Gl X x) (hm:X.mg x=none) (hv:bootBuiltins x=some u) (r:bO v u) (hn:x ≠ "__name__" := by decide) (hd:(x == ("__debug__" : Str))=false:=by decide):PE X (.Name x pos) (tC v) :=
 fun _ _ _ H _ I h=>uf I hg hm hv ⟨v,H,I,r,h⟩ hn hd
variable {a b:Expr}{ta tb:TE}{pos:Pos}
def PC(X:Cx) (op:CmpOp) (a b:Expr) (t:TE):Prop :=
 ∀(ae:List (Addr×Obj)) (s:Shared) (σ:St) (H:Hp) (Q:VK),Inv X ae σ H s->t σ H Q ->
  wpAny (model X.prog X.w) X.A (eval a X.env) (fun v s₁=>wpAny (model X.prog X.w) X.A (eval b X.env) (fun u s₂=>wpAny (model X.prog X.w) X.A (compareOp op v u) (EP X ae σ Q) X.xe s₂) X.xe s₁) X.xe s
noncomputable def tB(t:TE):TT:=fun σ H Q=>t σ H fun x H1=>∃c,x = .bl c/\Q c H1
theorem PK{op:CmpOp}{t:TE}(h:PC X op a b t) (h1:behindInMarks op b=false:=by first|exact nobehind _ (by decide) (by decide)|rfl):PT X (.Compare a [op] [b] pos) (tB t):=by
 intro ae s σ H Q I hw;refine wpAny_isTrue_Compare1 (dB (h ae s σ H _ I hw) fun v s1 h1=>dB h1 fun u s2 h2=>dB h2 fun c s3 ⟨x,H1,I1,r1,q1⟩=>?_) h1
 obtain⟨d,rfl,q⟩:=q1;cases r1;exact wpAny_truthy_bool ⟨H1,I1,q⟩
theorem fS{e:Expr}{t:TE}(h:PE X e t) (he:∀whole,isTrue e X.env whole=(do let v ←whole;standAt e.pos;holding [v] (truthy v)):=by intro _;rfl):PT X e (tB t):=by
 intro ae s σ H Q I hw;refine isTrue_plain (dB (h ae s σ H _ I hw) fun v s1 ⟨x,H1,I1,r1,q1⟩=>?_) (he _)
 obtain⟨d,rfl,q⟩:=q1;cases r1;exact wpAny_truthy_bool ⟨H1,I1,q⟩
variable {tA tB':TT}{rest:List Expr}
noncomputable def Rg(t u:TT):TT:=fun σ H Q=>t σ H fun c H1=>if c=true then u σ H1 Q else Q false H1
noncomputable def UB(t u:TT):TT:=fun σ H Q=>t σ H fun c H1=>if c=true then Q true H1 else u σ H1 Q
def Qd(t:TT):TT:=fun σ H Q=>t σ H fun c H1=>Q (!c) H1
theorem Cp(ha:PT X a tA):PW X (.BoolOp .And [a] pos) tA:=by
 intro wh ae s σ H Q I h;refine isTrue_and (dB (ha ae s σ H Q I h) fun c s1 e=>?_)
 cases c with
 |true=>exact isTrue_and_nil e
 |false=>exact e
theorem yu(ha:PT X a tA):PW X (.BoolOp .Or [a] pos) tA:=by
 intro wh ae s σ H Q I h;refine isTrue_or (dB (ha ae s σ H Q I h) fun c s1 e=>?_)
 cases c with
 |false=>exact isTrue_or_nil e
 |true=>exact e
theorem HC(ha:PT X a tA) (hb:PW X (.BoolOp .And (b::rest) pos) tB'):PW X (.BoolOp .And (a::b::rest) pos) (Rg tA tB'):=by
 intro wh ae s σ H Q I h;refine isTrue_and (dB (ha ae s σ H _ I h) fun c s1 ⟨H1,I1,q1⟩=>?_)
 cases c with
 |true=>exact hb wh ae s1 σ H1 Q I1 q1
 |false=>exact⟨H1,I1,q1⟩
theorem CF(ha:PT X a tA) (hb:PW X (.BoolOp .Or (b::rest) pos) tB'):PW X (.BoolOp .Or (a::b::rest) pos) (UB tA tB'):=by
 intro wh ae s σ H Q I h;refine isTrue_or (dB (ha ae s σ H _ I h) fun c s1 ⟨H1,I1,q1⟩=>?_)
 cases c with
 |true=>exact⟨H1,I1,q1⟩
 |false=>exact hb wh ae s1 σ H1 Q I1 q1
theorem jw(ha:PT X a tA):PT X (.UnaryOp .Not a pos) (Qd tA):=by
 intro ae s σ H Q I h;exact isTrue_not (ha ae s σ H (fun c H1=>Q (!c) H1) I h)
noncomputable def M7(ta tb:TE):TE:=fun σ H Q=>ta σ H fun x H1=>∃c,x = .bl c/\if c=true then tb σ H1 Q else Q (.bl false) H1
noncomputable def Mn(ta:TE):TE:=fun σ H Q=>ta σ H fun x H1=>∃c,x = .bl c/\Q (.bl (!c)) H1
theorem BL{op} {t:TE}(h:PE X a t):PE X (.BoolOp op [a] pos) t:=fun ae s σ H Q I hw=>BoolOp_one (h ae s σ H Q I hw)
theorem xD(ha:PE X a ta) (hb:PE X (.BoolOp .And (b::rest) pos) tb):PE X (.BoolOp .And (a::b::rest) pos) (M7 ta tb):=by
 intro ae s σ H Q I h;refine BoolOp_and (dB (ha ae s σ H _ I h) fun v s1 ⟨x,H1,I1,r1,q1⟩=>?_)
 obtain⟨c,rfl,q1⟩:=q1;cases r1;refine wpAny_truthy_bool ?_;cases c with
 |true=>exact hb ae s1 σ H1 Q I1 q1
 |false=>exact⟨.bl false,H1,I1,rfl,q1⟩
theorem Om(ha:PE X a ta):PE X (.UnaryOp .Not a pos) (Mn ta):=by
 intro ae s σ H Q I h;refine UnaryOp_ (dB (ha ae s σ H _ I h) fun v s1 ⟨x,H1,I1,r1,q1⟩=>?_)
 obtain⟨c,rfl,q1⟩:=q1;cases r1;exact not_of (wpAny_truthy_bool ⟨.bl (!c),H1,I1,rfl,q1⟩)
end
def dJ(K:W.Frag) (H:Hp) (a:Addr) (xs:List V):Prop :=
 Rd H a (.lst xs) ∨
  ∃(o:Obj) (its:Array Value) (n:Nat),K.lookup a=some o/\o.cls = .type "list" /\ o.dict=none/\o.data = .seq its n/\its.size<=sizeLine/\bq xs its.toList
def vH(K:W.Frag) (H:Hp) (a:Addr) (xs:List V):Prop :=
 Rd H a (.tup xs) ∨
  ∃(o:Obj) (its:Array Value) (n:Nat),K.lookup a=some o/\o.cls = .type "tuple" /\ o.data = .seq its n/\its.size<=sizeLine/\bq xs its.toList
noncomputable def Tg:Value->Option V
 | .none=>some .non
 | .bool b=>some (.bl b)
 | .int i _=>some (.int i)
 | .str x _=>some (.str x)
 | .bytes b _=>some (.byt b)
 | .float b _=>some (.flt b)
 | .ref a=>some (.ref a)
 | .type n=>some (.ty n)
 |_=>none
theorem bO.abs{x:V}{u:Value}(r:bO x u):Tg u=some x:=by
 cases x with
 |non=>cases r;rfl
 |bl _=>cases r;rfl
 |int _=>obtain⟨t,rfl⟩:=r;rfl
 |str _=>obtain⟨t,rfl⟩:=r;rfl
 |byt _=>obtain⟨t,rfl⟩:=r;rfl
 |flt _=>obtain⟨t,rfl⟩:=r;rfl
 |ref _=>cases r;rfl
 |ty _=>cases r;rfl
theorem bO.inj{x y:V}{u:Value}(r:bO x u) (q:bO y u):x=y:=V2.inj (r.abs.symm.trans q.abs)
theorem bq.inj:∀{xs ys:List V}{us:List Value},bq xs us->bq ys us->xs=ys
 |_,_,_,.nil,.nil=>rfl
 |_,_,_,.cons r t,.cons r' t'=>by rw[r.inj r',bq.inj t t']
section
variable {X:Cx}{ae:List (Addr×Obj)}{σ:St}{H:Hp}{s:Shared}{a:Addr}{xs ys:List V}
theorem dJ.of{K:W.Frag}(h:H a=some (.lst xs)):dJ K H a xs:=.inl (.inl h)
theorem vH.of{K:W.Frag}(h:H a=some (.tup xs)):vH K H a xs:=.inl (.inl h)
theorem Inv.list(I:Inv X ae σ H s) (h:dJ X.K H a xs):∃its:List Value,bq xs its/\PlainL s.heap a its.toArray/\xs.length<=sizeLine:=by
 rcases h with h|⟨o,its,n,hk,hc,hd,hs,hz,r⟩
 .obtain ⟨z,its,n,r,e⟩:=h.ok I.hok;exact⟨its,r,⟨_,n,e,rfl,rfl,rfl⟩,z⟩
 .refine ⟨its.toList,r,⟨o,n,I.kIn a o hk,hc,hd,by simpa using hs⟩,?_⟩
  have e:=r.length;simp only[VD]at e;lia
theorem Inv.tuple(I:Inv X ae σ H s) (h:vH X.K H a xs):∃its:List Value,bq xs its/\IsTup s.heap a its.toArray/\xs.length<=sizeLine:=by
 rcases h with h|⟨o,its,n,hk,hc,hs,hz,r⟩
 .obtain ⟨z,its,r,p⟩:=h.ok I.hok;exact⟨its,r,p,z⟩
 .refine ⟨its.toList,r,⟨o,I.kIn a o hk,hc,n,by simpa using hs⟩,?_⟩
  have e:=r.length;simp only[VD]at e;lia
theorem Inv.list_inj(I:Inv X ae σ H s) (h:dJ X.K H a xs) (h':dJ X.K H a ys):xs=ys:=by
 obtain⟨its,r,⟨o,n,e,_,_,d⟩,_⟩:=I.list h;obtain⟨its',r',⟨o',n',e',_,_,d'⟩,_⟩:=I.list h';rw[e]at e';cases e';rw[d]at d';injection d' with d1 _
 have:its=its':=by simpa using congrArg Array.toList d1
 subst this;exact r.inj r'
end
noncomputable abbrev Cx.wish(X:Cx) (E:Value->Shared->Prop):Cx:={ X with xe:=E }
abbrev Cx.nox(X:Cx):Cx:=X.wish fun _ _=>False
theorem Cx.Ok.wish{X:Cx}(ok:X.Ok) (E:Value->Shared->Prop):(X.wish E).Ok :=
 ⟨ok.mod,ok.kind,ok.glob,ok.blt,ok.above,ok.inj,ok.has,ok.cab,ok.hd,ok.frames,ok.stk,ok.exf,ok.bs,ok.bsz,ok.noex,ok.exfs,ok.funs,ok.frf⟩
theorem Cx.Ok.unwish{X:Cx}{E:Value->Shared->Prop}(ok:(X.wish E).Ok):X.Ok :=
 ⟨ok.mod,ok.kind,ok.glob,ok.blt,ok.above,ok.inj,ok.has,ok.cab,ok.hd,ok.frames,ok.stk,ok.exf,ok.bs,ok.bsz,ok.noex,ok.exfs,ok.funs,ok.frf⟩
section
variable {X:Cx}{ae:List (Addr×Obj)}{σ:St}{H:Hp}{s:Shared}{E:Value->Shared->Prop}
theorem Inv.wish(I:Inv X ae σ H s) (E:Value->Shared->Prop):Inv (X.wish E) ae σ H s:=⟨I.ok.wish E,I.os,I.bare,I.base,I.loc,I.cell,I.free,I.freeC,I.pin,I.hok,I.len⟩
theorem Inv.unwish(I:Inv (X.wish E) ae σ H s):Inv X ae σ H s:=⟨I.ok.unwish,I.os,I.bare,I.base,I.loc,I.cell,I.free,I.freeC,I.pin,I.hok,I.len⟩
theorem SP.unwish{D:ja}{f:Flow}{s':Shared}(h:SP (X.wish E) ae D f s'):SP X ae D f s':=by
 cases f with
 |next=>obtain⟨σ',H',I,q⟩:=h;exact⟨σ',H',I.unwish,q⟩
 |brk=>obtain⟨σ',H',I,q⟩:=h;exact⟨σ',H',I.unwish,q⟩
 |cont=>obtain⟨σ',H',I,q⟩:=h;exact⟨σ',H',I.unwish,q⟩
 |ret u=>obtain⟨v,σ',H',I,r,q⟩:=h;exact⟨v,σ',H',I.unwish,r,q⟩
theorem Au.nox{st:List Stmt}{t:TS}(h:Au X.nox st t):Au X st t:=fun ae s σ H D I hw =>
 wpAny_mono (h ae s σ H D (I.wish _) hw) (fun _ _ q=>q.unwish) fun _ _ z=>False.elim z
end
section
variable {X:Cx}{st:Stmt}{rest:List Stmt}{t u:TS}{e:Expr}{te:TE}{pos:Pos}
def MW:TS:=fun D σ H=>D.nx σ H
def BJ(t u:TS):TS:=fun D σ H=>t { D with nx:=u D } σ H
theorem bx:Au X [] MW:=fun _ _ σ H _ I h=>wpAny_execs_nil ⟨σ,H,I,h⟩
theorem ag(h1:PS X st t) (h2:Au X rest u):Au X (st::rest) (BJ t u):=by
 intro ae s σ H D I h;refine wpAny_execs_cons (dB (h1 ae s σ H { D with nx:=u D } I h) fun f s1 q=>?_)
 cases f with
 |next =>
  obtain⟨σ',H',I',q⟩:=q;exact h2 ae s1 σ' H' D I' q
 |ret v=>exact q
 |brk=>exact q
 |cont=>exact q
theorem ar(h1:PS X st t):Au X [st] t:=by
 intro ae s σ H D I h;refine wpAny_execs_cons (dB (h1 ae s σ H D I h) fun f s1 q=>?_)
 cases f with
 |next=>exact wpAny_execs_nil q
 |ret v=>exact q
 |brk=>exact q
 |cont=>exact q
theorem Inv.quiet{ae:List (Addr×Obj)}{σ:St}{H:Hp}{s:Shared}(I:Inv X ae σ H s):interactive X.env=false:=by simp[interactive,I.ok.kind]
def mh(te:TE):TS:=fun D σ H=>te σ H fun _ H1=>D.nx σ H1
theorem cu(he:PE X e te) (hs:swapsWith e none pos.line X.env=pure false:=by rfl):PS X (.Expr e pos) (mh te):=by
 intro ae s σ H D I h;exact wpAny_Expr_any (dB (he ae s σ H _ I h) fun v s1 ⟨x,H1,I1,r1,q1⟩=>⟨σ,H1,I1,q1⟩) I.quiet hs
def Gr(te:TE):TS:=fun D σ H=>te σ H D.rt
theorem aW(he:PE X e te):PS X (.Return (some e) pos) (Gr te):=by
 intro ae s σ H D I h;exact wpAny_Return_some (dB (he ae s σ H _ I h) fun v s1 ⟨x,H1,I1,r1,q1⟩=>⟨x,σ,H1,I1,r1,q1⟩)
noncomputable def HV(c:TT) (t u:TS):TS:=fun D σ H=>c σ H fun b H1=>if b=true then t D σ H1 else u D σ H1
theorem cA{c:Expr}{a b:List Stmt}{tc:TT}(hc:PT X c tc) (ha:Au X a t) (hb:Au X b u):PS X (.If c a b pos) (HV tc t u):=by
 intro ae s σ H D I h;refine wpAny_If (dB (hc ae s σ H _ I h) fun d s1 ⟨H1,I1,q1⟩=>?_)
 cases d with
 |true=>exact ha ae s1 σ H1 D I1 q1
 |false=>exact hb ae s1 σ H1 D I1 q1
def FV:TS:=fun _ _ _=>False
theorem HU:PS X st FV:=fun _ _ _ _ _ _ h=>h.elim
end
abbrev TG:=V->St->Hp->(St->Hp->Prop)->Prop
abbrev Nw:=List V->St->Hp->(St->Hp->Prop)->Prop
def PG(X:Cx) (target:Expr) (t:TG):Prop :=
 ∀(ae:List (Addr×Obj)) (s:Shared) (σ:St) (H:Hp) (v:V) (u:Value) (Q:St->Hp->Prop),Inv X ae σ H s->bO v u->t v σ H Q ->
  wpAny (model X.prog X.w) X.A (assign target X.env u) (fun _ s'=>∃σ' H',Inv X ae σ' H' s'/\Q σ' H') X.xe s
def Sj(X:Cx) (ts:List Expr) (t:Nw):Prop :=
 ∀(ae:List (Addr×Obj)) (s:Shared) (σ:St) (H:Hp) (vs:List V) (us:List Value) (Q:St->Hp->Prop),Inv X ae σ H s->bq vs us->t vs σ H Q ->
  wpAny (model X.prog X.w) X.A (assignInOrder ((assignEach ts X.env).map (·.2)) us) (fun _ s'=>∃σ' H',Inv X ae σ' H' s'/\Q σ' H') X.xe s
section
variable {X:Cx}{pos:Pos}
def gI(i:Nat):TG:=fun v σ H Q=>Q (σ.set i (some v)) H
theorem ft{i:Nat}{x:Str}(hN:X.N.Nodup) (hi:X.N[i]?=some x) (hx:P8 X.env.scope x) (hf:X.fn x=true∨X.env.scope.names.lookup x=some .local:=by first|exact .inl rfl|exact .inr rfl|assumption):PG X (.Name x pos) (gI i):=by
 intro ae s σ H v u Q I r h;exact wpAny_assign_Name (pX I hN hi hx r (fun s' I'=>⟨_,H,I',h⟩) hf)
def Lq:Nw:=fun vs σ H Q=>vs=[]/\Q σ H
noncomputable def um(t:TG) (u:Nw):Nw:=fun vs σ H Q=>∃v r,vs=v::r/\t v σ H fun σ' H'=>u r σ' H' Q
theorem KN:Sj X [] Lq:=by
 intro ae s σ H vs us Q I r h;obtain⟨e,h⟩:=h;subst e;cases r;exact assignInOrder_nil ⟨σ,H,I,h⟩
theorem za{e:Expr}{es:List Expr}{t:TG}{u:Nw}(h1:PG X e t) (h2:Sj X es u)
  (hs:(assignEach (e::es) X.env).map (·.2)=assign e X.env::(assignEach es X.env).map (·.2):=by rfl):Sj X (e::es) (um t u):=by
 intro ae s σ H vs us Q I r h;obtain⟨v,vr,e1,h⟩:=h;subst e1;cases r with
 |cons r rr =>
  rw[hs];refine assignInOrder_cons (dB (h1 ae s σ H _ _ _ I r h) fun _ s1 ⟨σ1,H1,I1,q1⟩=>?_)
  exact h2 ae s1 σ1 H1 _ _ Q I1 rr q1
noncomputable def J9(K:W.Frag) (n:Nat) (t:Nw):TG:=fun v σ H Q=>∃a xs,v = .ref a/\vH K H a xs/\xs.length=n/\t xs σ H Q
theorem NX{es:List Expr}{k:Nat}{t:Nw}{n:Nat}(hc:X.calm=true) (h:Sj X es t)
  (hn:(assignEach es X.env).length=n:=by rfl) (hst:(assignEach es X.env).findIdx? (·.1)=none:=by rfl):PG X (.Tuple es k pos) (J9 X.K n t):=by
 intro ae s σ H v u Q I r hw;obtain⟨a,xs,e1,hq,hl,hw⟩:=hw;subst e1;cases r;obtain⟨its,rv,ht,hz⟩:=I.tuple hq;refine assign_Tuple_tuple (I.ok.hd hc) ht (by simp[hn,←hl,rv.length]) hst fun h' hx=>?_
 have I1:Inv X ae σ H { s with heap:=h' }:=I.kept (t':=s.toks) fun b o e=>hx b o (VO (Vy e)) e
 exact h ae _ σ H xs _ Q I1 (by simpa using rv) hw
def IZ(te:TE) (g:TG):TS:=fun D σ H=>te σ H fun x H1=>g x σ H1 D.nx
theorem aQ{i:Nat}{x:Str}{e:Expr}{te:TE}{pos':Pos}(hN:X.N.Nodup) (hi:X.N[i]?=some x) (hx:P8 X.env.scope x) (he:PE X e te) (hs:swapsWith e (some (.Name x pos')) pos.line X.env=pure false:=by rfl) (hf:X.fn x=true∨X.env.scope.names.lookup x=some .local:=by first|exact .inl rfl|exact .inr rfl|assumption) :
  PS X (.Assign [.Name x pos'] e pos) (IZ te (gI i)):=by
 intro ae s σ H D I h;refine wpAny_Assign_Name (dB (he ae s σ H _ I h) fun v s1 ⟨y,H1,I1,r1,q1⟩=>?_) hs
 exact pX I1 hN hi hx r1 (fun s2 I2=>⟨_,H1,I2,q1⟩) hf
end
section
variable {X:Cx}{pos:Pos}
def FC(c:TT) (tb:TS):TS:=fun D σ H=>∃W:Nat->St->Hp->Prop,(∃m,W m σ H)/\∀m σ H,W m σ H ->
 c σ H fun b H1=>if b=true then ∃N:St->Hp->Prop,(∀σ' H',N σ' H'->∃m',m'<m/\W m' σ' H')/\tb { D with nx:=N,ct:=N,bk:=D.nx } σ H1 else D.nx σ H1
theorem GY{c:Expr}{body:List Stmt}{tc:TT}{tb:TS}(hp:PassesOwn (model X.prog X.w) X.A X.env X.xe) (hc:PT X c tc) (hb:Au X body tb):PS X (.While c body [] pos) (FC tc tb):=by
 intro ae s σ H D I h;obtain⟨W,⟨m0,w0⟩,turn⟩:=h;refine wpAny_While (codeAny_whileLoop (fun n s'=>∃σ' H',Inv X ae σ' H' s'/\W n σ' H') ?_ m0 ⟨σ,H,I,w0⟩)
 rintro n s1 ⟨σ1,H1,I1,w1⟩;refine wpAny_passesOwn hp (dB (hc ae s1 σ1 H1 _ I1 (turn n σ1 H1 w1)) fun b s2 ⟨H2,I2,q2⟩=>?_)
 cases b with
 |true =>
  obtain⟨N,hN,q2⟩:=q2;rw[if_pos rfl];refine wpAny_passesOwn hp (dB (hb ae s2 σ1 H2 _ I2 q2) fun f s3 q3=>?_)
  cases f with
  |next =>
   obtain⟨σ3,H3,I3,n3⟩:=q3;obtain⟨m',hm,w3⟩:=hN σ3 H3 n3;exact⟨m',hm,σ3,H3,I3,w3⟩
  |cont =>
   obtain⟨σ3,H3,I3,n3⟩:=q3;obtain⟨m',hm,w3⟩:=hN σ3 H3 n3;exact⟨m',hm,σ3,H3,I3,w3⟩
  |brk=>exact q3
  |ret v=>exact q3
 |false =>
  rw[if_neg VF];exact wpAny_execs_nil ⟨σ1,H2,I2,q2⟩
end
structure It where
 go:Nat->Hp->Prop
 yld:Nat->Hp->V->Hp->Prop
 stop:Nat->Hp->Prop
def sO(X:Cx) (ae:List (Addr×Obj)) (H:Hp) (b:Addr):Prop :=
 H b=none/\b≠X.env.locals/\b∉X.fs/\(b∈X.ex∨X.s₀.heap.objs.size<=b)/\(∀x c,X.env.cells.lookup x=some c->c≠b)/\∀p∈X.pn++ae,p.1≠b
theorem Inv.fpOk{X:Cx}{ae:List (Addr×Obj)}{σ:St}{H H':Hp}{s:Shared}{b:Addr}(I:Inv X ae σ H s) (hb:s.heap.objs.size<=b) (hn:H' b=none):sO X ae H' b:=by
 refine⟨hn,XX (VN I.lt hb),I.nofs hb,.inr (Wi I.sz hb),fun x c e z=>?_,fun p hp z=>?_⟩
 .obtain ⟨v,q⟩:=I.cell x c e;exact absurd (VN q.lt (by rw[z];exact hb)) (WW _)
 .exact absurd (VN (Vy (I.pin p hp).1) (by rw[z];exact hb)) (WW _)
structure Fu (P:Program) (w:World) (K:W.Frag) (tg:Expr) (J:It) (fp:List Addr) (it:Addr) (tn:Nat->Heap->Prop):Prop where
 mem:it∈fp
 obj:∀i h,tn i h->∀b∈fp,∃o,h.get? b=some o/\∀v,o.data ≠ .cell v
 keep:∀i h h',tn i h->(∀b∈fp,∀o,h.get? b=some o->h'.get? b=some o)->tn i h'
 item:∀(X:Cx),X.prog=P->X.w=w->X.K=K->X.calm=true->∀(i:Nat) (ae:List (Addr×Obj)) (s:Shared) (σ:St) (H:Hp) (E:Value->Shared->Prop),Inv X ae σ H s->(∀b∈fp,sO X ae H b)->tn i s.heap->J.go i H ->
  wpAny (model P w) X.A (pyNext (.ref it)) (fun r s1=>∃u,r=some u /\
   wpAny (model P w) X.A (letOwnedTupleGo tg (.ref it) u) (fun _ s2=>∃x H',Inv X ae σ H' s2/\bO x u/\J.yld i H x H'/\tn (i+1) s2.heap/\∀b∈fp,H' b=none) E s1) E s
 done:∀(X:Cx),X.prog=P->X.w=w->X.K=K->X.calm=true->∀(i:Nat) (ae:List (Addr×Obj)) (s:Shared) (σ:St) (H:Hp) (E:Value->Shared->Prop),Inv X ae σ H s->(∀b∈fp,sO X ae H b)->tn i s.heap->J.stop i H ->
  wpAny (model P w) X.A (pyNext (.ref it)) (fun r s1=>r=none/\Inv X ae σ H s1) E s
 self:∀(A:Around) (i:Nat) (s:Shared) (Q:Value->Shared->Prop) (E:Value->Shared->Prop),tn i s.heap->Q (.ref it) s->wpAny (model P w) A (pyIter (.ref it)) Q E s
abbrev TI:=St->Hp->(It->Hp->Prop)->Prop
def Uc(X:Cx) (ae:List (Addr×Obj)) (σ:St) (tg:Expr) (R:It->Hp->Prop) (itv:Value) (s2:Shared):Prop :=
 ∃(it:Addr) (fp:List Addr) (tn:Nat->Heap->Prop) (J:It) (H':Hp),itv = .ref it/\Inv X ae σ H' s2/\Fu X.prog X.w X.K tg J fp it tn/\tn 0 s2.heap/\(∀b∈fp,sO X ae H' b)/\R J H'
def PI(X:Cx) (tg iu:Expr) (wi:TI):Prop :=
 ∀(ae:List (Addr×Obj)) (s:Shared) (σ:St) (H:Hp) (R:It->Hp->Prop),Inv X ae σ H s->wi σ H R ->
  wpAny (model X.prog X.w) X.A (eval iu X.env) (fun v s1=>wpAny (model X.prog X.w) X.A (pyIter v) (Uc X ae σ tg R) X.xe s1) X.xe s
theorem GM{M:Model}{A:Around}{E:Value->Shared->Prop}{s:Shared}{tg:Expr}{it:Addr}{u:Value}{o:Obj}{n:String}{vs:Array Value}{Q:Unit->Shared->Prop}(ho:s.heap.get? it=some o) (hc:o.cls = .type n) (hd:o.data = .fields vs)
    (hn:["enumerate", "zip", "dict_itemiterator", "dict_reverseitemiterator", "odict_iterator", "itertools.zip_longest", "itertools.pairwise"].contains n=false) (hQ:Q () s):wpAny M A (letOwnedTupleGo tg (.ref it) u) Q E s:=by
  unfold letOwnedTupleGo;cases tg <;> first
    |exact wpAny_pure hQ
    | (cases u <;> first
        |exact wpAny_pure hQ
        | (refine wpAny_bind (wpAny_load ho ?_)
           rw[hc,hd];show wpAny M A (if (["enumerate", "zip", "dict_itemiterator", "dict_reverseitemiterator", "odict_iterator", "itertools.zip_longest", "itertools.pairwise"].contains n && vs[0]? == some (rawInt _))=true then _ else _) Q E s
           rw[if_neg (by intro h;rw[hn,YU]at h;cases h)]
           exact wpAny_pure hQ))
noncomputable def Q0(K:W.Frag) (a:Addr):It :=
 ⟨fun i H=>∃xs x,dJ K H a xs/\xs[i]?=some x,fun i H x H'=>H'=H/\∀xs,dJ K H a xs->xs[i]?=some x,fun i H=>∃xs,dJ K H a xs/\xs.length<=i⟩
noncomputable def K0(lo:Int) (n:Nat):It:=⟨fun i _=>i<n,fun i H x H'=>H'=H/\x = .int (lo+i),fun i _=>n<=i⟩
theorem EX{P:Program}{w:World}{K:W.Frag}{tg:Expr}(a it:Addr):Fu P w K tg (Q0 K a) [it] it (fun i h=>h.IsListIter it a i) where
 mem:=by simp
 obj:=fun i h st b hb=>by
  have e:b=it:=by simpa using hb
  subst e;obtain⟨o,e,c,d⟩:=st;exact⟨o,e,fun v z=>by rw[d]at z;cases z⟩
 keep:=fun i h h' st k=>st.at fun o e=>k it (by simp) o e
 item:=by
  intro X hP hw hK hc i ae s σ H E I hf st hg;subst hP hw hK;obtain⟨xs,x,hq,hx⟩:=hg;obtain⟨its,rv,p,hz⟩:=I.list hq;obtain⟨u,hu,ru⟩:=rv.get hx;obtain⟨f0,f1,f2,f3,f4,f5⟩:=hf it (by simp)
  refine wpAny_pyNext_list_item st p.isList (x:=u) (by simpa using hu) fun h' st' sb=>?_
  have I1:Inv X ae σ H { s with heap:=h' }:=I.turned (t':=s.toks) (fun b o hb e=>(sb.2 b hb).trans e) f0 f1 f3 f4 f5
  obtain⟨o,e,c,d⟩:=id st';exact⟨u,rfl,GM (s:={ s with heap:=h' }) e c d (by decide) ⟨x,H,I1,ru,⟨rfl,fun ys hy=>by rw[I.list_inj hy hq];exact hx⟩,st',fun b hb=>(hf b hb).1⟩⟩
 done:=by
  intro X hP hw hK hc i ae s σ H E I hf st hg;subst hP hw hK;obtain⟨xs,hq,hx⟩:=hg;obtain⟨its,rv,p,hz⟩:=I.list hq;obtain⟨f0,f1,f2,f3,f4,f5⟩:=hf it (by simp)
  have hl:=rv.length;exact wpAny_pyNext_list_end (I.ok.hd hc) st p.isList (by simp;lia) fun h' eb=>⟨rfl,I.turned (t':=s.toks) (fun b o hb e=>eb b o hb e) f0 f1 f3 f4 f5⟩
 self:=fun _ _ _ _ _ st h=>wpAny_pyIter_listiter st h
theorem Bc{P:Program}{w:World}{K:W.Frag}{tg:Expr}(it:Addr) (lo:Int) (n:Nat):Fu P w K tg (K0 lo n) [it] it (fun i h=>IsRangeIter h it (lo+(i:Nat)*1) ((n:Int)-(i:Nat)) 1) where
 mem:=by simp
 obj:=fun i h st b hb=>by
  have e:b=it:=by simpa using hb
  subst e;exact⟨_,st,fun v z=>by
   have z':Data.fields _=Data.cell v:=z;cases z'⟩
 keep:=fun i h h' st k=>k it (by simp) _ st
 item:=by
  intro X hP hw hK hc i ae s σ H E I hf st hg;subst hP hw hK;obtain⟨f0,f1,f2,f3,f4,f5⟩:=hf it (by simp)
  have W:=Walks.range (prog:=X.prog) (w:=X.w) (I.ok.hd hc) it lo 1 n;refine W.item i s _ _ hg st fun v h' tk hv st' kk=>?_
  obtain⟨t,rfl⟩:=hv;have I1:Inv X ae σ H { s with heap:=h',toks:=tk }:=I.turned (fun b o hb e=>kk b o (by simpa using hb) e) f0 f1 f3 f4 f5
  refine⟨_,rfl,GM (s:={ s with heap:=h',toks:=tk }) (n := "range_iterator") st' rfl rfl (by decide) ⟨.int (lo+i),H,I1,⟨t,?_⟩,⟨rfl,rfl⟩,st',fun b hb=>(hf b hb).1⟩⟩
  rw[Int.mul_one]
 done:=by
  intro X hP hw hK hc i ae s σ H E I hf st hg;subst hP hw hK;obtain⟨f0,f1,f2,f3,f4,f5⟩:=hf it (by simp)
  exact wpAny_pyNext_range_end (I.ok.hd hc) st (by have:n<=i:=hg;lia) fun h' eb=>⟨rfl,I.turned (t':=s.toks) (fun b o hb e=>eb b o hb e) f0 f1 f3 f4 f5⟩
 self:=fun _ _ _ _ _ st h=>wpAny_pyIter_rangeiter st h
section
variable {X:Cx}{tg:Expr}
def C0(K:W.Frag) (tl:TE):TI:=fun σ H R=>tl σ H fun x H1=>∃a,x = .ref a/\(∃xs,dJ K H1 a xs)/\R (Q0 K a) H1
theorem dc{l:Expr}{tl:TE}(hl:PE X l tl):PI X tg l (C0 X.K tl):=by
 intro ae s σ H R I h;refine dB (hl ae s σ H _ I h) fun v s1 ⟨x,H1,I1,r1,q1⟩=>?_
 obtain⟨a,e,⟨xs,hq⟩,q⟩:=q1;subst e;cases r1;obtain⟨its,rv,p,hz⟩:=I1.list hq;refine wpAny_pyIter_list p.isList ?_;refine⟨s1.heap.objs.size,[s1.heap.objs.size],_,_,H1,rfl,I1.kept (t':=s1.toks) fun b o e=>Vt _ e,EX a _,⟨_,Wa _ rfl,rfl,rfl⟩,fun b hb=>?_,q⟩
 have e:b=s1.heap.objs.size:=by simpa using hb
 subst e;exact I1.fpOk (Vu _) (I1.hok.fresh (Vu _))
theorem G6{ae:List (Addr×Obj)}{σ:St}{H:Hp}{s:Shared}{R:It->Hp->Prop}{E:Value->Shared->Prop}{lo hi:Int}{t u v:Tok}{tk:Nat}(I:Inv X ae σ H s) (h1:-(2 ^ 62)<=lo) (h2:lo<2 ^ 62) (h3:-(2 ^ 62)<=hi) (h4:hi<2 ^ 62)
  (q:R (K0 lo (hi-lo).toNat) H):wpAny (model X.prog X.w) X.A (pyIter (.ref s.heap.objs.size)) (Uc X ae σ tg R) E { s with heap:=s.heap.push { cls:=.type "range", data:=.fields #[.int lo t,.int hi u,.int 1 v] },toks:=tk }:=by
 refine wpAny_pyIter_range (IsRange.new ..) (small_one h1 h2 h3 h4) ?_;have I1:Inv X ae σ H { s with heap:=s.heap.push { cls:=.type "range", data:=.fields #[.int lo t,.int hi u,.int 1 v] },toks:=tk }:=I.kept fun b o e=>Vt _ e
 refine⟨(s.heap.push { cls:=.type "range", data:=.fields #[.int lo t,.int hi u,.int 1 v] }).objs.size,[(s.heap.push { cls:=.type "range", data:=.fields #[.int lo t,.int hi u,.int 1 v] }).objs.size],_,_,H,rfl,
  I1.kept (t':=tk) fun b o e=>Vt _ e,Bc _ lo (hi-lo).toNat,?_,fun b hb=>?_,q⟩
 .have e1:lo+((0:Nat):Int)*1=lo:=by simp
  have e2:(((hi-lo).toNat:Nat):Int)-((0:Nat):Int)=Builtin.Range.rangeSize lo hi 1:=by rw[rangeSize_one];split <;> lia
  show IsRangeIter _ _ (lo+((0:Nat):Int)*1) ((((hi-lo).toNat:Nat):Int)-((0:Nat):Int)) 1;rw[e1,e2];exact Wa _ rfl
 .have e:b=(s.heap.push { cls:=.type "range", data:=.fields #[.int lo t,.int hi u,.int 1 v] }).objs.size:=by simpa using hb
  subst e;exact I1.fpOk (Vu _) (I1.hok.fresh (Vu _))
def Gu(ta:TA):TI:=fun σ H R=>ta σ H fun vs H1=>∃j:Int,vs=[.int j]/\-(2 ^ 62)<=j/\j<2 ^ 62/\R (K0 0 j.toNat) H1
theorem qT{a:Expr}{ta:TA}{p pos:Pos}(hg:Gl X "range") (hm:X.mg "range" = none) (ha:PA X [a] ta) (hs:starEach [a] X.env=[(false,eval a X.env)]:=by rfl):PI X tg (.Call (.Name "range" p) [a] [] pos) (Gu ta):=by
 intro ae s σ H R I h;refine Call_ (uf I hg hm boot_range (Xy (dB (ha pos ae s σ H _ I h) fun us s1 ⟨vs,H1,I1,r1,q1⟩=>?_) hs rfl))
 obtain⟨j,e,q1,q2,q⟩:=q1;subst e;cases r1 with
 |cons r rr =>
  cases rr;obtain⟨t,rfl⟩:=r;exact call_range_1 (G6 I1 (by lia) (by lia) q1 q2 (by simpa using q))
def Ex(wi:TI) (g:TG) (tb:TS):TS:=fun D σ H=>wi σ H fun J H1=>∃W:Nat->Nat->St->Hp->Prop,(∃m,W 0 m σ H1)/\∀i m σ H,W i m σ H ->
 (J.stop i H/\D.nx σ H)∨(J.go i H/\∃N:St->Hp->Prop,(∀σ' H',N σ' H'->∃m',m'<m/\W (i+1) m' σ' H')/\∀x H',J.yld i H x H'->g x σ H' fun σ2 H2=>tb { D with nx:=N,ct:=N,bk:=D.nx } σ2 H2)
noncomputable def va(fp:List Addr) (h:Heap):List (Addr×Obj):=fp.filterMap fun b=>(h.get? b).map fun o=>(b,o)
theorem lQ{fp:List Addr}{h:Heap}{b:Addr}{o:Obj}(hb:b∈fp) (e:h.get? b=some o):(b,o)∈va fp h:=Zc.mpr ⟨b,hb,by rw[e];rfl⟩
theorem Ez{fp:List Addr}{h:Heap}{p:Addr×Obj}(hp:p∈va fp h):p.1∈fp/\h.get? p.1=some p.2:=by
 obtain⟨b,hb,e⟩:=Zc.mp hp;cases q:h.get? b with
 |none=>rw[q]at e;cases e
 |some o =>
  rw[q]at e;have e':(b,o)=p:=V2.inj e;subst e';exact⟨hb,q⟩
theorem Inv.pinned{ae:List (Addr×Obj)}{σ:St}{H:Hp}{s:Shared}{fp:List Addr}(I:Inv X ae σ H s) (hf:∀b∈fp,sO X ae H b) (ho:∀b∈fp,∃o,s.heap.get? b=some o/\∀v,o.data ≠ .cell v):Inv X (ae++va fp s.heap) σ H s :=
 I.pins_of fun p hp=>(mAq.mp hp).elim (fun z=>I.pin p (VH _ z)) fun z=>by
  obtain⟨hb,e⟩:=Ez z;obtain⟨f0,f1,f2,_⟩:=hf p.1 hb;obtain⟨o,e',d⟩:=ho p.1 hb;rw[e]at e';cases e';exact⟨e,f0,f1,f2,d⟩
theorem Inv.unpinned{ae pl:List (Addr×Obj)}{σ:St}{H:Hp}{s:Shared}(I:Inv X (ae++pl) σ H s):Inv X ae σ H s:=I.pins_of fun p hp=>I.pin p (VH _ (WL _ hp))
theorem kj{iu:Expr}{body:List Stmt}{wi:TI}{g:TG}{tb:TS}{pos:Pos}(hp:PassesOwn (model X.prog X.w) X.A X.env X.xe) (hc:X.calm=true) (hi:PI X tg iu wi) (hg:PG X tg g) (hb:Au X body tb)
  (hs:∀x,foldedSetIterable iu X.env x=pure x:=by intro _;rfl):PS X (.For tg iu body [] pos) (Ex wi g tb):=by
 intro ae s σ H D I h;refine wpAny_For (dB (hi ae s σ H _ I h) fun v s1 h1=>dB h1 fun itv s2 h2=>?_) hs
 obtain⟨it,fp,tn,J,H2,e,I2,T,st2,f2,W,⟨m0,w0⟩,turn⟩:=h2;subst e;have stat:∀{H':Hp},(∀b∈fp,H' b=none)->∀b∈fp,sO X ae H' b:=fun hn b hb=>⟨hn b hb,(f2 b hb).2⟩
 refine codeAny_forLoop_any (fun n s'=>∃i σ' H',Inv X ae σ' H' s'/\tn i s'.heap/\(∀b∈fp,H' b=none)/\W i n σ' H') ?_ m0 ⟨0,σ,H2,I2,st2,fun b hb=>(f2 b hb).1,w0⟩
 rintro n s3 ⟨i,σ3,H3,I3,st3,fr3,w3⟩;rcases turn i n σ3 H3 w3 with ⟨stop,qn⟩|⟨go,N,hN,step⟩
 .refine wpAny_passesOwn hp (dB (T.done X rfl rfl rfl hc i ae s3 σ3 H3 X.xe I3 (stat fr3) st3 stop) fun r s4 ⟨hr,I4⟩=>?_)
  subst hr;exact wpAny_execs_nil ⟨σ3,H3,I4,qn⟩
 .refine wpAny_passesOwn hp (dB (T.item X rfl rfl rfl hc i ae s3 σ3 H3 X.xe I3 (stat fr3) st3 go) fun r s4 ⟨u,hr,h4⟩=>?_)
  subst hr;refine wpAny_passesOwn hp (dB h4 fun _ s5 ⟨x,H5,I5,r5,y5,st5,fr5⟩=>?_)
  have I5':=I5.pinned (stat fr5) (T.obj _ _ st5);refine wpAny_passesOwn hp (dB (hg _ s5 σ3 H5 x u _ I5' r5 (step x H5 y5)) fun _ s6 ⟨σ6,H6,I6,q6⟩=>?_)
  refine wpAny_passesOwn hp (dB (hb _ s6 σ6 H6 _ I6 q6) fun f s7 q7=>?_)
  have again:∀{σ7:St}{H7:Hp},Inv X (ae++va fp s5.heap) σ7 H7 s7->N σ7 H7->∃m,m<n/\∃i σ' H',Inv X ae σ' H' s7/\tn i s7.heap/\(∀b∈fp,H' b=none)/\W i m σ' H':=fun {σ7 H7} I7 n7=>by
   obtain⟨m',hm,w7⟩:=hN σ7 H7 n7;refine⟨m',hm,i+1,σ7,H7,I7.unpinned,T.keep _ _ _ st5 fun b hb o e=>(I7.pin (b,o) (VH _ (VH _ (lQ hb e)))).1,fun b hb=>?_,w7⟩
   obtain⟨o,e,d⟩:=T.obj _ _ st5 b hb;exact(I7.pin (b,o) (VH _ (VH _ (lQ hb e)))).2.1
  cases f with
  |next=>obtain⟨σ7,H7,I7,n7⟩:=q7;exact again I7 n7
  |cont=>obtain⟨σ7,H7,I7,n7⟩:=q7;exact again I7 n7
  |brk=>obtain⟨σ7,H7,I7,q7⟩:=q7;exact⟨σ7,H7,I7.unpinned,q7⟩
  |ret v=>obtain⟨x7,σ7,H7,I7,r7,q7⟩:=q7;exact⟨x7,σ7,H7,I7.unpinned,r7,q7⟩
end
theorem zA{K:W.Frag}{a:Addr}{xs:List V}{g:TG}{tb:TS}{D:ja}{σ:St}{H:Hp}(Pv:Nat->St->Hp->Prop) (h0:Pv 0 σ H) (hl:∀i σ H,i<=xs.length->Pv i σ H->dJ K H a xs)
  (hs:∀i x σ H,xs[i]?=some x->Pv i σ H->g x σ H fun σ2 H2=>tb { D with nx:=Pv (i+1),ct:=Pv (i+1),bk:=D.nx } σ2 H2) (hd:∀σ H,Pv xs.length σ H->D.nx σ H) :
  ∃W:Nat->Nat->St->Hp->Prop,(∃m,W 0 m σ H)/\∀i m σ H,W i m σ H ->
   ((Q0 K a).stop i H/\D.nx σ H)∨((Q0 K a).go i H/\∃N:St->Hp->Prop,(∀σ' H',N σ' H'->∃m',m'<m/\W (i+1) m' σ' H')/\∀x H',(Q0 K a).yld i H x H'->g x σ H' fun σ2 H2=>tb { D with nx:=N,ct:=N,bk:=D.nx } σ2 H2):=by
 refine⟨fun i m σ H=>m=xs.length-i/\i<=xs.length/\Pv i σ H,⟨xs.length,by simp,Wf _,h0⟩,?_⟩
 rintro i m σ H ⟨rfl,hi,p⟩;have q:=hl i σ H hi p
 by_cases hlt:i<xs.length
 .refine .inr ⟨⟨xs,xs[i],q,by simp[hlt]⟩,Pv (i+1),fun σ' H' p'=>⟨xs.length-(i+1),by lia,rfl,hlt,p'⟩,fun x H' y=>?_⟩
  obtain⟨e,y⟩:=y;subst e;exact hs i x σ _ (y xs q) p
 .have e:i=xs.length:=by lia
  subst e;exact .inl ⟨⟨xs,q,Vu _⟩,hd σ H p⟩
theorem E4{lo:Int}{n:Nat}{g:TG}{tb:TS}{D:ja}{σ:St}{H:Hp}(Pv:Nat->St->Hp->Prop) (h0:Pv 0 σ H)
  (hs:∀i σ H,i<n->Pv i σ H->g (.int (lo+i)) σ H fun σ2 H2=>tb { D with nx:=Pv (i+1),ct:=Pv (i+1),bk:=D.nx } σ2 H2) (hd:∀σ H,Pv n σ H->D.nx σ H) :
  ∃W:Nat->Nat->St->Hp->Prop,(∃m,W 0 m σ H)/\∀i m σ H,W i m σ H ->
   ((K0 lo n).stop i H/\D.nx σ H)∨((K0 lo n).go i H/\∃N:St->Hp->Prop,(∀σ' H',N σ' H'->∃m',m'<m/\W (i+1) m' σ' H')/\∀x H',(K0 lo n).yld i H x H'->g x σ H' fun σ2 H2=>tb { D with nx:=N,ct:=N,bk:=D.nx } σ2 H2):=by
 refine⟨fun i m σ H=>m=n-i/\i<=n/\Pv i σ H,⟨n,by simp,Wf _,h0⟩,?_⟩
 rintro i m σ H ⟨rfl,hi,p⟩
 by_cases hlt:i<n
 .refine .inr ⟨hlt,Pv (i+1),fun σ' H' p'=>⟨n-(i+1),by lia,rfl,hlt,p'⟩,fun x H' y=>?_⟩
  obtain⟨e,y⟩:=y;subst e y;exact hs i σ _ hlt p
 .have e:i=n:=by lia
  subst e;exact .inl ⟨Vu _,hd σ H p⟩
abbrev R2:=V->V->Hp->VK->Prop
def wW(X:Cx) (f:Value->Value->Sem Value) (r:R2):Prop :=
 ∀(ae:List (Addr×Obj)) (s:Shared) (σ:St) (H:Hp) (x y:V) (v u:Value) (Q:VK),Inv X ae σ H s->bO x v->bO y u->r x y H Q ->
  wpAny (model X.prog X.w) X.A (f v u) (EP X ae σ Q) X.xe s
def TC(X:Cx) (f:Value->Sem Value) (r:V->Hp->VK->Prop):Prop :=
 ∀(ae:List (Addr×Obj)) (s:Shared) (σ:St) (H:Hp) (x:V) (v:Value) (Q:VK),Inv X ae σ H s->bO x v->r x H Q ->
  wpAny (model X.prog X.w) X.A (f v) (EP X ae σ Q) X.xe s
def eG(X:Cx) (f:Value) (r:List V->Hp->VK->Prop):Prop :=
 ∀(ae:List (Addr×Obj)) (s:Shared) (σ:St) (H:Hp) (xs:List V) (us:List Value) (Q:VK),Inv X ae σ H s->bq xs us->r xs H Q ->
  wpAny (model X.prog X.w) X.A (call f us) (EP X ae σ Q) X.xe s
def S8(X:Cx) (r:V->Hp->(Bool->Hp->Prop)->Prop):Prop :=
 ∀(ae:List (Addr×Obj)) (s:Shared) (σ:St) (H:Hp) (x:V) (v:Value) (Q:Bool->Hp->Prop),Inv X ae σ H s->bO x v->r x H Q ->
  wpAny (model X.prog X.w) X.A (truthy v) (TP X ae σ Q) X.xe s
noncomputable def Lb(r:R2) (ta tb:TE):TE:=fun σ H Q=>ta σ H fun x H1=>tb σ H1 fun y H2=>r x y H2 Q
noncomputable def UE(r:V->Hp->VK->Prop) (ta:TE):TE:=fun σ H Q=>ta σ H fun x H1=>r x H1 Q
def rI(C:Int->Int->Prop) (g:Int->Int->V):R2:=fun x y H Q=>∃i j,x = .int i/\y = .int j/\C i j/\Q (g i j) H
noncomputable def G4(g:Int->Int->V):R2:=fun x y H Q=>∃i j,x = .int i/\y = .int j/\Q (g i j) H
def rU(g:Int->V):V->Hp->VK->Prop:=fun x H Q=>∃i,x = .int i/\Q (g i) H
section
variable {X:Cx}{a b c:Expr}{ta tb tc:TE}{pos:Pos}
theorem PR(ha:PE X a ta) (hb:PE X b tb) {ae:List (Addr×Obj)}{s:Shared}{σ:St}{H:Hp}{R:V->V->Hp->Prop}(I:Inv X ae σ H s)
  (h:ta σ H fun x H1=>tb σ H1 fun y H2=>R x y H2) {Q:Value->Shared->Prop}{f:Value->Value->Sem Value}
  (hf:∀v u s2 x y H2,Inv X ae σ H2 s2->bO x v->bO y u->R x y H2->wpAny (model X.prog X.w) X.A (f v u) Q X.xe s2) :
  wpAny (model X.prog X.w) X.A (eval a X.env) (fun v s₁=>wpAny (model X.prog X.w) X.A (eval b X.env) (fun u s₂=>wpAny (model X.prog X.w) X.A (f v u) Q X.xe s₂) X.xe s₁) X.xe s:=by
 refine dB (ha ae s σ H _ I h) fun v s1 ⟨x,H1,I1,r1,q1⟩=>?_
 refine dB (hb ae s1 σ H1 _ I1 q1) fun u s2 ⟨y,H2,I2,r2,q2⟩=>?_
 exact hf v u s2 x y H2 I2 r1 r2 q2
theorem cj{op:Operator}{r:R2}(ho:wW X (binaryOp op) r) (ha:PE X a ta) (hb:PE X b tb):PE X (.BinOp a op b pos) (Lb r ta tb):=by
 intro ae s σ H Q I h;exact wpAny_BinOp (PR ha hb I h fun v u s2 x y H2 I2 rx ry q=>ho ae s2 σ H2 x y v u Q I2 rx ry q)
theorem iO{op:UnaryOp}{r:V->Hp->VK->Prop}(ho:TC X (unaryOp op) r) (ha:PE X a ta):PE X (.UnaryOp op a pos) (UE r ta):=by
 intro ae s σ H Q I h;exact UnaryOp_ (dB (ha ae s σ H _ I h) fun v s1 ⟨x,H1,I1,r1,q1⟩=>ho ae s1 σ H1 x v Q I1 r1 q1)
theorem Sn{f:Value->Value->Sem Value}{C:Int->Int->Prop}{g:Int->Int->Int}
  (rule:∀(i j:Int) (t u:Tok) (s:Shared) (Q:Value->Shared->Prop) (E:Value->Shared->Prop),C i j->Q (.int (g i j) s.toks) { s with toks:=s.toks+1 }->wpAny (model X.prog X.w) X.A (f (.int i t) (.int j u)) Q E s) :
  wW X f (rI C fun i j=>.int (g i j)):=by
 intro ae s σ H x y v u Q I rx ry h;obtain⟨i,j,rfl,rfl,hc,q⟩:=h;obtain⟨t,rfl⟩:=rx;obtain⟨t',rfl⟩:=ry;exact rule i j t t' s _ _ hc ⟨.int (g i j),H,I.tok _,⟨_,rfl⟩,q⟩
theorem QW{f:Value->Value->Sem Value}{g:Int->Int->Int}
  (rule:∀(i j:Int) (t u:Tok) (s:Shared) (Q:Value->Shared->Prop) (E:Value->Shared->Prop),Q (.int (g i j) s.toks) { s with toks:=s.toks+1 }->wpAny (model X.prog X.w) X.A (f (.int i t) (.int j u)) Q E s) :
  wW X f (G4 fun i j=>.int (g i j)):=by
 intro ae s σ H x y v u Q I rx ry h;obtain⟨i,j,rfl,rfl,q⟩:=h;obtain⟨t,rfl⟩:=rx;obtain⟨t',rfl⟩:=ry;exact rule i j t t' s _ _ ⟨.int (g i j),H,I.tok _,⟨_,rfl⟩,q⟩
theorem Qq{f:Value->Value->Sem Value}{g:Int->Int->Bool}
  (rule:∀(i j:Int) (t u:Tok) (s:Shared) (Q:Value->Shared->Prop) (E:Value->Shared->Prop),Q (.bool (g i j)) s->wpAny (model X.prog X.w) X.A (f (.int i t) (.int j u)) Q E s) :
  wW X f (G4 fun i j=>.bl (g i j)):=by
 intro ae s σ H x y v u Q I rx ry h;obtain⟨i,j,rfl,rfl,q⟩:=h;obtain⟨t,rfl⟩:=rx;obtain⟨t',rfl⟩:=ry;exact rule i j t t' s _ _ ⟨.bl (g i j),H,I,rfl,q⟩
def OI(i j:Int):Prop:=0<j/\j<1073741824
def OR(i j:Int):Prop:=0<=j/\j<=1000000/\i.natAbs<2 ^ 64
def FQ(i j:Int):Prop:=(-(2 ^ 64)<i/\i<2 ^ 64)∨(-(2 ^ 64)<j/\j<2 ^ 64)
theorem FQ.ok{i j:Int}(h:FQ i j):IntMulOk i j:=by
 rcases h with ⟨h1,h2⟩|⟨h1,h2⟩
 .exact .of_left (intBits_le_64 h1 h2)
 .exact .of_right (intBits_le_64 h1 h2)
theorem kY:wW X (binaryOp .Add) (G4 fun i j=>.int (i+j)):=QW fun _ _ _ _ _ _ _ q=>add_int q
theorem N1:wW X (binaryOp .Sub) (G4 fun i j=>.int (i-j)):=QW fun _ _ _ _ _ _ _ q=>sub_int q
theorem Hm:wW X (binaryOp .Mult) (rI FQ fun i j=>.int (i*j)):=Sn fun _ _ _ _ _ _ _ hc q=>mul_int q hc.ok
theorem tI:wW X (binaryOp .FloorDiv) (rI OI fun i j=>.int (i / j)):=Sn fun i j _ _ _ _ _ hc q=>by
 have h1:(0:Int)<j:=hc.1;have h2:j<1073741824:=hc.2;exact floordiv_int (by lia) (by rw[Int.fdiv_eq_ediv_of_nonneg i (by lia)];exact q) (.inl (PyProof.noPylong_small (by lia)))
theorem iG:wW X (binaryOp .Mod) (rI (fun _ j=>0<j) fun i j=>.int (i % j)):=Sn fun i j _ _ _ _ _ hc q=>by
 have h1:(0:Int)<j:=hc;exact mod_int' (by lia) (by rw[Int.fmod_eq_emod_of_nonneg i (by lia)];exact q)
theorem IX:wW X (binaryOp .Pow) (rI OR fun i j=>.int (i ^ j.toNat)):=Sn fun _ _ _ _ _ _ _ hc q=>pow_int_small hc.1 hc.2.1 hc.2.2 q
theorem UL{f:Value->Sem Value}{g:Int->Int}
  (rule:∀(i:Int) (t:Tok) (s:Shared) (Q:Value->Shared->Prop) (E:Value->Shared->Prop),Q (.int (g i) s.toks) { s with toks:=s.toks+1 }->wpAny (model X.prog X.w) X.A (f (.int i t)) Q E s) :
  TC X f (rU fun i=>.int (g i)):=by
 intro ae s σ H x v Q I rx h;obtain⟨i,rfl,q⟩:=h;obtain⟨t,rfl⟩:=rx;exact rule i t s _ _ ⟨.int (g i),H,I.tok _,⟨_,rfl⟩,q⟩
theorem fA:TC X (unaryOp .USub) (rU fun i=>.int (-i)):=UL fun _ _ _ _ _ q=>neg_int q
end
noncomputable def scal:V->V->Bool
 | .non,.non=>true|.non,.int _=>true|.int _,.non=>true|.non,.bl _=>true|.bl _,.non=>true|.non,.str _=>true|.str _,.non=>true
 | .int _,.int _=>true|.bl _,.bl _=>true|.str _,.str _=>true|.byt _,.byt _=>true
 | .int _,.str _=>true|.str _,.int _=>true|.bl _,.str _=>true|.str _,.bl _=>true
 |_,_=>false
def UA:R2:=fun x y H Q=>scal x y=true/\Q (.bl (decide (x=y))) H
def UG:R2:=fun x y H Q=>scal x y=true/\Q (.bl (!decide (x=y))) H
theorem Ds{i j:Int}:decide (V.int i=V.int j)=(i == j):=by
 rw[Xl];simp
theorem Js{i j:Bool}:decide (V.bl i=V.bl j)=(i == j):=by
 rw[Xl];simp
theorem Cm{i j:Str}:decide (V.str i=V.str j)=(i == j):=by
 rw[Xl];simp
theorem Do{i j:Array UInt8}:decide (V.byt i=V.byt j)=(i.toList == j.toList):=by
 rw[Xl];cases i;cases j;simp
section
variable {X:Cx}{a b c:Expr}{ta tb tc:TE}{pos:Pos}
theorem cc{ae:List (Addr×Obj)}{σ:St}{H:Hp}{s:Shared}{Q:VK}{k k':Bool}(I:Inv X ae σ H s) (q:Q (.bl k) H) (e:k=k'):EP X ae σ Q (.bool k') s:=by
 subst e;exact⟨.bl k,H,I,rfl,q⟩
theorem sr:wW X (compareOp .Eq) UA:=by
 intro ae s σ H x y v u Q I rx ry h;obtain⟨hs,q⟩:=h;cases x with
 |non =>
  cases rx;cases y with
  |non=>cases ry;exact PySem.EqNone.eq_none_none (cc I q (by simp))
  |bl j=>cases ry;exact PySem.EqNone.eq_none_bool (cc I q (by simp))
  |int j=>obtain⟨t',rfl⟩:=ry;exact PySem.EqNone.eq_none_int (cc I q (by simp))
  |str j=>obtain⟨t',rfl⟩:=ry;exact PySem.EqNone.eq_none_str (cc I q (by simp))
  |_=>exact absurd (show false=true from hs) VF
 |bl i =>
  cases rx;cases y with
  |non=>cases ry;exact PySem.EqNone.eq_bool_none (cc I q (by simp))
  |bl j=>cases ry;exact eq_bool (cc I q Js)
  |str j=>obtain⟨t',rfl⟩:=ry;exact PySem.EqMixed.eq_bool_str (cc I q (by simp))
  |_=>exact absurd (show false=true from hs) VF
 |int i =>
  obtain⟨t,rfl⟩:=rx;cases y with
  |non=>cases ry;exact PySem.EqNone.eq_int_none (cc I q (by simp))
  |int j=>obtain⟨t',rfl⟩:=ry;exact eq_int (cc I q Ds)
  |str j=>obtain⟨t',rfl⟩:=ry;exact PySem.EqMixed.eq_int_str (cc I q (by simp))
  |_=>exact absurd (show false=true from hs) VF
 |str i =>
  obtain⟨t,rfl⟩:=rx;cases y with
  |non=>cases ry;exact PySem.EqNone.eq_str_none (cc I q (by simp))
  |bl j=>cases ry;exact PySem.EqMixed.eq_str_bool (cc I q (by simp))
  |int j=>obtain⟨t',rfl⟩:=ry;exact PySem.EqMixed.eq_str_int (cc I q (by simp))
  |str j=>obtain⟨t',rfl⟩:=ry;exact eq_str (cc I q Cm)
  |_=>exact absurd (show false=true from hs) VF
 |byt i =>
  obtain⟨t,rfl⟩:=rx;cases y with
  |byt j=>obtain⟨t',rfl⟩:=ry;exact W.eq_bytes (cc I q Do)
  |_=>exact absurd (show false=true from hs) VF
 |_=>cases y <;> exact absurd (show false=true from hs) VF
theorem CY:wW X (compareOp .NotEq) UG:=by
 intro ae s σ H x y v u Q I rx ry h;obtain⟨hs,q⟩:=h;cases x with
 |non =>
  cases rx;cases y with
  |non=>cases ry;exact PySem.EqNone.ne_none_none (cc I q (by simp))
  |bl j=>cases ry;exact PySem.EqNone.ne_none_bool (cc I q (by simp))
  |int j=>obtain⟨t',rfl⟩:=ry;exact PySem.EqNone.ne_none_int (cc I q (by simp))
  |str j=>obtain⟨t',rfl⟩:=ry;exact PySem.EqNone.ne_none_str (cc I q (by simp))
  |_=>exact absurd (show false=true from hs) VF
 |bl i =>
  cases rx;cases y with
  |non=>cases ry;exact PySem.EqNone.ne_bool_none (cc I q (by simp))
  |bl j=>cases ry;exact ne_bool (cc I q (congrArg not Js))
  |str j=>obtain⟨t',rfl⟩:=ry;exact PySem.EqMixed.ne_bool_str (cc I q (by simp))
  |_=>exact absurd (show false=true from hs) VF
 |int i =>
  obtain⟨t,rfl⟩:=rx;cases y with
  |non=>cases ry;exact PySem.EqNone.ne_int_none (cc I q (by simp))
  |int j=>obtain⟨t',rfl⟩:=ry;exact ne_int (cc I q (congrArg not Ds))
  |str j=>obtain⟨t',rfl⟩:=ry;exact PySem.EqMixed.ne_int_str (cc I q (by simp))
  |_=>exact absurd (show false=true from hs) VF
 |str i =>
  obtain⟨t,rfl⟩:=rx;cases y with
  |non=>cases ry;exact PySem.EqNone.ne_str_none (cc I q (by simp))
  |bl j=>cases ry;exact PySem.EqMixed.ne_str_bool (cc I q (by simp))
  |int j=>obtain⟨t',rfl⟩:=ry;exact PySem.EqMixed.ne_str_int (cc I q (by simp))
  |str j=>obtain⟨t',rfl⟩:=ry;exact ne_str (cc I q (congrArg not Cm))
  |_=>exact absurd (show false=true from hs) VF
 |byt i =>
  obtain⟨t,rfl⟩:=rx;cases y with
  |byt j=>obtain⟨t',rfl⟩:=ry;exact W.ne_bytes (cc I q (congrArg not Do))
  |_=>exact absurd (show false=true from hs) VF
 |_=>cases y <;> exact absurd (show false=true from hs) VF
theorem C5:wW X (compareOp .Lt) (G4 fun i j=>.bl (decide (i<j))):=Qq fun _ _ _ _ _ _ _ q=>lt_int q
theorem rV:wW X (compareOp .Gt) (G4 fun i j=>.bl (decide (j<i))):=Qq fun _ _ _ _ _ _ _ q=>gt_int q
theorem yM:wW X (compareOp .Is) (fun x y H Q=>y = .non/\Q (.bl (decide (x = .non))) H):=by
 intro ae s σ H x y v u Q I rx ry h;obtain⟨rfl,q⟩:=h;cases ry;refine is_none_gen (cc I q ?_);cases x <;> first
  | (cases rx;rfl)
  | (obtain⟨t,rfl⟩:=rx;rfl)
theorem cC(b:Expr) {op:CmpOp}(h:op ≠ .In:=by decide) (h2:op ≠ .NotIn:=by decide):behindInMarks op b=false:=by
 have e1:(op == CmpOp.In)=false:=by cases op <;> first|rfl|exact absurd rfl h
 have e2:(op == CmpOp.NotIn)=false:=by cases op <;> first|rfl|exact absurd rfl h2
 cases b <;> simp[behindInMarks,e1,e2]
theorem yL{op:CmpOp}{r:R2}(ho:wW X (compareOp op) r) (ha:PE X a ta) (hb:PE X b tb) (hm:behindInMarks op b=false):PE X (.Compare a [op] [b] pos) (Lb r ta tb):=by
 intro ae s σ H Q I h;exact wpAny_Compare1 (PR ha hb I h fun v u s2 x y H2 I2 rx ry q=>ho ae s2 σ H2 x y v u Q I2 rx ry q) hm
noncomputable def MV(t:TE):TT:=fun σ H Q=>t σ H fun x H'=>∃k,x = .bl k/\Q k H'
theorem bA{op:CmpOp}{r:R2}(ho:wW X (compareOp op) r) (ha:PE X a ta) (hb:PE X b tb) (hm:behindInMarks op b=false):PT X (.Compare a [op] [b] pos) (MV (Lb r ta tb)):=by
 intro ae s σ H Q I h;refine wpAny_isTrue_Compare1 (dB (ha ae s σ H _ I h) fun v s1 ⟨x,H1,I1,r1,q1⟩=>dB (hb ae s1 σ H1 _ I1 q1) fun u s2 ⟨y,H2,I2,r2,q2⟩ =>
  dB (ho ae s2 σ H2 x y v u _ I2 r1 r2 q2) fun c s3 ⟨z,H3,I3,r3,k,e,q3⟩=>?_) hm
 subst e;cases r3;exact wpAny_truthy_bool ⟨H3,I3,q3⟩
def NM(K:W.Frag) (x:V) (H:Hp) (k:Bool):Prop :=
 match x with
 | .non=>k=false
 | .bl b=>k=b
 | .int i=>k=(i != 0)
 | .str y=>y.length<=sizeLine/\k=((y.length:Int) != 0)
 | .byt y=>y.size<=sizeLine/\k=((y.size:Int) != 0)
 | .ref p=>(∃xs,dJ K H p xs/\k = !xs.isEmpty)∨(∃xs,vH K H p xs/\k = !xs.isEmpty)∨∃az,H p=some (.dK az)/\k = !az.isEmpty
 |_=>False
theorem Ca{κ:Type}{az:List (κ×V)}{vs:List (κ×Value)}(r:KV az vs):(!vs.isEmpty) = !az.isEmpty:=by
 cases r <;> rfl
theorem vx{xs:List V}{its:List Value}(r:bq xs its):(!its.toArray.isEmpty) = !xs.isEmpty:=by
 cases r <;> simp
theorem yv:(sizeLine:Nat)<2 ^ 63:=by rw[sizeLine_eq];decide
theorem On:S8 X (fun x H Q=>∃k,NM X.K x H k/\Q k H):=by
 intro ae s σ H x v Q I rx h;obtain⟨k,e,q⟩:=h;have hl:=yv;have hs:sizeLine=16777216:=sizeLine_eq;cases x with
 |non =>
  cases rx;have e':k=false:=e;subst e';exact truthy_none ⟨H,I,q⟩
 |bl b =>
  cases rx;have e':k=b:=e;subst e';exact wpAny_truthy_bool ⟨H,I,q⟩
 |int i =>
  obtain⟨t,rfl⟩:=rx;have e':k=(i != 0):=e;subst e';exact PySem.P.truthy_int ⟨H,I,q⟩
 |str y =>
  obtain⟨t,rfl⟩:=rx;obtain⟨hy,e'⟩:y.length<=sizeLine/\k=((y.length:Int) != 0):=e;subst e';exact PySem.P.truthy_str (by lia) ⟨H,I.tok _,q⟩
 |byt y =>
  obtain⟨t,rfl⟩:=rx;obtain⟨hy,e'⟩:y.size<=sizeLine/\k=((y.size:Int) != 0):=e;subst e';exact W.truthy_bytes (by lia) ⟨H,I.tok _,q⟩
 |ref p =>
  cases rx;have e':(∃xs,dJ X.K H p xs/\k = !xs.isEmpty)∨(∃xs,vH X.K H p xs/\k = !xs.isEmpty)∨∃az,H p=some (.dK az)/\k = !az.isEmpty:=e;rcases e' with ⟨xs,hx,e'⟩|⟨xs,hx,e'⟩|⟨az,hx,e'⟩
  .subst e';obtain⟨its,r,pl,hz⟩:=I.list hx;have hlen:=r.length;exact wpAny_truthy_list pl.isList (by simp only[VE];lia) ⟨H,I.tok _,by rw[vx r];exact q⟩
  .subst e';obtain⟨its,r,pl,hz⟩:=I.tuple hx;have hlen:=r.length;exact truthy_tuple pl (by simp only[VE];lia) ⟨H,I.tok _,by rw[vx r];exact q⟩
  .subst e';obtain⟨hz,hS,vs,r,m⟩:az.length<=sizeLine/\(p == sysModules)=false/\∃vs,KV az vs/\s.heap.DictOf (dF X.prog X.w) p vs:=I.hok p _ hx;have hlen:az.length=vs.length:=Paired.length r;exact wpAny_truthy_dict hS m (by lia) ⟨H,I.tok _,by rw[Ca r];exact q⟩
 |_=>exact(show False from e).elim
theorem qw(ha:PE X a ta) (he:∀whole,isTrue a X.env whole=(do let v ←whole;standAt a.pos;holding [v] (truthy v))) :
  PT X a (fun σ H Q=>ta σ H fun x H'=>∃k,NM X.K x H' k/\Q k H'):=by
 intro ae s σ H Q I h;exact isTrue_plain (dB (ha ae s σ H _ I h) fun v s1 ⟨x,H1,I1,r1,q1⟩=>On ae s1 σ H1 x v Q I1 r1 q1) (he _)
theorem uz{x:V}{us:List Value}(r:bq [x] us):∃u,us=[u]/\bO x u:=by
 cases r with
 |cons r1 r2=>cases r2;exact⟨_,rfl,r1⟩
theorem CT{x y:V}{us:List Value}(r:bq [x,y] us):∃u w',us=[u,w']/\bO x u/\bO y w':=by
 cases r with
 |cons r1 r2 =>
  cases r2 with
  |cons r3 r4=>cases r4;exact⟨_,_,rfl,r1,r3⟩
def Qh(K:W.Frag) (x:V) (H:Hp) (n:Nat):Prop :=
 match x with
 | .str y=>y.length<=sizeLine/\n=y.length
 | .byt y=>y.size<=sizeLine/\n=y.size
 | .ref p=>(∃xs,dJ K H p xs/\n=xs.length)∨∃xs,vH K H p xs/\n=xs.length
 |_=>False
theorem dU:eG X (.builtin "len") (fun xs H Q=>∃x n,xs=[x]/\Qh X.K x H n/\Q (.int n) H):=by
 intro ae s σ H xs us Q I r h;obtain⟨x,n,rfl,e,q⟩:=h;obtain⟨u,rfl,rx⟩:=uz r;have hl:=yv;have hs:sizeLine=16777216:=sizeLine_eq;cases x with
 |str y =>
  obtain⟨t,rfl⟩:=rx;obtain⟨hy,e'⟩:y.length<=sizeLine/\n=y.length:=e;subst e';exact len_str (by lia) ⟨.int _,H,I.tok _,⟨_,rfl⟩,q⟩
 |byt y =>
  obtain⟨t,rfl⟩:=rx;obtain⟨hy,e'⟩:y.size<=sizeLine/\n=y.size:=e;subst e';exact W.len_bytes (by lia) ⟨.int _,H,I.tok _,⟨_,rfl⟩,q⟩
 |ref p =>
  cases rx;have e':(∃xs,dJ X.K H p xs/\n=xs.length)∨∃xs,vH X.K H p xs/\n=xs.length:=e;rcases e' with ⟨xs,hx,e'⟩|⟨xs,hx,e'⟩
  .subst e';obtain⟨its,r',pl,hz⟩:=I.list hx;have hlen:=r'.length;exact Calls.call_len_list pl.isList (by simp only[VE];lia) ⟨.int xs.length,H,I.tok _,⟨_,by simp only[VE];rw[hlen]⟩,q⟩
  .subst e';obtain⟨its,r',pl,hz⟩:=I.tuple hx;have hlen:=r'.length;exact len_tuple pl (by simp only[VE];lia) ⟨.int xs.length,H,I.tok _,⟨_,by simp only[VE];rw[hlen]⟩,q⟩
 |_=>exact(show False from e).elim
end
structure Bf (h:Heap) (x dx C:Addr) (mA:Str->Option Value):Prop where
 obj:h.get? x=some (W.instObj C dx)
 ns:h.Ns1 dx mA
 ne:dx≠x
theorem Fm{h:Heap}{dx:Addr}{mA:Str->Option Value}(n:h.Ns1 dx mA):∃od,h.get? dx=some od/\∀name,W.lookIn name od=some (mA name):=by
 obtain⟨o,es,ep,ho,hd,hk,_,hm⟩:=n;refine⟨o,ho,fun name=>?_⟩
 have e:=hm name;unfold nsFind findBy at e;rw[←Array.find?_toList]at e;unfold W.lookIn;rw[hd];dsimp only;split
 .rename_i y q;rw[q]at e;exact congrArg some e
 .rename_i q;rw[q]at e;have a:es.toList.any (·.refKey)=false:=by
   rw[List.any_eq_false];intro y hy;obtain⟨z,t,hkey⟩:=hk y (Yc.mp hy);simp[DictEntry.refKey,hkey]
  have a':¬ es.toList.any (·.refKey)=true:=by rw[a];exact VF
  rw[if_neg a'];exact congrArg some e
theorem Bf.look{h:Heap}{x dx C:Addr}{mA:Str->Option Value}(I:Bf h x dx C mA):∃od,W.InstAt h x (W.instObj C dx) C (some od)/\∀name,W.lookIn name od=some (mA name) :=
 let ⟨od,ho,hl⟩:=Fm I.ns
 ⟨od,⟨I.obj,rfl,rfl,ho⟩,hl⟩
section
variable {prog:Program}{w:World}{A:Around}{E:Value->Shared->Prop}{s:Shared}{K:W.Frag}{x dx C f:Addr}{mA:Str->Option Value}{name:Str}{v:Value}
theorem LI{expr:Bool}{Q:Value->Shared->Prop}(X:K.In s.heap) (I:Bf s.heap x dx C mA) (hg:W.plainGet K C name=true) (hh:W.hasDictIn K C=true)
  (ha:W.findIn K (.ref C) name=some none) (hv:mA name=some v) (hv':W.handedIn v=true) (h:Q v { s with toks:=s.toks+1 }) :
  wpAny (model prog w) A (getAttr (.ref x) name expr) Q E s:=by
 obtain⟨od,J,hl⟩:=I.look;exact W.get_value X J (W.plainGet_of hg).1 (W.findObj_own hh ha rfl (by rw[hl,hv])) hv' h
theorem GU{pl:Sem Bool}{Q:Value×List Value->Shared->Prop}(X:K.In s.heap) (I:Bf s.heap x dx C mA) (hg:W.plainGet K C name=true)
  (hf:W.findIn K (.ref C) name=some (some (.ref f))) (ht:W.isFn K (.ref f)=true) (hv:mA name=none) (h:Q (.ref f,[.ref x]) s) :
  wpAny (model prog w) A (getMethod (.ref x) name pl) Q E s:=by
 obtain⟨od,J,hl⟩:=I.look;exact W.method_fn X J (W.plainGet_of hg).1 (W.plainGet_of hg).2 hf (beq_iff_eq.mp ht) (by show (W.lookIn name od).map (·.isSome)=some false;rw[hl,hv];rfl) h
theorem Kd{ns:List Str}{Q:Unit->Shared->Prop}(X:K.In s.heap) (I:Bf s.heap x dx C mA)
  (hs:W.findIn K (.ref C) "__setattr__" = some (some (.builtin "object.__setattr__"))) (hp:W.plainOver K C=true) (ht:W.takerIn K C name=some none) (hh:W.hasDictIn K C=true)
  (hw:PySem.Within mA ns) (hsz:ns.length<=sizeLine)
  (h:∀h',Bf h' x dx C (fun y=>if y=name then some v else mA y)->XW dx s.heap h'->Q () { s with heap:=h',toks:=s.toks+2 }) :
  wpAny (model prog w) A (setAttr (.ref x) name v) Q E s:=by
 obtain⟨od,J,hl⟩:=I.look;refine W.set_plain X J hs (W.osa_open (s:={ s with toks:=s.toks+1 }) (r:=none) X J hp ht fun b=>?_)
 obtain⟨cd,hc,hd'⟩:=W.any_some hh;have hx:s.heap.get? x=some ⟨.ref C,some dx,.plain,#[]⟩:=I.obj;refine wpAny_bind (wpAny_pure (wpAny_bind (wpAny_bind (wpAny_loadPart hx (wpAny_bind (W.Looks.here (s:={ s with toks:=s.toks+1 }) (W.looks_clsIn X hc) ?_))))))
 rw[hd'];refine wpAny_pure (a:=some dx) (wpAny_bind (wpAny_pure (wpAny_bind ?_)));refine wpAny_nsSet1 (s:={ s with toks:=s.toks+1 }) I.ns fun h' hn2 hs2=>?_
 obtain⟨oD,esD,epD,hoD,hdD,hcD⟩:=hn2.count (PySem.Within.cons name v hw);refine wpAny_bind (wpAny_lookBehind hoD (by rw[hdD];exact pastItsLine_dict (Wi hcD (by rw[lCq];lia))) ?_)
 exact wpAny_pure (h _ ⟨(hs2.2 _ (Ne.symm I.ne)).trans I.obj,hn2,I.ne⟩ hs2)
theorem JJ{R:Result->Shared->Prop}{vs:List Value}{kw:List (Str×Value)}(X:K.In s.heap) (hm:W.makesIn K C=true)
  (hi:W.findIn K (.ref C) "__init__" = some (some (.ref f))) (hf:W.typeIn K (.ref f)=some (.type "function"))
  (h:codeAny (model prog w) (A.under (.builtin "type.__call__" ⟨.ref C::vs,kw⟩)) (.call (.ref f) ⟨.ref (s.heap.objs.size+1)::vs,kw⟩) (W.InitBack (s.heap.objs.size+1) R)
   { s with heap:=(s.heap.push W.emptyDict).push (W.instObj C s.heap.objs.size) }) :
  codeAny (model prog w) A (.call (.ref C) ⟨vs,kw⟩) R s:=by
 obtain⟨hh,g,d,t,os⟩:=s;exact W.make_core (W.makes_of X hm) (W.looks_findIn X hi) (fun self=>W.bind_fn X self hf) (.inl rfl) h
end
noncomputable def nU(f:Str) (v:V):List (Str×V)->List (Str×V)
 | []=>[(f,v)]
 | (g,x)::r=>if g=f then (g,v)::r else (g,x)::nU f v r
theorem sA(f g:Str) (v:V):∀fs:List (Str×V),(nU f v fs).lookup g=if g=f then some v else fs.lookup g
 | []=>by
  show WB g [(f,v)]=_
  by_cases h:g=f
  .have hb:(g == f)=true:=beq_iff_eq.mpr h;simp only[WB,hb,if_pos h]
  .have hb:(g == f)=false:=beq_eq_false_iff_ne.mpr h;simp only[WB,hb,if_neg h]
 | (k,x)::r=>by
  have ih:=sA f g v r;rw[show nU f v ((k,x)::r)=(if k=f then (k,v)::r else (k,x)::nU f v r) from rfl]
  by_cases hk:k=f
  .rw [if_pos hk]
   by_cases h:g=k
   .have hb:(g == k)=true:=beq_iff_eq.mpr h;simp only[WB,hb,if_pos (h.trans hk)]
   .have hb:(g == k)=false:=beq_eq_false_iff_ne.mpr h;simp only[WB,hb,if_neg (fun e:g=f=>h (e.trans hk.symm))]
  .rw [if_neg hk]
   by_cases h:g=k
   .have hb:(g == k)=true:=beq_iff_eq.mpr h;simp only[WB,hb,if_neg (fun e:g=f=>hk (h.symm.trans e))]
   .have hb:(g == k)=false:=beq_eq_false_iff_ne.mpr h;simp only[WB,hb];exact ih
theorem rF(f:Str) (v:V):∀fs:List (Str×V),f∈(nU f v fs).map (·.1)/\∀g,g∈fs.map (·.1)->g∈(nU f v fs).map (·.1)
 | []=>⟨by simp[nU],fun g h=>by simp at h⟩
 | (k,x)::r=>by
  obtain⟨i1,i2⟩:=rF f v r;rw[show nU f v ((k,x)::r)=(if k=f then (k,v)::r else (k,x)::nU f v r) from rfl]
  by_cases hk:k=f
  .rw [if_pos hk];subst hk;exact⟨by simp,fun g h=>by simpa using h⟩
  .rw [if_neg hk];refine⟨?_,fun g h=>?_⟩
   .rw [VG];exact mCo _ i1
   .rw [VG]at h ⊢;rcases VB.mp h with e|e
    .exact VB.mpr (.inl e)
    .exact mCo _ (i2 g e)
theorem rN(f:Str) (v:V):∀fs:List (Str×V),(nU f v fs).length<=fs.length+1
 | []=>by simp[nU]
 | (k,x)::r=>by
  have ih:=rN f v r;rw[show nU f v ((k,x)::r)=(if k=f then (k,v)::r else (k,x)::nU f v r) from rfl]
  by_cases hk:k=f
  .rw [if_pos hk,lCq,lCq];lia
  .rw [if_neg hk,lCq,lCq];lia
theorem mq.some_of{v:V}{o:Option Value}(r:mq (some v) o):∃u,o=some u/\bO v u:=by
 cases o with
 |none=>exact(show False from r).elim
 |some u=>exact⟨u,rfl,r⟩
theorem mq.none_of{o:Option Value}(r:mq none o):o=none:=by
 cases o with
 |none=>rfl
 |some u=>exact(show False from r).elim
theorem Fb{v:V}{u:Value}(r:bO v u):W.handedIn u=true:=by
 cases v with
 |non=>cases (show u=WV from r);rfl
 |bl b=>cases (show u=Y3 b from r);rfl
 |int i=>obtain⟨t,e⟩:=(show ∃t,u=Yp i t from r);cases e;rfl
 |str x=>obtain⟨t,e⟩:=(show ∃t,u=YL x t from r);cases e;rfl
 |byt b=>obtain⟨t,e⟩:=(show ∃t,u=ZS b t from r);cases e;rfl
 |flt b=>obtain⟨t,e⟩:=(show ∃t,u=Zq b t from r);cases e;rfl
 |ref a=>cases (show u=Vw a from r);rfl
 |ty n=>cases (show u=Xd n from r);rfl
section
variable {P:Program}{w:World}{H H':Hp}{h h':Heap}{a C dx:Addr}{fs fs':List (Str×V)}
theorem tP(hok:mC P w H h) (e:H a=some (.ins C dx fs)):∃mA,Bf h a dx C mA/\(∀f,mq (fs.lookup f) (mA f))/\PySem.Within mA (fs.map (·.1))/\fs.length<=1000/\H dx=some (.own a):=by
 obtain⟨d,z,ne,ob,mA,n,r,q⟩:=(show cx P w H h a (.ins C dx fs) from hok a _ e)
 exact⟨mA,⟨ob,n,ne⟩,r,q,z,d⟩
end
structure Ah (K:W.Frag) (C:Addr):Prop where
 pg:W.plainGet K C Str.empty=true
 hd:W.hasDictIn K C=true
 po:W.plainOver K C=true
 sa:W.findIn K (.ref C) "__setattr__" = some (some (.builtin "object.__setattr__"))
theorem Ah.get{K:W.Frag}{C:Addr}(c:Ah K C) (f:Str):W.plainGet K C f=true:=c.pg
def cO(K:W.Frag) (C:Addr) (f:Str):Prop:=W.findIn K (.ref C) f=some none
theorem cO.taker{K:W.Frag}{C:Addr}{f:Str}(n:cO K C f):W.takerIn K C f=some none:=by
 unfold W.takerIn;rw[show W.findIn K (.ref C) f=some none from n]
 rfl
structure uZ (K:W.Frag) (C:Addr) (m:Str) (f:Addr):Prop where
 at_:W.findIn K (.ref C) m=some (some (.ref f))
 fn:W.isFn K (.ref f)=true
 kp:W.keepIn K (.ref f)=true
section
variable {X:Cx}{ae:List (Addr×Obj)}{σ:St}{H:Hp}{s:Shared}{a C dx:Addr}{fs:List (Str×V)}{f:Str}{v:V}{A:Around}{E:Value->Shared->Prop}
theorem Br{b:Bool}{Q:Value->Shared->Prop}(I:Inv X ae σ H s) (e:H a=some (.ins C dx fs)) (c:Ah X.K C) (n:cO X.K C f) (l:fs.lookup f=some v)
  (h:∀u s',Inv X ae σ H s'->bO v u->Q u s'):wpAny (model X.prog X.w) A (getAttr (.ref a) f b) Q E s:=by
 obtain⟨mA,O,r,_,_,_⟩:=tP I.hok e;obtain⟨u,hu,ru⟩:=mq.some_of (v:=v) (o:=mA f) (by rw[←l];exact r f)
 exact LI I.kIn O (c.get f) c.hd n hu (Fb ru) (h u _ (I.tok _) ru)
theorem oQ{m:Str}{g:Addr}{pl:Sem Bool}{Q:Value×List Value->Shared->Prop}(I:Inv X ae σ H s) (e:H a=some (.ins C dx fs)) (c:Ah X.K C) (k:uZ X.K C m g) (l:fs.lookup m=none)
  (h:Q (.ref g,[.ref a]) s):wpAny (model X.prog X.w) A (getMethod (.ref a) m pl) Q E s:=by
 obtain⟨mA,O,r,_,_,_⟩:=tP I.hok e;have hn:mA m=none:=mq.none_of (by rw[←l];exact r m)
 exact GU I.kIn O (c.get m) k.at_ k.fn hn h
theorem B5{y:V}{u:Value}{Q:Unit->Shared->Prop}(I:Inv X ae σ H s) (e:H a=some (.ins C dx fs)) (c:Ah X.K C) (n:cO X.K C f) (hl:fs.length<1000) (ry:bO y u)
  (h:∀s',Inv X ae σ (bW H a (.ins C dx (nU f y fs))) s'->Q () s'):wpAny (model X.prog X.w) A (setAttr (.ref a) f u) Q E s:=by
 obtain⟨mA,O,r,wi,_,ho⟩:=tP I.hok e;have hz:(fs.map (·.1)).length<=sizeLine:=by rw[lMq,sizeLine_eq];lia
 refine Kd I.kIn O c.sa c.po n.taker c.hd wi hz fun h' O' sb=>h _ ?_
 have hd:∃o,h'.get? dx=some o:=let ⟨o,_,_,e',_⟩:=O'.ns;⟨o,e'⟩
 refine I.write (x:=a) (e:=dx) (by rw[e];exact True.intro) (.inr ho) (fun b q hb z=>(sb.2 b hb).trans z) hd ?_
 refine⟨by rw[ax O.ne];exact ho,?_,O.ne,O'.obj,_,O'.ns,fun g=>?_,fun g hg=>?_⟩
 .have:=rN f y fs;lia
 .show mq ((nU f y fs).lookup g) (if g=f then some u else mA g)
  rw[sA]
  by_cases q:g=f
  .rw [if_pos q,if_pos q];exact ry
  .rw [if_neg q,if_neg q];exact r g
 .by_cases q:g=f
  .rw [q];exact(rF f y fs).1
  .refine (rF f y fs).2 g (wi g fun z=>hg ?_)
   show (if g=f then some u else mA g)=none
   rw[if_neg q];exact z
theorem Inv.made(I:Inv X ae σ H s):Inv X ae σ (bW (bW H s.heap.objs.size (.own (s.heap.objs.size+1))) (s.heap.objs.size+1) (.ins C s.heap.objs.size []))
  { s with heap:=(s.heap.push W.emptyDict).push (W.instObj C s.heap.objs.size) }:=by
 have e1:(s.heap.push W.emptyDict).get? s.heap.objs.size=some W.emptyDict:=Wa s.heap rfl;have e2:((s.heap.push W.emptyDict).push (W.instObj C s.heap.objs.size)).get? (s.heap.objs.size+1)=some (W.instObj C s.heap.objs.size):=by
  have:=Wa (s.heap.push W.emptyDict) (o:=W.instObj C s.heap.objs.size) rfl
  rwa [X1]at this
 have e3:(s.heap.push W.emptyDict).Ns s.heap.objs.size (fun _=>none):=⟨W.emptyDict,#[],_,e1,rfl,(fun e he=>absurd he (by simp)),fun _=>rfl⟩
 have I1:=I.laid (a:=s.heap.objs.size) (o:=.own (s.heap.objs.size+1)) (h':=s.heap.push W.emptyDict) (t':=s.toks) (fun b u q=>Vt _ q) (Vu _) ⟨_,e1⟩
 refine I1.laid (a:=s.heap.objs.size+1) (o:=.ins C s.heap.objs.size []) (t':=s.toks) (fun b u q=>Vt _ q) (XY (X1 _ _)) ?_
 have ne:s.heap.objs.size≠s.heap.objs.size+1:=VO (WY _);refine⟨by rw[ax ne,aL],Wf _,ne,e2,fun _=>none,(Heap.Ns1.of_empty e3).at fun o q=>Vt _ q,fun _=>True.intro,fun y hy=>absurd rfl hy⟩
theorem De{prog:Program}{w:World}{env:Env}{e:Expr}{f:Str}{pos:Pos}{s:Shared}{Q:Value->Shared->Prop}(hb:attributeBase e f env (eval e env)=eval e env)
  (h:wpAny (model prog w) A (eval e env) (fun o s₁=>wpAny (model prog w) A (getAttr o f true) Q E s₁) E s):wpAny (model prog w) A (eval (.Attribute e f pos) env) Q E s :=
 Attribute_any_ h (by rw[arm_eval_Attribute,hb])
end
def QG(K:W.Frag) (ta:TE) (f:Str):TE:=fun σ H Q=>ta σ H fun x H1=>∃a C dx fs v,x = .ref a/\H1 a=some (.ins C dx fs)/\Ah K C/\cO K C f/\fs.lookup f=some v/\Q v H1
def QI(K:W.Frag) (ta tv:TE) (f:Str):TS:=fun D σ H=>tv σ H fun y H1=>ta σ H1 fun x H2=>∃a C dx fs,x = .ref a/\H2 a=some (.ins C dx fs)/\Ah K C/\cO K C f/\fs.length<1000 /\
 D.nx σ (bW H2 a (.ins C dx (nU f y fs)))
section
variable {X:Cx}{o e value:Expr}{f:Str}{pos pos' tpos:Pos}{ta tv:TE}
theorem xN(he:PE X e ta) (hb:attributeBase e f X.env (eval e X.env)=eval e X.env):PE X (.Attribute e f pos) (QG X.K ta f):=by
 intro ae s σ H Q I h;refine De hb (dB (he ae s σ H _ I h) fun u s1 ⟨x,H1,I1,rx,a,C,dx,fs,v,ex,ea,c,n,l,q⟩=>?_)
 subst ex;obtain rfl:u=Vw a:=rx;exact Br I1 ea c n l fun u' s2 I2 ru=>⟨v,H1,I2,ru,q⟩
theorem Gx(ha:PE X o ta) (hv:PE X value tv) (hs:swapsWith value (some (.Attribute o f pos')) pos.line X.env=pure false):PS X (.Assign [.Attribute o f pos'] value pos) (QI X.K ta tv f):=by
 intro ae s σ H D I h;refine plainObj_wpAny_Assign_Attribute (dB (hv ae s σ H _ I h) fun u s1 ⟨y,H1,I1,ry,q⟩=>dB (ha ae s1 σ H1 _ I1 q) fun ov s2 ⟨x,H2,I2,rx,a,C,dx,fs,ex,ea,c,n,l,q2⟩=>?_) hs
 subst ex;obtain rfl:ov=Vw a:=rx;exact B5 I2 ea c n l ry fun s3 I3=>⟨σ,_,I3,q2⟩
end
section
variable {X:Cx}{ae:List (Addr×Obj)}{σ:St}{H:Hp}{s:Shared}{A:Around}{E:Value->Shared->Prop}{Q:Value->Shared->Prop}{c:Value}{b:Bool}
inductive sV (K:W.Frag) (H:Hp):V->Value->Prop where
 |non:sV K H .non (.type "NoneType")
 |bl (x:Bool):sV K H (.bl x) (.type "bool")
 |int (i:Int):sV K H (.int i) (.type "int")
 |str (x:Str):sV K H (.str x) (.type "str")
 |flt (x:UInt64):sV K H (.flt x) (.type "float")
 |lst {a:Addr}{xs:List V}(e:H a=some (.lst xs)):sV K H (.ref a) (.type "list")
 |frz {a:Addr}{o:Obj}{xs:List V}(e:H a=some (.frz o (.lst xs))):sV K H (.ref a) (.type "list")
 |tup {a:Addr}{xs:List V}(e:H a=some (.tup xs)):sV K H (.ref a) (.type "tuple")
 |dK {a:Addr}{az:List (bI×V)}(e:H a=some (.dK az)):sV K H (.ref a) (.type "dict")
 |dT {a:Addr}{az:List (List bI×V)}(e:H a=some (.dT az)):sV K H (.ref a) (.type "dict")
 |ins {a C dx:Addr}{fs:List (Str×V)}(e:H a=some (.ins C dx fs)) (cl:Ah K C) (ha:W.findIn K (.ref C) "__class__" = some (some (.builtin "object.__class__")))
   (hn:W.specialIn K (.builtin "object.__class__") "__get__" = some (some (.builtin "getset_descriptor.__get__"))) (htk:W.takesIn K (.builtin "object.__class__")=some true)
   (hm:W.mroIn K C (.type "object")=some true):sV K H (.ref a) (.ref C)
theorem E2{x:V}{u t:Value}(I:Inv X ae σ H s) (rx:bO x u) (ty:sV X.K H x t) (e:W.kitOne X.K t c=some b) (h:∀tk,Q (.bool b) { s with toks:=tk }) :
  wpAny (model X.prog X.w) A (call (.builtin "isinstance") [u,c]) Q E s:=by
 cases ty with
 |non=>cases (show u=WV from rx);exact W.kia_one W.kitx_none I.kIn True.intro e (fun z=>nomatch z) h
 |bl y=>cases (show u=Y3 y from rx);exact W.kia_one W.kitx_bool I.kIn True.intro e (fun z=>nomatch z) h
 |int i=>obtain⟨t,q⟩:=(show ∃t,u=Yp i t from rx);cases q;exact W.kia_one W.kitx_int I.kIn True.intro e (fun z=>nomatch z) h
 |str y=>obtain⟨t,q⟩:=(show ∃t,u=YL y t from rx);cases q;exact W.kia_one W.kitx_str I.kIn True.intro e (fun z=>nomatch z) h
 |flt y=>obtain⟨t,q⟩:=(show ∃t,u=Zq y t from rx);cases q;exact W.kia_one W.kitx_float I.kIn True.intro e (fun z=>nomatch z) h
 | @lst a xs ea =>
  cases (show u=Vw a from rx)
  obtain⟨_,_,n,_,h1⟩:=(show cx X.prog X.w H s.heap a (.lst xs) from I.hok a _ ea)
  exact W.kia_one W.kitx_list I.kIn ⟨_,h1,rfl⟩ e (fun z=>nomatch z) h
 | @frz a ob xs ea =>
  cases (show u=Vw a from rx)
  obtain⟨_,_,_,n,_,h1⟩:=(show cx X.prog X.w H s.heap a (.frz ob (.lst xs)) from I.hok a _ ea)
  exact W.kia_one W.kitx_list I.kIn ⟨_,h1,rfl⟩ e (fun z=>nomatch z) h
 | @tup a xs ea =>
  cases (show u=Vw a from rx)
  obtain⟨_,_,_,p⟩:=(show cx X.prog X.w H s.heap a (.tup xs) from I.hok a _ ea)
  obtain⟨o,h1,h2,_⟩:=p;exact W.kia_one W.kitx_tuple I.kIn ⟨o,h1,h2⟩ e (fun z=>nomatch z) h
 | @dK a az ea =>
  cases (show u=Vw a from rx)
  obtain⟨_,_,vs,_,p⟩:=(show cx X.prog X.w H s.heap a (.dK az) from I.hok a _ ea)
  obtain⟨o,es,ep,h1,h2,_⟩:=p;exact W.kia_one W.kitx_dict I.kIn ⟨o,h1,h2.1⟩ e (fun z=>nomatch z) h
 | @dT a az ea =>
  cases (show u=Vw a from rx)
  obtain⟨_,_,xs,_,o,es,ep,h1,h2,_⟩:=(show cx X.prog X.w H s.heap a (.dT az) from I.hok a _ ea)
  exact W.kia_one W.kitx_dict I.kIn ⟨o,h1,h2.1⟩ e (fun z=>nomatch z) h
 | @ins a C dx fs ea cl ha hn htk hm =>
  cases (show u=Vw a from rx)
  obtain⟨mA,O,_⟩:=tP I.hok ea;obtain⟨od,J,_⟩:=O.look;exact W.kia_one (W.kitx_own (cl.get _) cl.hd ha hn htk hm) I.kIn J e (fun z=>nomatch z) h
end
structure dX (k:Nat) (A:Around):Prop where
 hd:A.handled=none
 dp:A.depth+3*k+5<recursionLimit
 un:A.units+16*k+200<cLine
theorem dX.mono{j k:Nat}{A:Around}(r:dX k A) (h:j<=k):dX j A:=⟨r.hd,by have:=r.dp;lia,by have:=r.un;lia⟩
theorem dX.deeper{k:Nat}{A:Around}(r:dX (k+1) A) (env:Env):dX k (A.deeper env) :=
 ⟨r.hd,by have:=r.dp;show A.depth+1+3*k+5<_;lia,by have:=r.un;show A.units+3+16*k+200<_;lia⟩
theorem BA{A:Around}{C:Addr}{us:List Value}{kw:List (Str×Value)}:(A.under (.builtin "type.__call__" ⟨.ref C::us,kw⟩)).depth=A.depth+1:=by
 first|rfl|simp[Around.under,Code.weight,Code.isCreation,Code.isGuard,Code.isCaller,Code.frames,Code.isFrame,guardIds]
theorem BK{A:Around}{C:Addr}{us:List Value}{kw:List (Str×Value)}:(A.under (.builtin "type.__call__" ⟨.ref C::us,kw⟩)).units=A.units+1:=by
 first|rfl|simp[Around.under,Code.cUnits,Code.frames,Code.isFrame]
theorem dX.make{k:Nat}{A:Around}(r:dX (k+1) A) (C:Addr) (us:List Value) (kw:List (Str×Value)):dX k (A.under (.builtin "type.__call__" ⟨.ref C::us,kw⟩)) :=
 ⟨r.hd,by have:=r.dp;rw[BA];lia,by have:=r.un;rw[BK];lia⟩
theorem dX.depth{k:Nat}{A:Around}(r:dX k A):A.depth<recursionLimit:=by have:=r.dp;lia
theorem dX.units{k:Nat}{A:Around}(r:dX k A):A.units+64<cLine:=by have:=r.un;lia
def jb:TA:=fun _ H Q=>Q [] H
noncomputable def eY(ta:TE) (tr:TA):TA:=fun σ H Q=>ta σ H fun x H1=>tr σ H1 fun xs H2=>Q (x::xs) H2
section
variable {X:Cx}{e:Expr}{es:List Expr}{te:TE}{t:TA}{pos:Pos}
theorem af:PA X [] jb:=fun _ _ _ _ H Q I h=>Calls.spliced_nil ⟨[],H,I,.nil,h⟩
theorem aa(ha:PE X e te) (hr:PA X es t) (hs:starEach (e::es) X.env=(false,eval e X.env)::starEach es X.env:=by rfl):PA X (e::es) (eY te t):=by
 intro pos ae s σ H Q I h;rw[hs];show wpAny _ _ (spliced ((false,eval e X.env)::backTo pos (starEach es X.env))) _ _ s;refine Calls.spliced_cons (dB (ha ae s σ H _ I h) fun u s1 ⟨x,H1,I1,r1,q1⟩=>?_)
 exact dB (hr pos ae s1 σ H1 _ I1 q1) fun us s2 ⟨xs,H2,I2,r2,q2⟩=>⟨x::xs,H2,I2,.cons r1 r2,q2⟩
def Qk(t:TA):TE:=fun σ H Q=>t σ H fun xs H1=>xs.length<=sizeLine/\∀p,H1 p=none->Q (.ref p) (bW H1 p (.tup xs))
def NH(t:TA):TE:=fun σ H Q=>t σ H fun xs H1=>xs.length<=sizeLine/\∀p,H1 p=none->Q (.ref p) (bW H1 p (.lst xs))
theorem kf{x1} (h:PA X es t):PE X (.Tuple es x1 pos) (Qk t):=by
 intro ae s σ H Q I hq;refine wpAny_Tuple_spliced (dB (h pos ae s σ H _ I hq) fun us s1 ⟨xs,H1,I1,r,z,q⟩=>⟨by rw[←r.length];exact z,?_⟩)
 have hf:H1 s1.heap.objs.size=none:=I1.hok.fresh (Vu _);refine⟨.ref s1.heap.objs.size,bW H1 s1.heap.objs.size (.tup xs),I1.laid (t':=s1.toks) (fun b u e=>Vt _ e) (Vu _) ?_,rfl,q _ hf⟩
 exact⟨z,us,r,⟨_,Wa _ rfl,rfl,_,rfl⟩⟩
theorem bS(h:PA X es t):PE X (.List es pos) (NH t):=by
 intro ae s σ H Q I hq;refine wpAny_List_spliced (dB (h pos ae s σ H _ I hq) fun us s1 ⟨xs,H1,I1,r,z,q⟩=>⟨by rw[←r.length];exact z,?_⟩)
 have hf:H1 s1.heap.objs.size=none:=I1.hok.fresh (Vu _);refine⟨.ref s1.heap.objs.size,bW H1 s1.heap.objs.size (.lst xs),I1.laid (t':=s1.toks) (fun b u e=>Vt _ e) (Vu _) ?_,rfl,q _ hf⟩
 exact⟨z,us,0,r,Wa _ rfl⟩
end
abbrev Sp:=List V->Hp->VK->XK->Prop
abbrev zU:=List Env->Hp->Shared->XK->Value->Shared->Prop
structure yH (P:Program) (w:World) (K:W.Frag) (mg:Str->Option Value) (base:Heap) (A:Around) (outer:List Env) (s:Shared) (H:Hp):Prop where
 frames:A.frames=some outer
 mod:Mod K mg base
 bs:∀b o,base.get? b=some o->s.heap.get? b=some o/\H b=none
 bsz:base.objs.size<=s.heap.objs.size
 funs:s.heap.FunFrames base outer
 frf:∀b∈BS outer,H b=none
 hok:mC P w H s.heap
 bare:AllBare s.gens
def CE(outer:List Env) (P:Program) (w:World) (H:Hp) (s:Shared) (Q:VK) (u:Value) (s':Shared):Prop :=
 ∃v H',s'.os=s.os/\AllBare s'.gens/\Un (BS outer) [] H H' s.heap s'.heap/\mC P w H' s'.heap/\bO v u/\Q v H'
def CR(CX:zU) (outer:List Env) (P:Program) (w:World) (H:Hp) (s:Shared) (Q:VK) (E:XK) (r:Result) (s':Shared):Prop :=
 match r with
 | .ok (.ret u)=>CE outer P w H s Q u s'
 | .ok _=>False
 | .error e=>CX outer H s E e s'
structure jx (P:Program) (w:World) (K:W.Frag) (mg:Str->Option Value) (base:Heap) (CX:zU) (k:Nat) (f:Addr) (fd:FuncData) (ps:List Str) (sp:Sp):Prop where
 len:∀vs H Q E,sp vs H Q E->vs.length=ps.length
 run:∀(A:Around) (outer:List Env) (s:Shared) (H:Hp) (args:Args) (us:List Value) (vs:List V) (Q:VK) (E:XK),dX k A->yH P w K mg base A outer s H->BindsTo s fd args (ps.zip us)->bq vs us->sp vs H Q E ->
  codeAny (model P w) A (.call (.ref f) args) (CR CX outer P w H s Q E) s
theorem jx.imp{P:Program}{w:World}{K:W.Frag}{mg:Str->Option Value}{base:Heap}{CX:zU}{k:Nat}{f:Addr}{fd:FuncData}{ps:List Str}{sp sp':Sp}(F:jx P w K mg base CX k f fd ps sp)
  (h:∀vs H Q E,sp' vs H Q E->sp vs H Q E):jx P w K mg base CX k f fd ps sp' :=
 ⟨fun vs H Q E q=>F.len vs H Q E (h _ _ _ _ q),fun A outer s H args us vs Q E hr he hb hv hs=>F.run A outer s H args us vs Q E hr he hb hv (h _ _ _ _ hs)⟩
theorem yH.make{P:Program}{w:World}{K:W.Frag}{mg:Str->Option Value}{base:Heap}{A:Around}{outer:List Env}{s:Shared}{H:Hp}(e:yH P w K mg base A outer s H) (C:Addr) (us:List Value) (kw:List (Str×Value)) :
  yH P w K mg base (A.under (.builtin "type.__call__" ⟨.ref C::us,kw⟩)) outer s H:=⟨by first|exact e.frames|(simpa [Around.under,Code.envs,Code.isFrame,pushEnvs] using e.frames),e.mod,e.bs,e.bsz,e.funs,e.frf,e.hok,e.bare⟩
section
variable {X:Cx}{ae:List (Addr×Obj)}{σ:St}{H:Hp}{s s':Shared}
theorem Inv.env0(I:Inv X ae σ H s):yH X.prog X.w X.K X.mg X.base X.A X.stack s H :=
 ⟨I.ok.frames,I.ok.mod,I.bs,Wi I.ok.bsz I.sz,I.stack,I.stkFree,I.hok,I.bare⟩
theorem Inv.after{Q:VK}{u:Value}(I:Inv X ae σ H s) (h:CE X.stack X.prog X.w H s Q u s'):EP X ae σ Q u s':=by
 obtain⟨v,H',os,bare,un,hok,r,q⟩:=h;obtain⟨hh,g,d,t,os'⟩:=s';obtain rfl:os'=s.os:=os;exact⟨v,H',I.call (h':=hh) (g':=g) (d':=d) (t':=t) (ch:=[]) un hok bare (fun b z=>absurd z (by simp)),r,q⟩
end
noncomputable def jR(sp:Sp) (dvs:List V) (E:XK) (t:TA):TE:=fun σ H Q=>t σ H fun vs H1=>sp (vs++dvs) H1 Q E
def Mu(C:Addr) (m:Str) (sp:Sp) (dvs:List V) (E:XK) (ta:TE) (t:TA):TE:=fun σ H Q=>ta σ H fun x H1=>∃a dx fs,x = .ref a/\H1 a=some (.ins C dx fs)/\fs.lookup m=none /\
 t σ H1 fun vs H2=>sp (x::(vs++dvs)) H2 Q E
def HI(C:Addr) (sp:Sp) (dvs:List V) (E:XK) (t:TA):TE:=fun σ H Q=>t σ H fun vs H1=>∀x dx,H1 x=none->H1 dx=none->dx≠x ->
 sp (.ref x::(vs++dvs)) (bW (bW H1 dx (.own x)) x (.ins C dx [])) (fun v H2=>v = .non/\Q (.ref x) H2) E
def dY(K:W.Frag) (fd:FuncData) (ps:List Str) (ds:List Value):Prop :=
 ∀(s:Shared) (us:List Value),K.In s.heap->(us++ds).length=ps.length->BindsTo s fd ⟨us,[]⟩ (ps.zip (us++ds))
theorem dY.all{K:W.Frag}{fd:FuncData}{ps:List Str}(h:∀us:List Value,us.length=ps.length->bindArgs fd ⟨us,[]⟩=pure (ps.zip us)):dY K fd ps []:=fun s us _ hl=>by
 rw[aNq]at hl ⊢;exact .of_eq (h us hl)
def iK(CX:zU) (X:Cx) (E:XK):Prop:=∀(ae:List (Addr×Obj)) (σ:St) (H:Hp) (s:Shared) (e:Value) (s':Shared),Inv X ae σ H s->CX X.stack H s E e s'->X.xe e s'
section
variable {X:Cx}{CX:zU}{k:Nat}{f C:Addr}{fd:FuncData}{ps:List Str}{sp:Sp}{dvs:List V}{ds:List Value}{E:XK}{x m:Str}{p pos apos:Pos}{e o:Expr}{es:List Expr}{ta:TE}{t:TA}
theorem Bd{ae:List (Addr×Obj)}{σ:St}{H:Hp}{s:Shared}{Q:VK}{us:List Value}{vs:List V}(F:jx X.prog X.w X.K X.mg X.base CX k f fd ps sp) (hr:dX k X.A) (hb:dY X.K fd ps ds) (hd:bq dvs ds) (hx:iK CX X E)
  (I:Inv X ae σ H s) (r:bq vs us) (h:sp (vs++dvs) H Q E):wpAny (model X.prog X.w) X.A (call (.ref f) us) (EP X ae σ Q) X.xe s:=by
 have r2:bq (vs++dvs) (us++ds):=r.append hd;have hl:(us++ds).length=ps.length:=by rw[←r2.length];exact F.len _ _ _ _ h
 refine wpAny_call (codeAny_mono (F.run X.A X.stack s H ⟨us,[]⟩ (us++ds) (vs++dvs) Q E hr I.env0 (hb s us I.kIn hl) r2 h) fun r s' hq=>?_)
 cases r with
 |error e=>exact hx ae σ H s e s' I hq
 |ok fl =>
  cases fl with
  |ret u=>exact I.after hq
  |next=>exact False.elim hq
  |brk=>exact False.elim hq
  |cont=>exact False.elim hq
theorem Cv(F:jx X.prog X.w X.K X.mg X.base CX k f fd ps sp) (hr:dX k X.A) (hg:Gl X x) (hm:X.mg x=some (.ref f)) (hk:W.keepIn X.K (.ref f)=true) (hb:dY X.K fd ps ds) (hd:bq dvs ds) (hx:iK CX X E)
  (ha:PA X (e::es) t) (hdb:(x == ("__debug__" : Str))=false:=by decide) (he:starEach (e::es) X.env=(false,eval e X.env)::starEach es X.env:=by rfl) (hpl:(backTo pos (starEach es X.env)).any (·.1)=false:=by rfl) :
  PE X (.Call (.Name x p) (e::es) [] pos) (jR sp dvs E t):=by
 intro ae s σ H Q I h;refine wpAny_Call_Name_kw (jT I hg hm ?_ hdb);refine W.callWith_K (h₀:=X.base) I.ok.mod.kin hk (dB (ha pos ae s σ H _ I h) fun us s1 ⟨vs,H1,I1,r,q⟩=>⟨I1.kIn,?_⟩) he hpl
 exact Bd F hr hb hd hx I1 r q
theorem J6{pl:Sem Bool}(he:PE X o ta) (c:Ah X.K C) (hm:uZ X.K C m f) (F:jx X.prog X.w X.K X.mg X.base CX k f fd ps sp) (hr:dX k X.A) (hb:dY X.K fd ps ds) (hd:bq dvs ds) (hx:iK CX X E) (ha:PA X (e::es) t)
  (hst:starEach (e::es) X.env=(false,eval e X.env)::starEach es X.env:=by rfl) (hpl:(backTo pos (starEach es X.env)).any (·.1)=false:=by rfl)
  (ht:eval (.Call (.Attribute o m apos) (e::es) [] pos) X.env=(do
   let ov ←eval o X.env
   standAt apos.atName
   let (f,first) ←holding [ov] (getMethod ov m pl)
   callWith pos f first (backTo pos (starEach (e::es) X.env)) (backToKw pos (keywordEach [] X.env))):=by rfl) :
  PE X (.Call (.Attribute o m apos) (e::es) [] pos) (Mu C m sp dvs E ta t):=by
 intro ae s σ H Q I h;refine W.methodCall_KW (pl:=pl) (dB (he ae s σ H _ I h) fun u s1 ⟨x,H1,I1,rx,a,dx,fs,ex,ea,l,q⟩=>?_) ht
 subst ex;obtain rfl:u=Vw a:=rx;refine oQ I1 ea c hm l ?_;refine W.callWith_K (first:=[.ref a]) (h₀:=X.base) I.ok.mod.kin hm.kp (dB (ha pos ae s1 σ H1 _ I1 q) fun us s2 ⟨vs,H2,I2,r,q2⟩=>⟨I2.kIn,?_⟩) hst hpl
 exact Bd (us:=.ref a::us) (vs:=.ref a::vs) F hr hb hd hx I2 (.cons rfl r) q2
theorem Ig{pl:Sem Bool}(he:PE X o ta) (c:Ah X.K C) (hm:uZ X.K C m f) (F:jx X.prog X.w X.K X.mg X.base CX k f fd ps sp) (hr:dX k X.A) (hb:dY X.K fd ps ds) (hd:bq dvs ds) (hx:iK CX X E)
  (ht:eval (.Call (.Attribute o m apos) [] [] pos) X.env=(do
   let ov ←eval o X.env
   standAt apos.atName
   let (f,first) ←holding [ov] (getMethod ov m pl)
   callWith pos f first (backTo pos (starEach [] X.env)) (backToKw pos (keywordEach [] X.env))):=by rfl) :
  PE X (.Call (.Attribute o m apos) [] [] pos) (Mu C m sp dvs E ta jb):=by
 intro ae s σ H Q I h;refine W.methodCall_KW (pl:=pl) (dB (he ae s σ H _ I h) fun u s1 ⟨x,H1,I1,rx,a,dx,fs,ex,ea,l,q⟩=>?_) ht
 subst ex;obtain rfl:u=Vw a:=rx;refine oQ I1 ea c hm l ?_;exact W.callWith_K0 (first:=[.ref a]) I1.kIn hm.kp (Bd (us:=[.ref a]) (vs:=[.ref a]) F hr hb hd hx I1 (.cons rfl .nil) q)
structure Mk (K:W.Frag) (C f:Addr):Prop where
 makes:W.makesIn K C=true
 init:W.findIn K (.ref C) "__init__" = some (some (.ref f))
 fn:W.isFn K (.ref f)=true
 kp:W.keepIn K (.ref C)=true
theorem Iz{ae:List (Addr×Obj)}{σ:St}{H:Hp}{s:Shared}{Q:VK}{us:List Value}{vs:List V}(M:Mk X.K C f) (F:jx X.prog X.w X.K X.mg X.base CX k f fd ps sp) (hr:dX (k+1) X.A) (hb:dY X.K fd ps ds) (hd:bq dvs ds)
  (hx:iK CX X E) (I:Inv X ae σ H s) (r:bq vs us)
  (h:∀x dx,H x=none->H dx=none->dx≠x->sp (.ref x::(vs++dvs)) (bW (bW H dx (.own x)) x (.ins C dx [])) (fun v H2=>v = .non/\Q (.ref x) H2) E) :
  wpAny (model X.prog X.w) X.A (call (.ref C) us) (EP X ae σ Q) X.xe s:=by
 have hq:=h (s.heap.objs.size+1) s.heap.objs.size (I.hok.fresh (WC _)) (I.hok.fresh (Vu _)) (VO (WY _));have I2:=Inv.made (C:=C) I;have r2:bq (V.ref (s.heap.objs.size+1)::(vs++dvs)) (Vw (s.heap.objs.size+1)::(us++ds)):=.cons rfl (r.append hd);have hl:(Vw (s.heap.objs.size+1)::us++ds).length=ps.length:=by
  have e:=r2.length;rw[F.len _ _ _ _ hq]at e;exact e.symm
 refine wpAny_call (JJ (f:=f) I.kIn M.makes M.init (beq_iff_eq.mp M.fn) (codeAny_mono (F.run _ X.stack _ _ ⟨Vw (s.heap.objs.size+1)::us,[]⟩ (Vw (s.heap.objs.size+1)::(us++ds)) _ _ E (hr.make C us [])
  (I2.env0.make C us []) (hb _ (Vw (s.heap.objs.size+1)::us) I2.kIn hl) r2 hq) fun r s' hq'=>?_))
 cases r with
 |error e=>exact hx ae σ _ _ e s' I2 hq'
 |ok fl =>
  cases fl with
  |ret u =>
   obtain⟨v,H',I3,rv,ev,q3⟩:=I2.after hq';subst ev;exact⟨rv,⟨V.ref (s.heap.objs.size+1),H',I3,rfl,q3⟩⟩
  |next=>exact False.elim hq'
  |brk=>exact False.elim hq'
  |cont=>exact False.elim hq'
theorem JX(M:Mk X.K C f) (F:jx X.prog X.w X.K X.mg X.base CX k f fd ps sp) (hr:dX (k+1) X.A) (hg:Gl X x) (hm:X.mg x=some (.ref C)) (hb:dY X.K fd ps ds) (hd:bq dvs ds) (hx:iK CX X E)
  (ha:PA X (e::es) t) (hdb:(x == ("__debug__" : Str))=false:=by decide) (he:starEach (e::es) X.env=(false,eval e X.env)::starEach es X.env:=by rfl) (hpl:(backTo pos (starEach es X.env)).any (·.1)=false:=by rfl) :
  PE X (.Call (.Name x p) (e::es) [] pos) (HI C sp dvs E t):=by
 intro ae s σ H Q I h;refine wpAny_Call_Name_kw (jT I hg hm ?_ hdb);refine W.callWith_K (h₀:=X.base) I.ok.mod.kin M.kp (dB (ha pos ae s σ H _ I h) fun us s1 ⟨vs,H1,I1,r,q⟩=>⟨I1.kIn,?_⟩) he hpl
 exact Iz M F hr hb hd hx I1 r q
end
structure aR (N P:List Str) (sc:Scope):Prop where
 kind:sc.kind = .function
 co:sc.isCoroutine=false
 gen:sc.isGenerator=false
 nd:N.Nodup
 pre:N.take P.length=P
 par:∀x∈P,sc.names.lookup x=some .local∨sc.names.lookup x=some .cell
 nofree:∀y∈sc.names,y.2 ≠ .free
theorem wu{kindOf:Str->Option NameKind}{x:Str}:∀{binds:List (Str×Value)}{m:Str->Option Value},(∀v,(x,v)∉binds)->bindL kindOf binds m x=m x
 | [],_,_=>rfl
 | (n,v)::r,m,h=>by
  unfold bindL;rw[wu fun w hw=>h w (mCo _ hw)]
  split
  .have:x≠n:=by rintro rfl;exact h v V0
   simp[this]
  .rfl
theorem wR{kindOf:Str->Option NameKind}{x:Str}:∀{binds:List (Str×Value)}{m:Str->Option Value},(∀v,(x,v)∉binds)->bindC kindOf binds m x=m x
 | [],_,_=>rfl
 | (n,v)::r,m,h=>by
  unfold bindC;rw[wR fun w hw=>h w (mCo _ hw)]
  split
  .rfl
  .have:x≠n:=by rintro rfl;exact h v V0
   simp[this]
theorem rH{kindOf:Str->Option NameKind}{x:Str}{v:Value}:∀{P:List Str}{vs:List Value}{i:Nat}{m:Str->Option Value},P.Nodup->P[i]?=some x->vs[i]?=some v->kindOf x=some .local ->
  bindL kindOf (P.zip vs) m x=some v
 | [],_,_,_,_,h,_,_=>by simp at h
 |_::_,[],_,_,_,_,h,_=>by simp at h
 |p::P,w::vs,0,m,nd,h1,h2,hk=>by
  simp at h1 h2;subst h1;subst h2;show bindL kindOf ((p,w)::P.zip vs) m p=_;unfold bindL;rw[wu fun v hv=>(Vx.mp nd).1 (Ye hv).1,if_pos hk]
  simp
 |p::P,w::vs,i+1,m,nd,h1,h2,hk=>by
  show bindL kindOf ((p,w)::P.zip vs) m x=_;unfold bindL;exact rH (i:=i) (Vx.mp nd).2 (by simpa using h1) (by simpa using h2) hk
theorem rD{kindOf:Str->Option NameKind}{x:Str}{v:Value}:∀{P:List Str}{vs:List Value}{i:Nat}{m:Str->Option Value},P.Nodup->P[i]?=some x->vs[i]?=some v->kindOf x≠some .local ->
  bindC kindOf (P.zip vs) m x=some v
 | [],_,_,_,_,h,_,_=>by simp at h
 |_::_,[],_,_,_,_,h,_=>by simp at h
 |p::P,w::vs,0,m,nd,h1,h2,hk=>by
  simp at h1 h2;subst h1;subst h2;show bindC kindOf ((p,w)::P.zip vs) m p=_;unfold bindC;rw[wR fun v hv=>(Vx.mp nd).1 (Ye hv).1,if_neg hk]
  simp
 |p::P,w::vs,i+1,m,nd,h1,h2,hk=>by
  show bindC kindOf ((p,w)::P.zip vs) m x=_;unfold bindC;exact rD (i:=i) (Vx.mp nd).2 (by simpa using h1) (by simpa using h2) hk
noncomputable def eQ(N:List Str) (vs:List V):St:=vs.map some++VM (N.length-vs.length) none
noncomputable def xK(CX:zU) (P:Program) (w:World) (K:W.Frag) (mg:Str->Option Value) (base:Heap) (N:List Str) (qual:Str) (scope:Scope) (f:Addr) (cd:Value) (A:Around) (outer:List Env) (s:Shared) (H:Hp) (E:XK):Cx where
 prog:=P
 w:=w
 K:=K
 mg:=mg
 base:=base
 A:=A.deeper (envOfC qual scope s.heap.objs.size f cd)
 N:=N
 s₀:=s
 H₀:=H
 env:=envOfC qual scope s.heap.objs.size f cd
 outer:=outer
 stack:=envOfC qual scope s.heap.objs.size f cd::outer
 ex:=[]
 calm:=true
 fn:=fun _=>true
 pn:=[]
 xe:=fun e s'=>wpAny (model P w) (A.deeper (envOfC qual scope s.heap.objs.size f cd)) (leaving (envOfC qual scope s.heap.objs.size f cd) e) (fun _ s''=>CX outer H s E e s'') (fun e' s''=>CX outer H s E e' s'') s'
theorem ph{sc:Scope}{n:Nat}{x:Str}(h:sc.names.lookup x=some .cell):∃c,(cellsFrom n sc.names []).lookup x=some c:=by
 have q:=W.cellsFrom_some sc.names n [] (.inl h);exact Option.isSome_iff_exists.mp q
theorem EL{CX:zU}{P:Program}{w:World}{K:W.Frag}{mg:Str->Option Value}{base:Heap}{N ps:List Str}{qual:Str}{scope:Scope}{f:Addr}{cd:Value}{A:Around}{outer:List Env}{s s1:Shared}{H:Hp}{E:XK}{us:List Value}{vs:List V}
  (S:aR N ps scope) (hd:A.handled=none) (e0:yH P w K mg base A outer s H) (hl:vs.length=ps.length) (r:bq vs us)
  (x:InCallC s s.heap.objs.size (bindL (envOfC qual scope s.heap.objs.size f cd).kindOf (ps.zip us) fun _=>none) (cellsFrom (s.heap.objs.size+1) scope.names []) (bindC (envOfC qual scope s.heap.objs.size f cd).kindOf (ps.zip us) fun _=>none) s1) :
  Inv (xK CX P w K mg base N qual scope f cd A outer s H E) [] (eQ N vs) H s1:=by
 have hpl:ps.length<=N.length:=by have:=congrArg WR S.pre;rw[lTq]at this;lia
 obtain⟨h1,tk,rfl,hk⟩:=x.done;have noA:∀b:Addr,b∉(xK CX P w K mg base N qual scope f cd A outer s H E).ex:=fun b z=>absurd (show b∈([]:List Addr) from z) (by simp)
 refine⟨⟨e0.mod,S.kind,rfl,rfl,Vu _,fun y z c h1 h2=>?_,fun y hy=>?_,fun y c _ h=>?_,fun _=>hd,Around.frames_deeper e0.frames,.inr ⟨rfl,rfl⟩,fun b z=>absurd z (noA b),e0.bs,e0.bsz,fun b _ _=>noA b,fun b z=>absurd z (noA b),e0.funs,e0.frf⟩,
  rfl,e0.bare,Un.kept hk,⟨_,x.toInCall.ns,fun i y v h1 h2 h3=>?_⟩,fun y c h=>⟨_,x.cell y c h⟩,e0.hok.fresh (Vu _),fun y c h=>?_,fun p hp=>absurd (show p∈([]:List (Addr×Obj)) from hp) (by simp),e0.hok.kept hk,?_⟩
 .exact name_of_addr x.apart (PySem.mem_of_lookup h1) (PySem.mem_of_lookup h2)
 .have hy:scope.names.lookup y=some .cell∨scope.names.lookup y=some .free:=hy;rcases hy with hy|hy
  .exact ph hy
  .exact absurd rfl (S.nofree _ (PySem.mem_of_lookup hy))
 .exact Wu (x.above y c (PySem.mem_of_lookup h))
 .have hi:i<vs.length:=by
   unfold eQ at h2
   by_cases hi:i<vs.length
   .exact hi
   .rw [gYq (by simpa using hi)]at h2
    rw[Wz]at h2;split at h2 <;> cases h2
  have ha:vs[i]?=some v:=by
   unfold eQ at h2;rw[gZq (by simpa using hi),gMq]at h2
   cases e:vs[i]? with
   |none=>rw[e]at h2;cases h2
   |some a=>rw[e]at h2;cases h2;rfl
  obtain⟨u,hu,rv⟩:=r.get ha;have hp:ps[i]?=some y:=by
   rw[←S.pre,Ww (by lia)];exact h1
  have ndP:ps.Nodup:=by rw[←S.pre];exact S.nd.sublist (Wc _ _)
  refine⟨u,rv,?_⟩;rcases S.par y (mGq hp) with k|k
  .exact .inl ⟨k,rH ndP hp hu k⟩
  .obtain ⟨c,e⟩:=ph (n:=s.heap.objs.size+1) k;refine .inr ⟨.inl k,c,e,?_⟩;have q:=x.cell y c e;rw[rD ndP hp hu (by show scope.names.lookup y≠_;rw[k];decide)]at q
   exact q
 .exact e0.hok.fresh (Wu (x.above y c (PySem.mem_of_lookup h)))
 .unfold eQ;show _=N.length;rw[lAq,lMq,Xu];lia
theorem M0{CX:zU}{P:Program}{w:World}{K:W.Frag}{mg:Str->Option Value}{base:Heap}{k:Nat}{f:Addr}{name qual:Str}{params:Arguments}{body:List Stmt}{scope:Scope}{dV kV doc pm ee ct oc:Value}{an od:Option Addr}
  {osl:Array (Option Value)}{N ps:List Str}{sp:Sp}(lk:K.lookup f=some ⟨oc,od,.func (W.fnOf name qual params body scope dV kV doc pm an ee ct),osl⟩) (hcd:W.codeIn K ee qual=true) (S:aR N ps scope)
  (len:∀vs H Q E,sp vs H Q E->vs.length=ps.length)
  (hbody:∀(A:Around) (outer:List Env) (s:Shared) (H:Hp) (vs:List V) (Q:VK) (E:XK),dX k (A.deeper (envOfC qual scope s.heap.objs.size f ee))->sp vs H Q E ->
   ∃t,Au (xK CX P w K mg base N qual scope f ee A outer s H E) body t/\t { nx:=fun _ H'=>Q .non H',rt:=Q } (eQ N vs) H) :
  jx P w K mg base CX (k+1) f (W.fnOf name qual params body scope dV kV doc pm an ee ct) ps sp:=by
 refine⟨len,fun A outer s H args us vs Q E hr e0 hb r hsp=>?_⟩
 have hl:=len _ _ _ _ hsp;have KX:K.In s.heap:=e0.mod.kin.keeps fun b o e=>(e0.bs b o e).1
 have lim:s.heap.NoLimit:=e0.mod.nolimit.keeps fun b o e=>(e0.bs b o e).1
 have hkind:∀y∈ps.zip us,scope.names.lookup y.1=some .local∨(scope.names.lookup y.1=some .cell/\((cellsFrom (s.heap.objs.size+1) scope.names []).lookup y.1).isSome=true):=fun⟨n,v⟩ hy=>by
  rcases S.par n (Ye hy).1 with q|q
  .exact .inl q
  .exact .inr ⟨q,W.cellsFrom_some _ _ _ (.inl q)⟩
 refine codeAny_call_function hr.depth (KX _ _ lk) rfl S.co S.gen rfl (W.codeRec_of KX hcd) (hb _ _ _ _ ?_);refine wpAny_newFunctionEnv_cells S.kind hkind fun env he s1 x=>?_
 subst he;refine⟨lim.keeps x.toInCall.keep,codeAny_func ?_⟩;obtain⟨t,ht,hq⟩:=hbody A outer s H vs Q E (hr.deeper _) hsp;have I:Inv (xK CX P w K mg base N qual scope f ee A outer s H E) [] (eQ N vs) H s1:=EL S hr.hd e0 hl r x;refine wpAny_mono (ht [] s1 (eQ N vs) H _ I hq) (fun fl s' hs=>?_) fun e s' hs=>hs
 have fin:∀{σ':St}{H':Hp}{v:V}{u:Value},Inv (xK CX P w K mg base N qual scope f ee A outer s H E) [] σ' H' s'->bO v u->Q v H'->CE outer P w H s Q u s' :=
  fun {σ' H' v u} J rv q=>⟨v,H',J.os,J.bare,J.base,J.hok,rv,q⟩
 cases fl with
 |ret u =>
  obtain⟨v,σ',H',J,rv,q⟩:=hs;exact fin J rv q
 |next =>
  obtain⟨σ',H',J,q⟩:=hs;exact fin (v:=V.non) (u:=WV) J rfl q
 |brk =>
  obtain⟨_,_,_,q⟩:=hs;exact False.elim q
 |cont =>
  obtain⟨_,_,_,q⟩:=hs;exact False.elim q
section
variable {X:Cx}{x:Str}{p pos:Pos}{e:Expr}{es:List Expr}{t:TA}{id T:String}{r:List V->Hp->VK->Prop}
noncomputable def OB(r:List V->Hp->VK->Prop) (t:TA):TE:=fun σ H Q=>t σ H fun vs H1=>r vs H1 Q
theorem aU(hc:eG X (.builtin id) r) (hg:Gl X x) (hm:X.mg x=none) (hv:bootBuiltins x=some (.builtin id)) (ha:PA X (e::es) t) (hn:x ≠ "__name__" := by decide) (hdb:(x == ("__debug__" : Str))=false:=by decide)
  (he:starEach (e::es) X.env=(false,eval e X.env)::starEach es X.env:=by rfl) (hpl:(backTo pos (starEach es X.env)).any (·.1)=false:=by rfl):PE X (.Call (.Name x p) (e::es) [] pos) (OB r t):=by
 intro ae s σ H Q I h;refine wpAny_Call_Name_kw (uf I hg hm hv ?_ hn hdb);exact Yb (dB (ha pos ae s σ H _ I h) fun us s1 ⟨vs,H1,I1,r1,q1⟩=>hc ae s1 σ H1 vs us Q I1 r1 q1) he hpl
theorem Ef(hc:eG X (.type T) r) (hg:Gl X x) (hm:X.mg x=none) (hv:bootBuiltins x=some (.type T)) (ha:PA X (e::es) t) (hn:x ≠ "__name__" := by decide) (hdb:(x == ("__debug__" : Str))=false:=by decide)
  (he:starEach (e::es) X.env=(false,eval e X.env)::starEach es X.env:=by rfl) (hpl:(backTo pos (starEach es X.env)).any (·.1)=false:=by rfl):PE X (.Call (.Name x p) (e::es) [] pos) (OB r t):=by
 intro ae s σ H Q I h;refine wpAny_Call_Name_kw (uf I hg hm hv ?_ hn hdb);exact Xy (dB (ha pos ae s σ H _ I h) fun us s1 ⟨vs,H1,I1,r1,q1⟩=>hc ae s1 σ H1 vs us Q I1 r1 q1) he hpl
end
end L2
namespace HT
open PySem PyProof.Rows
noncomputable def fi:List Int->List Int->Bool
 | [],[]=>false
 | [],_::_=>true
 |_::_,[]=>false
 |x::xs,y::ys=>if x=y then fi xs ys else decide (x<y)
theorem lJ(x y:Int) (xs ys:List Int):fi (x::xs) (y::ys)=if x=y then fi xs ys else decide (x<y):=rfl
theorem vV:fi [] []=false:=rfl
theorem uI(y:Int) (ys:List Int):fi [] (y::ys)=true:=rfl
theorem uc(x:Int) (xs:List Int):fi (x::xs) []=false:=rfl
theorem GZ(A:Around) (s:Shared) (a:Int) (t:Tok) (c:Int) (u:Tok):∃e,SeqAt.EqAt A s (.int a t) (.int c u) e/\(e=true↔a=c) :=
 ⟨(a == c),SeqAt.EqAt.int_int a t c u,by simp⟩
theorem FZ(A:Around) (s:Shared) (a:Int) (t:Tok) (c:Int) (u:Tok) (prog:Program) (w:World) (E:Value->Shared->Prop) (Q:Value->Shared->Prop) (h:Q (.bool (decide (a<c))) s) :
  wpAny (model prog w) A (richCompare .Lt (.int a t) (.int c u)) Q E s :=
 (ZV h:wpAny (model prog w) A (compareOp .Lt (.int a t) (.int c u)) Q E s)
section
open PySem.SeqAt
open PySem.AutoSeq1 (wpAny_loadPart')
open PySem.MeetsSeq PySem.MeetsSeq2 PySem.MeetsSeq3
end
section
variable {prog:Program}{w:World}{A:Around}{E:Value->Shared->Prop}{s:Shared}
noncomputable def wU(n d:Nat):Option Int->Nat
 |none=>d
 |some v=>if v<0 then (v+(n:Int)).toNat else min v.toNat n
theorem qm(n d:Nat):wU n d none=d:=rfl
theorem nB(n d k:Nat):wU n d (some (k:Int))=min k n:=by
 show (if (k:Int)<0 then ((k:Int)+(n:Int)).toNat else min (k:Int).toNat n)=min k n
 rw[if_neg (by lia),Zh]
end
end HT
namespace L2
open PySem PySem.Spec PyProof.Rows
abbrev TO:=St->Hp->(Option Int->Hp->Prop)->Prop
def PO(X:Cx) (e:Option Expr) (t:TO):Prop :=
 ∀(ae:List (Addr×Obj)) (s:Shared) (σ:St) (H:Hp) (Q:Option Int->Hp->Prop),Inv X ae σ H s->t σ H Q ->
  wpAny (model X.prog X.w) X.A (evalPart e X.env) (fun u s'=>∃o H',Inv X ae σ H' s'/\IsPart u o/\Q o H') X.xe s
def Dk:TO:=fun _ H Q=>Q none H
noncomputable def Ms(t:TE):TO:=fun σ H Q=>t σ H fun x H1=>∃i,x = .int i/\Q (some i) H1
theorem oO{ns:List Int}:∀{us:List Value},bq (ns.map V.int) us->IntsAre us ns:=by
 induction ns with
 |nil=>intro us r;rw[YA]at r;cases r;exact .nil
 |cons n ns ih =>
  intro us r;rw[VG]at r;cases r with
  |cons r1 r2 =>
   obtain⟨t,e⟩:=r1;subst e;exact .cons n t (ih r2)
section
variable {X:Cx}{e:Expr}{te:TE}{lo hi:Option Expr}{tl th:TO}{pos p2:Pos}
theorem gZ:PO X none Dk:=by
 intro ae s σ H Q I h;rw[evalPart_none];exact wpAny_pure ⟨none,H,I,.none,h⟩
theorem fL(h:PE X e te):PO X (some e) (Ms te):=by
 intro ae s σ H Q I hw;rw[evalPart_some];refine dB (h ae s σ H _ I hw) fun u s1 ⟨x,H1,I1,r1,q1⟩=>?_
 obtain⟨i,rfl,q⟩:=q1;obtain⟨t,rfl⟩:=r1;exact⟨some i,H1,I1,.int i t,q⟩
def Uq(X:Cx) (r:V->Option Int->Option Int->Hp->VK->Prop):Prop :=
 ∀(ae:List (Addr×Obj)) (s:Shared) (σ:St) (H:Hp) (x:V) (v vl vu:Value) (lo hi:Option Int) (sl:Addr) (Q:VK),Inv X ae σ H s->bO x v->s.heap.IsSliceOf sl vl vu .none->IsPart vl lo->IsPart vu hi->r x lo hi H Q ->
  ∃T id,typeLookup (.type T) "__getitem__" = pure (some (.builtin id))/\s.TypeIs v T/\wpAny (model X.prog X.w) X.A (getItem v (.ref sl)) (EP X ae σ Q) X.xe s
def Ud(r:V->Option Int->Option Int->Hp->VK->Prop) (te:TE) (tl th:TO):TE:=fun σ H Q=>te σ H fun x H1=>tl σ H1 fun l H2=>th σ H2 fun u H3=>r x l u H3 Q
theorem eV{r:V->Option Int->Option Int->Hp->VK->Prop}(hr:Uq X r) (he:PE X e te) (hl:PO X lo tl) (hu:PO X hi th):PE X (.Subscript e (.Slice lo hi none p2) pos) (Ud r te tl th):=by
 intro ae s σ H Q I h;refine Subscript_ (dB (he ae s σ H _ I h) fun v s1 ⟨x,H1,I1,r1,q1⟩=>?_)
 refine wpAny_Slice (dB (hl ae s1 σ H1 _ I1 q1) fun vl s2 ⟨l,H2,I2,pl,q2⟩=>dB (hu ae s2 σ H2 _ I2 q2) fun vu s3 ⟨u,H3,I3,pu,q3⟩=>?_)
 rw[evalPart_none];refine wpAny_pure ?_;have I4:Inv X ae σ H3 { s3 with heap:=s3.heap.push { cls:=.type "slice", data:=.fields #[vl,vu,.none] } }:=I3.kept (t':=s3.toks) fun b ob q=>Vt _ q
 obtain⟨T,id,hT,ht,hg⟩:=hr ae { s3 with heap:=s3.heap.push { cls:=.type "slice", data:=.fields #[vl,vu,.none] } } σ H3 x v vl vu l u s3.heap.objs.size Q I4 r1 (Heap.IsSliceOf.new ..) pl pu q3
 show wpAny (model X.prog X.w) X.A (subscriptTail e (.Slice lo hi none p2) v (.ref s3.heap.objs.size)) (EP X ae σ Q) X.xe { s3 with heap:=s3.heap.push { cls:=.type "slice", data:=.fields #[vl,vu,.none] } }
 exact tail_any (ops:=[.ref s3.heap.objs.size,v]) ht hT hg (by with_unfolding_all rfl)
def A7(xs:List V) (lo hi:Option Int):List V:=(xs.drop (HT.wU xs.length 0 lo)).take (HT.wU xs.length xs.length hi-HT.wU xs.length 0 lo)
theorem AR(xs:List V) (lo hi:Option Int):(A7 xs lo hi).length<=xs.length:=by
 unfold A7;rw[lTq,VI];lia
end
noncomputable def yT(n:Nat) (i:Int):Option Nat:=if 0<=i then (if i<n then some i.toNat else none) else if -(n:Int)<=i then some (i+n).toNat else none
def atI{α:Type}(xs:List α) (i:Int):Option α:=(yT xs.length i).bind fun j=>xs[j]?
theorem Cw{n:Nat}{i:Int}{j:Nat}(h:yT n i=some j):seqIndex? i n=some j/\j<n/\-(n:Int)<=i/\i<n:=by
 unfold yT at h
 by_cases h0:0<=i
 .rw [if_pos h0]at h
  by_cases h1:i<n
  .rw [if_pos h1]at h;have e:i.toNat=j:=V2.inj h;exact⟨by rw[seqIndex_of h0 h1,e],by lia,by lia,h1⟩
  .rw [if_neg h1]at h;cases h
 .rw [if_neg h0]at h
  by_cases h1:-(n:Int)<=i
  .rw [if_pos h1]at h;have e:(i+n).toNat=j:=V2.inj h;exact⟨by rw[seqIndex_neg (by lia) h1,e],by lia,h1,by lia⟩
  .rw [if_neg h1]at h;cases h
theorem DE{α:Type}{xs:List α}{i:Int}{v:α}(h:atI xs i=some v):∃j,seqIndex? i xs.length=some j/\xs[j]?=some v/\j<xs.length/\-(xs.length:Int)<=i/\i<xs.length:=by
 unfold atI at h;cases e:yT xs.length i with
 |none=>rw[e]at h;cases h
 |some j =>
  rw[e]at h;obtain⟨h1,h2,h3,h4⟩:=Cw e;exact⟨j,h1,h,h2,h3,h4⟩
theorem qE{α:Type}{xs:List α}{j:Nat}{v:α}(h:xs[j]?=some v):atI xs (j:Int)=some v:=by
 have hj:j<xs.length:=(gSq.mp h).1;have e:yT xs.length (j:Int)=some j:=by
  unfold yT;rw[if_pos (by lia),if_pos (by lia)];simp
 unfold atI;rw[e];exact h
theorem vc{α:Type}(xs:List α) (v:α):atI (xs++[v]) (-1)=some v:=by
 have hl:(xs++[v]).length=xs.length+1:=by simp
 have e:yT (xs++[v]).length (-1)=some xs.length:=by
  unfold yT;rw[hl,if_neg (by decide),if_pos (by lia)]
  congr 1;lia
 unfold atI;rw[e];show (xs++[v])[xs.length]?=some v;simp
def Kw(b:Expr):Prop:=∀o i,subscripted b false o i=operate [o,i] (getItem o i)
def KD(X:Cx) (r:R2):Prop :=
 ∀(value slice:Expr) (ae:List (Addr×Obj)) (s:Shared) (σ:St) (H:Hp) (x y:V) (v u:Value) (Q:VK),Inv X ae σ H s->bO x v->bO y u->r x y H Q ->
  subscripted slice false v u=operate [v,u] (getItem v u)->wpAny (model X.prog X.w) X.A (subscriptTail value slice v u) (EP X ae σ Q) X.xe s
def Qu(X:Cx) (id:String) (r:V->List V->Hp->VK->Prop):Prop :=
 ∀(ae:List (Addr×Obj)) (s:Shared) (σ:St) (H:Hp) (x:V) (xs:List V) (v:Value) (us:List Value) (Q:VK),Inv X ae σ H s->bO x v->bq xs us->r x xs H Q ->
  wpAny (model X.prog X.w) X.A (call (.builtin id) (v::us)) (EP X ae σ Q) X.xe s
section
variable {X:Cx}{a b:Expr}{ta tb:TE}{pos:Pos}
theorem KD.or{r r':R2}(h:KD X r) (h':KD X r'):KD X (fun x y H Q=>r x y H Q∨r' x y H Q):=by
 intro value slice ae s σ H x y v u Q I rx ry q hs;rcases q with q|q
 .exact h value slice ae s σ H x y v u Q I rx ry q hs
 .exact h' value slice ae s σ H x y v u Q I rx ry q hs
theorem fY{r:R2}(hr:KD X r) (ha:PE X a ta) (hb:PE X b tb) (hs:Kw b):PE X (.Subscript a b pos) (Lb r ta tb):=by
 intro ae s σ H Q I h;exact Subscript_ (PR ha hb I h fun v u s2 x y H2 I2 rx ry q=>hr a b ae s2 σ H2 x y v u Q I2 rx ry q (hs _ _))
def Fd(K:W.Frag):R2:=fun x y H Q=>∃p xs i v,x = .ref p/\y = .int i/\dJ K H p xs/\atI xs i=some v/\Q v H
def NB(K:W.Frag):R2:=fun x y H Q=>∃p xs i v,x = .ref p/\y = .int i/\vH K H p xs/\atI xs i=some v/\Q v H
theorem cL:KD X (Fd X.K):=by
 intro value slice ae s σ H x y v u Q I rx ry h hs;obtain⟨p,xs,i,z,rfl,rfl,hq,he,q⟩:=h;cases rx;obtain⟨t,rfl⟩:=ry;obtain⟨its,r,pl,hz⟩:=I.list hq;obtain⟨j,h1,h2,h3,h4,h5⟩:=DE he;obtain⟨w,ew,rw'⟩:=r.get h2;have hl:=r.length;have hn:=yv;have fin:EP X ae σ Q w s:=⟨z,H,I,rw',q⟩
 by_cases h0:0<=i
 .have hj:i.toNat=j:=by
   rw[seqIndex_of h0 h5]at h1;exact V2.inj h1
  exact item_listR pl.isList h0 (by lia) (by rw[hj];simpa using ew) fin hs
 .have hj:(i+(its.toArray.size:Int)).toNat=j:=by
   rw[seqIndex_neg (by lia) h4]at h1
   rw[VE,←hl];exact V2.inj h1
  exact subscriptTail_builtinR (x:=w) pl.isList.typeIs slot_list_getitem.lookup
   (wpAny_getItem_list_neg (Q:=fun r s'=>r=w/\EP X ae σ Q r s') pl.isList (by lia) (by rw[VE] <;> lia) (by lia) (by rw[hj];simpa using ew) ⟨rfl,fin⟩) hs
theorem IY:KD X (NB X.K):=by
 intro value slice ae s σ H x y v u Q I rx ry h hs;obtain⟨p,xs,i,z,rfl,rfl,hq,he,q⟩:=h;cases rx;obtain⟨t,rfl⟩:=ry;obtain⟨its,r,pl,hz⟩:=I.tuple hq;obtain⟨j,h1,h2,h3,h4,h5⟩:=DE he;obtain⟨w,ew,rw'⟩:=r.get h2;have hl:=r.length;have hn:=yv;have fin:EP X ae σ Q w s:=⟨z,H,I,rw',q⟩;exact subscriptTail_builtinR (x:=w) pl.typeIs slot_tuple_getitem.lookup
  (getItem_tuple (j:=j) (Q:=fun r s'=>r=w/\EP X ae σ Q r s') pl (by lia) (by lia) (by rw[VE,←hl];exact h1) (by simpa using ew) ⟨rfl,fin⟩) hs
theorem xn(lo hi:Option Int) (n:Nat):(sliceBounds lo hi none n).1=((HT.wU n 0 lo:Nat):Int)/\(sliceBounds lo hi none n).2.1=((HT.wU n n hi:Nat):Int)/\(sliceBounds lo hi none n).2.2=1:=by
 refine⟨?_,?_,rfl⟩
 .cases lo with
  |none=>simp[sliceBounds,HT.wU]
  |some i =>
   simp only[sliceBounds,HT.wU,Zr,show (1:Int)>0 by decide,if_true]
   by_cases h:i<0
   .simp only [h,if_true] <;> lia
   .simp only [h,if_false] <;> lia
 .cases hi with
  |none=>simp[sliceBounds,HT.wU]
  |some i =>
   simp only[sliceBounds,HT.wU,Zr,show (1:Int)>0 by decide,if_true]
   by_cases h:i<0
   .simp only [h,if_true] <;> lia
   .simp only [h,if_false] <;> lia
theorem vX(its:List Value) (lo hi:Option Int):slicePick its.toArray lo hi none=((its.drop (HT.wU its.length 0 lo)).take (HT.wU its.length its.length hi-HT.wU its.length 0 lo)).toArray:=by
 obtain⟨h1,h2,h3⟩:=xn lo hi its.toArray.size;unfold slicePick;rw[h1,h2,h3];simp only[sliceRange_one,pick_run,VE] <;> rfl
def QS(K:W.Frag):V->Option Int->Option Int->Hp->VK->Prop:=fun x lo hi H Q=>∃a xs,x = .ref a/\dJ K H a xs/\∀p,H p=none->Q (.ref p) (bW H p (.lst (A7 xs lo hi)))
theorem gE:Uq X (QS X.K):=by
 intro ae s σ H x v vl vu lo hi sl Q I rx hs pl pu h;obtain⟨a,xs,rfl,hx,q⟩:=h;cases rx;obtain⟨its,r,ht,hz⟩:=I.list hx;have hlen:=r.length;refine⟨"list", _,slot_list_getitem.lookup,ht.isList.typeIs,?_⟩;refine wpAny_getItem_list_slice ht.isList hs pl pu .none (by simp) ?_ (by rw[VE] <;> lia)
 rw[vX,←hlen];refine⟨.ref s.heap.objs.size,_,I.laid (t':=s.toks) (o:=.lst (A7 xs lo hi)) (fun b ob q=>Vt _ q) (Vu _) ?_,rfl,q _ (I.hok.fresh (Vu _))⟩
 exact⟨Wi (AR xs lo hi) hz,_,0,(r.drop (HT.wU xs.length 0 lo)).take (HT.wU xs.length xs.length hi-HT.wU xs.length 0 lo),Wa _ rfl⟩
noncomputable def oa:V->Bool
 | .non=>true
 | .bl _=>true
 | .int _=>true
 | .str _=>true
 |_=>false
noncomputable def My:V->V->Bool
 | .non,.non=>true
 | .bl a,.bl b=>a == b
 | .bl a,.int b=>(if a then 1 else 0) == b
 | .int a,.bl b=>a == (if b then 1 else 0)
 | .int a,.int b=>a == b
 | .str a,.str b=>a == b
 |_,_=>false
theorem NY{A:Around}{s:Shared}{y x:V}{u v:Value}(ry:bO y u) (rx:bO x v) (fy:oa y=true) (fx:oa x=true):SeqAt.EqAt A s u v (My y x):=by
 cases y with
 |non =>
  cases ry;cases x with
  |non=>cases rx;exact SeqAt.EqAt.same _
  |bl b=>cases rx;exact SeqAt.EqAt.none_bool b
  |int b=>obtain⟨t,rfl⟩:=rx;exact SeqAt.EqAt.none_int b t
  |str b=>obtain⟨t,rfl⟩:=rx;exact SeqAt.EqAt.none_str b t
  |_=>exact absurd (show false=true from fx) VF
 |bl a =>
  cases ry;cases x with
  |non=>cases rx;exact SeqAt.EqAt.bool_none a
  |bl b=>cases rx;exact SeqAt.EqAt.bool_bool a b
  |int b=>obtain⟨t,rfl⟩:=rx;exact SeqAt.EqAt.bool_int a b t
  |str b=>obtain⟨t,rfl⟩:=rx;exact SeqAt.EqAt.bool_str a b t
  |_=>exact absurd (show false=true from fx) VF
 |int a =>
  obtain⟨t',rfl⟩:=ry;cases x with
  |non=>cases rx;exact SeqAt.EqAt.int_none a t'
  |bl b=>cases rx;exact SeqAt.EqAt.int_bool a t' b
  |int b=>obtain⟨t,rfl⟩:=rx;exact SeqAt.EqAt.int_int a t' b t
  |str b=>obtain⟨t,rfl⟩:=rx;exact SeqAt.EqAt.int_str a t' b t
  |_=>exact absurd (show false=true from fx) VF
 |str a =>
  obtain⟨t',rfl⟩:=ry;cases x with
  |non=>cases rx;exact SeqAt.EqAt.str_none a t'
  |bl b=>cases rx;exact SeqAt.EqAt.str_bool a t' b
  |int b=>obtain⟨t,rfl⟩:=rx;exact SeqAt.EqAt.str_int a t' b t
  |str b=>obtain⟨t,rfl⟩:=rx;exact SeqAt.EqAt.str_str a t' b t
  |_=>exact absurd (show false=true from fx) VF
 |_=>exact absurd (show false=true from fy) VF
def B8(x:V) (u:Value):Bool:=match u with
 | .none=>My .non x
 | .bool b=>My (.bl b) x
 | .int i _=>My (.int i) x
 | .str z _=>My (.str z) x
 |_=>false
theorem G5{x y:V}{u:Value}(r:bO y u) (f:oa y=true):B8 x u=My y x:=by
 cases y with
 |non=>cases r;rfl
 |bl b=>cases r;rfl
 |int i=>obtain⟨t,rfl⟩:=r;rfl
 |str z=>obtain⟨t,rfl⟩:=r;rfl
 |_=>exact absurd (show false=true from f) VF
theorem qF{x:V}:∀{xs:List V}{us:List Value},bq xs us->xs.all oa=true->us.any (B8 x)=xs.any fun y=>My y x
 |_,_,.nil,_=>rfl
 |y::xs,u::us,.cons r t,f=>by
  rw[Y4,WZ]at f;rw[Xm,Xm,G5 r f.1,qF t f.2]
theorem mR{A:Around}{s:Shared}{x:V}{v:Value}(rx:bO x v) (fx:oa x=true):∀{xs:List V}{us:List Value},bq xs us->xs.all oa=true->∀u∈us,SeqAt.EqAt A s u v (B8 x u)
 |_,_,.nil,_=>fun u hu=>by cases hu
 |y::xs,u::us,.cons r t,f=>fun u' hu=>by
  rw[Y4,WZ]at f;rcases VB.mp hu with rfl|hu
  .rw [G5 r f.1];exact NY r rx f.1 fx
  .exact mR rx fx t f.2 u' hu
def P3(x:V) (xs:List V):Bool:=xs.any fun y=>My y x
def Tn(K:W.Frag) (neg:Bool):R2:=fun x y H Q=>∃p xs,y = .ref p/\(dJ K H p xs∨vH K H p xs)/\oa x=true/\xs.all oa=true/\Q (.bl (if neg then !P3 x xs else P3 x xs)) H
theorem xg:wW X (compareOp .In) (Tn X.K false):=by
 intro ae s σ H x y v u Q I rx ry h;obtain⟨p,xs,rfl,hq,fx,fs,q⟩:=h;cases ry;rcases hq with hq|hq
 .obtain ⟨its,r,pl,hz⟩:=I.list hq;refine SeqAt.in_listAt (B8 x) pl.isList (fun w hw=>mR rx fx r fs w (by simpa using hw)) ⟨.bl _,H,I,rfl,?_⟩
  rw[show its.toArray.any (B8 x)=its.any (B8 x) by simp,qF r fs]
  exact q
 .obtain ⟨its,r,pl,hz⟩:=I.tuple hq;refine SeqAt.in_tupleAt (B8 x) pl (fun w hw=>mR rx fx r fs w (by simpa using hw)) ⟨.bl _,H,I,rfl,?_⟩
  rw[show its.toArray.any (B8 x)=its.any (B8 x) by simp,qF r fs]
  exact q
theorem gG:wW X (compareOp .NotIn) (Tn X.K true):=by
 intro ae s σ H x y v u Q I rx ry h;obtain⟨p,xs,rfl,hq,fx,fs,q⟩:=h;cases ry;rcases hq with hq|hq
 .obtain ⟨its,r,pl,hz⟩:=I.list hq;refine SeqAt.notIn_listAt (B8 x) pl.isList (fun w hw=>mR rx fx r fs w (by simpa using hw)) ⟨.bl _,H,I,rfl,?_⟩
  rw[show its.toArray.any (B8 x)=its.any (B8 x) by simp,qF r fs]
  exact q
 .obtain ⟨its,r,pl,hz⟩:=I.tuple hq;refine SeqAt.notIn_tupleAt (B8 x) pl (fun w hw=>mR rx fx r fs w (by simpa using hw)) ⟨.bl _,H,I,rfl,?_⟩
  rw[show its.toArray.any (B8 x)=its.any (B8 x) by simp,qF r fs]
  exact q
theorem eG.or{f:Value}{r r':List V->Hp->VK->Prop}(h:eG X f r) (h':eG X f r'):eG X f (fun xs H Q=>r xs H Q∨r' xs H Q):=by
 intro ae s σ H xs us Q I rs q;rcases q with q|q
 .exact h ae s σ H xs us Q I rs q
 .exact h' ae s σ H xs us Q I rs q
theorem yj:eG X (.type "list") (fun xs H Q=>∃p ys,xs=[.ref p]/\(dJ X.K H p ys∨vH X.K H p ys)/\∀l,H l=none->Q (.ref l) (bW H l (.lst ys))):=by
 intro ae s σ H xs us Q I r h;obtain⟨p,ys,rfl,hq,q⟩:=h;obtain⟨u,rfl,rx⟩:=uz r;cases rx;have fin:∀(its:List Value),bq ys its->ys.length<=sizeLine->∀(h':Heap) (c':Nat),(∀b o',s.heap.get? b=some o'->h'.get? b=some o') ->
   h'.get? s.heap.objs.size=some { cls:=.type "list", dict:=none,data:=.seq its.toArray c',slots:=#[] }->EP X ae σ Q (.ref s.heap.objs.size) { s with heap:=h' }:=fun its r' hz h' c' kp e =>
  ⟨.ref s.heap.objs.size,_,I.laid (t':=s.toks) kp (Vu _) (show cx X.prog X.w _ h' _ (.lst ys) from ⟨hz,its,c',r',e⟩),rfl,q _ (I.hok.fresh (Vu _))⟩
 rcases hq with hq|hq
 .obtain ⟨its,r',pl,hz⟩:=I.list hq;have hlen:=r'.length;obtain⟨o,ho,hc,n,hd⟩:=pl.isList;exact call_list_seq p (.inl rfl) ho hc hd (fun h' c' kp e=>fin its r' hz h' c' kp e) (by simp only[VE] <;> lia)
 .obtain ⟨its,r',pl,hz⟩:=I.tuple hq;have hlen:=r'.length;obtain⟨o,ho,hc,n,hd⟩:=pl;exact call_list_seq p (.inr rfl) ho hc hd (fun h' c' kp e=>fin its r' hz h' c' kp e) (by simp only[VE] <;> lia)
def Sk(K:W.Frag) (T:String) (x:V) (H:Hp):Prop:=match x with
 | .str _=>T = "str"
 | .int _=>T = "int"
 | .ref p=>(T = "list" /\ ∃xs,dJ K H p xs)∨(T = "tuple" /\ ∃o,K.lookup p=some o/\o.cls = .type "tuple" /\ o.dict=none) ∨
   (T = "dict" /\ ((∃az,H p=some (.dK az))∨∃az,H p=some (.dT az)))∨(T = "set" /\ ∃S n,H p=some (.set S n))
 |_=>False
theorem GB{ae:List (Addr×Obj)}{σ:St}{H:Hp}{s:Shared}{T:String}{x:V}{v:Value}(I:Inv X ae σ H s) (r:bO x v) (ty:Sk X.K T x H) :
  s.TypeIs v T/\∀a,v = .ref a->∃ob,s.heap.get? a=some ob/\ob.dict=none:=by
 cases x with
 |str z =>
  obtain⟨t,rfl⟩:=r;cases (show T = "str" from ty)
  exact⟨typeIs_str s z t,fun _ e=>nomatch e⟩
 |int i =>
  obtain⟨t,rfl⟩:=r;cases (show T = "int" from ty)
  exact⟨typeIs_int s i t,fun _ e=>nomatch e⟩
 |ref p =>
  cases r;rcases ty with ⟨rfl,xs,hq⟩|⟨rfl,o,hk,hc,hd⟩|⟨rfl,hk⟩|⟨rfl,S,n,hk⟩
  .obtain ⟨its,_,pl,_⟩:=I.list hq;refine⟨pl.isList.typeIs,fun a e=>?_⟩
   cases e;obtain⟨o,n,e,c,hd,_⟩:=pl;exact⟨o,e,hd⟩
  .refine ⟨⟨o,I.kIn p o hk,hc⟩,fun a e=>?_⟩
   cases e;exact⟨o,I.kIn _ o hk,hd⟩
  .have z:∃o,s.heap.get? p=some o/\o.ExactDict:=by
    rcases hk with ⟨az,hk⟩|⟨az,hk⟩
    .obtain ⟨_,_,_,_,o,_,_,e,ex,_⟩:=I.hok p _ hk;exact⟨o,e,ex⟩
    .obtain ⟨_,_,_,_,o,_,_,e,ex,_⟩:=I.hok p _ hk;exact⟨o,e,ex⟩
   obtain⟨o,e,ex⟩:=z;refine⟨⟨o,e,ex.1⟩,fun a e2=>?_⟩
   cases e2;exact⟨o,e,ex.2.1⟩
  .obtain ⟨o,_,_,_,e,ex,_⟩:=I.hok p _ hk;refine⟨⟨o,e,ex.1⟩,fun a e2=>?_⟩
   cases e2;exact⟨o,e,ex.2.1⟩
 |_=>exact False.elim ty
noncomputable def Qp(K:W.Frag) (T:String) (r:V->List V->Hp->VK->Prop) (to:TE):TE:=fun σ H Q=>to σ H fun x H1=>Sk K T x H1/\r x [] H1 Q
noncomputable def DO(K:W.Frag) (T:String) (r:V->List V->Hp->VK->Prop) (to:TE) (t:TA):TE:=fun σ H Q=>to σ H fun x H1=>Sk K T x H1/\t σ H1 fun xs H2=>r x xs H2 Q
variable {o e:Expr}{es:List Expr}{to:TE}{t:TA}{name:Str}{apos cpos:Pos}{T id:String}{r:V->List V->Hp->VK->Prop}
theorem Pc(pa:PlainAttrs T) (slot:Slot T name id) (hty:typeOf (.builtin id)=pure (.type "method_descriptor")) (hm:Qu X id r) (ho:PE X o to)
  (hbase:attributeBase o name X.env (eval o X.env)=eval o X.env:=by rfl) (hline:(apos.endLine == cpos.line)=true:=by rfl):PE X (.Call (.Attribute o name apos) [] [] cpos) (Qp X.K T r to):=by
 intro ae s σ H Q I h;refine wpAny_Call_method0_late hbase hline (dB (ho ae s σ H _ I h) fun v s1 ⟨x,H1,I1,r1,ty,q1⟩=>?_)
 obtain⟨h1,h2⟩:=GB I1 r1 ty;exact⟨T,id,pa,slot,hty,h1,h2,Calls.callWith_builtin rfl (PySem.evalArgs_none (hm ae s1 σ H1 x [] v [] Q I1 r1 .nil q1))⟩
theorem eR(pa:PlainAttrs T) (slot:Slot T name id) (hty:typeOf (.builtin id)=pure (.type "method_descriptor")) (hm:Qu X id r) (ho:PE X o to) (ha:PA X (e::es) t)
  (hbase:attributeBase o name X.env (eval o X.env)=eval o X.env:=by rfl)
  (hfew:((backTo cpos (starEach (e::es) X.env)).all (fun x=>!x.1) && (backToKw cpos (keywordEach [] X.env)).all (fun x=>x.1.isSome)
   && decide ((e::es).length+([]:List Keyword).length+(if ([]:List Keyword).isEmpty then 0 else 1)<30))=true:=by rfl)
  (hline:(apos.endLine == cpos.line)=true:=by rfl) (hs:starEach (e::es) X.env=(false,eval e X.env)::starEach es X.env:=by rfl) (hplain:(backTo cpos (starEach es X.env)).any (·.1)=false:=by rfl) :
  PE X (.Call (.Attribute o name apos) (e::es) [] cpos) (DO X.K T r to t):=by
 intro ae s σ H Q I h;refine wpAny_Call_method_late hbase hfew hline rfl (dB (ho ae s σ H _ I h) fun v s1 ⟨x,H1,I1,r1,ty,q1⟩=>?_)
 obtain⟨h1,h2⟩:=GB I1 r1 ty;refine⟨T,id,pa,slot,hty,h1,h2,?_⟩;have hA:=ha cpos ae s1 σ H1 _ I1 q1;rw[hs]at hA ⊢;refine Calls.callWith_builtin (by show (false || (backTo cpos (starEach es X.env)).any (·.1))=false;rw[hplain] <;> rfl) (Calls.evalArgs_plain ?_)
 exact dB hA fun us s2 ⟨vs,H2,I2,r2,q2⟩=>hm ae s2 σ H2 x vs v us Q I2 r1 r2 q2
/- xs.append(e),list.index on a module's tuple .. are Qu facts of 06m -/
end
def Sq(X:Cx) (id:String) (r:V->List V->Hp->VK->Prop):Prop :=
 ∀(ae:List (Addr×Obj)) (s:Shared) (σ:St) (H:Hp) (x:V) (xs:List V) (v:Value) (us:List Value) (Q:VK),Inv X ae σ H s->bO x v->bq xs us->r x xs H Q ->
  wpAny (model X.prog X.w) X.A (call (.builtin id) (v::us)) (EP X ae σ Q) X.xe s
theorem bq.one:∀{x:V}{us:List Value},bq [x] us->∃u,us=[u]/\bO x u
 |_,_,.cons r .nil=>⟨_,rfl,r⟩
theorem bq.zero:∀{us:List Value},bq [] us->us=[]
 |_,.nil=>rfl
theorem bq.dropLast{xs:List V}{us:List Value}(h:bq xs us):bq xs.dropLast us.dropLast:=by
 induction h with
 |nil=>exact .nil
 |cons r t ih =>
  cases t with
  |nil=>exact .nil
  |cons q t'=>exact .cons r ih
theorem bq.eraseIdx:∀{xs:List V}{us:List Value}(i:Nat),bq xs us->bq (xs.eraseIdx i) (us.eraseIdx i)
 |_,_,_,.nil=>.nil
 |_,_,0,.cons _ t=>t
 |_,_,i+1,.cons r t=>.cons r (bq.eraseIdx i t)
theorem pd{α:Type}(l:List α):l.eraseIdx (l.length-1)=l.dropLast:=by
 induction l with
 |nil=>rfl
 |cons a r ih =>
  cases r with
  |nil=>rfl
  |cons b r =>
   have e:(a::b::r).length-1=((b::r).length-1)+1:=by
    have h1:(a::b::r).length=r.length+2:=rfl;have h2:(b::r).length=r.length+1:=rfl;lia
   rw[e,WS,ih]
   all_goals rfl
theorem wQ{α:Type}:∀(l:List α) (i:Nat),(l.eraseIdx i).length<=l.length
 | [],_=>Vu _
 |_::_,0=>WC _
 |_::r,i+1=>Nat.succ_le_succ (wQ r i)
section
variable {X:Cx}{ae:List (Addr×Obj)}{σ:St}{H:Hp}{s:Shared}{l b:Addr}{xs ys zs:List V}
theorem Inv.lset{its its':List Value}{n:Nat}{f:Array Value->Array Value}{t':Nat}(I:Inv X ae σ H s) (hH:H l=some (.lst xs))
  (e:s.heap.get? l=some { cls:=.type "list", data:=.seq its.toArray n }) (hf:f its.toArray=its'.toArray) (hv:bq ys its') (hz:ys.length<=sizeLine) :
  Inv X ae σ (bW H l (.lst ys)) { s with heap:=s.heap.update l (Obj.mapSeq f),toks:=t' }:=by
 have q:=PySem.IsL.update e f;rw[hf]at q;refine I.write (x:=l) (e:=l) (by rw[hH];exact trivial) (.inl rfl) (fun b' u hb hu=>(Wl s.heap (Obj.mapSeq f) (Ne.symm hb)).trans hu) ⟨_,q⟩ ?_
 exact⟨hz,its',_,hv,q⟩
theorem Inv.lnew{its:List Value}{t':Nat}(I:Inv X ae σ H s) (hv:bq ys its) (hz:ys.length<=sizeLine) :
  Inv X ae σ (bW H s.heap.objs.size (.lst ys)) { s with heap:=s.heap.push { cls:=.type "list", data:=.seq its.toArray },toks:=t' } :=
 I.laid (fun _ _ q=>Vt _ q) (Vu _) ⟨hz,its,0,hv,Wa _ rfl⟩
theorem Inv.fresh(I:Inv X ae σ H s):H s.heap.objs.size=none:=I.hok.fresh (Vu _)
theorem Inv.lstM(I:Inv X ae σ H s) (hH:H l=some (.lst xs)):xs.length<=sizeLine/\∃(its:List Value) (n:Nat),bq xs its/\xs.length=its.length/\s.heap.get? l=some { cls:=.type "list", data:=.seq its.toArray n }:=by
 obtain⟨z,its,n,r,e⟩:=I.hok l _ hH;exact⟨z,its,n,r,r.length,e⟩
theorem Hg{n:Nat}(h:n<=sizeLine):Builtin.List.listTooLong n=false:=by
 unfold Builtin.List.listTooLong;exact decide_eq_false (by lia)
end
section
variable {X:Cx}
def ny:V->List V->Hp->VK->Prop:=fun x vs H Q=>∃l xs y,x = .ref l/\vs=[y]/\H l=some (.lst xs)/\xs.length<sizeLine/\Q .non (bW H l (.lst (xs++[y])))
theorem cE:Sq X "list.append" ny:=by
 intro ae s σ H x vs v us Q I rx rv h;obtain⟨l,xs,y,rfl,rfl,hH,hz,q⟩:=h;cases rx;obtain⟨u,rfl,ru⟩:=rv.one;obtain⟨z,its,n,r,hl,e⟩:=I.lstM hH;refine call_meets F.slot_list_append ⟨_,e,rfl⟩ F.entry_list_append (F.args_list_append_2 _ _) (PySem.list_append l its.toArray n u (by rw[VE];lia)) ⟨e,?_⟩
 refine⟨.non,_,I.lset (its':=its++[u]) hH e (by simp) (r.append (.cons ru .nil)) ?_,rfl,q⟩
 rw[lAq,lSq];lia
def sW:V->List V->Hp->VK->Prop:=fun x vs H Q=>∃l b xs zs,x = .ref l/\vs=[.ref b]/\H l=some (.lst xs)/\H b=some (.lst zs)/\xs.length+zs.length<=sizeLine/\Q .non (bW H l (.lst (xs++zs)))
theorem nP:Sq X "list.extend" sW:=by
 intro ae s σ H x vs v us Q I rx rv h;obtain⟨l,b,xs,zs,rfl,rfl,hH,hB,hz,q⟩:=h;cases rx;obtain⟨u,rfl,ru⟩:=rv.one;cases ru;obtain⟨z,its,n,r,hl,e⟩:=I.lstM hH;obtain⟨z2,its2,n2,r2,hl2,e2⟩:=I.lstM hB;have hsz:its.toArray.size+its2.toArray.size<=sizeLine:=by rw[VE,VE];lia
 have hlong:¬ (!its.toArray.isEmpty && Builtin.List.listTooLong (its.toArray.size+its2.toArray.size))=true:=by
  rw[Hg hsz,Bool.and_false];exact VF
 refine call_meets F.slot_list_extend ⟨_,e,rfl⟩ F.entry_list_extend (F.args_list_extend_2 _ _)
  (AutoSeq1.list_extend_list_list_0 l its.toArray n b its2.toArray n2 hlong (by rw[VE];lia) (by lia)) ⟨e,e2,?_⟩
 refine⟨.non,_,I.lset (its':=its++its2) hH e (by simp) (r.append r2) ?_,rfl,q⟩
 rw[lAq];lia
def O4:V->List V->Hp->VK->Prop:=fun x vs H Q=>∃l xs y,x = .ref l/\vs=[]/\H l=some (.lst xs)/\xs[xs.length-1]?=some y/\Q y (bW H l (.lst xs.dropLast))
theorem Nj:Sq X "list.pop" O4:=by
 intro ae s σ H x vs v us Q I rx rv h;obtain⟨l,xs,y,rfl,rfl,hH,hy,q⟩:=h;cases rx;have hus:=rv.zero;subst hus;obtain⟨z,its,n,r,hl,e⟩:=I.lstM hH;obtain⟨u,hu,ru⟩:=r.get hy;have hy':its.toArray[its.toArray.size-1]?=some u:=by
  show its.toArray[its.length-1]?=some u;rw[←VR,←hl];exact hu
 refine call_meets F.slot_list_pop ⟨_,e,rfl⟩ F.entry_list_pop (F.args_list_pop_1 _) (MeetsSeq.list_pop_last l its.toArray n u hy' (by rw[VE];lia)) ⟨e,?_⟩
 refine⟨y,_,I.lset (its':=its.dropLast) hH e ?_ r.dropLast ?_,ru,q⟩
 .show its.toArray.eraseIdxIfInBounds (its.toArray.size-1)=its.dropLast.toArray;rw[VE,X5,pd]
 .rw [YX];lia
def Jm:V->List V->Hp->VK->Prop:=fun x vs H Q=>∃l xs i k y,x = .ref l/\vs=[.int i]/\H l=some (.lst xs)/\-(2 ^ 63)<=i/\i<2 ^ 63/\seqIndex? i xs.length=some k/\xs[k]?=some y/\Q y (bW H l (.lst (xs.eraseIdx k)))
theorem Jn:Sq X "list.pop" Jm:=by
 intro ae s σ H x vs v us Q I rx rv h;obtain⟨l,xs,i,k,y,rfl,rfl,hH,h1,h2,hk,hy,q⟩:=h;cases rx;obtain⟨u,rfl,ru⟩:=rv.one;obtain⟨t,rfl⟩:=ru;obtain⟨z,its,n,r,hl,e⟩:=I.lstM hH;obtain⟨w,hw,rw'⟩:=r.get hy;refine call_meets F.slot_list_pop ⟨_,e,rfl⟩ F.entry_list_pop (F.args_list_pop_2 _ _)
  (MeetsSeq.list_pop_at l its.toArray n i t k w (fitsIndex_both h1 h2) (by rw[VE,←hl];exact hk) (by rw[←VR];exact hw) (by rw[VE];lia)) ⟨e,?_⟩
 refine⟨y,_,I.lset (its':=its.eraseIdx k) hH e ?_ (r.eraseIdx k) ?_,rw',q⟩
 .show its.toArray.eraseIdxIfInBounds k=(its.eraseIdx k).toArray;rw[X5]
 .have:=wQ xs k;lia
def RI:R2:=fun x y H Q=>∃l b xs zs,x = .ref l/\y = .ref b/\H l=some (.lst xs)/\H b=some (.lst zs)/\xs.length+zs.length<=sizeLine/\∀p,H p=none->Q (.ref p) (bW H p (.lst (xs++zs)))
theorem kq:wW X (binaryOp .Add) RI:=by
 intro ae s σ H x y v u Q I rx ry h;obtain⟨l,b,xs,zs,rfl,rfl,hH,hB,hz,q⟩:=h;cases rx;cases ry;obtain⟨z,its,n,r,hl,e⟩:=I.lstM hH;obtain⟨z2,its2,n2,r2,hl2,e2⟩:=I.lstM hB;refine PySem.P.add_list e e2 ?_ (by rw[VE,VE];lia)
 have ea:its.toArray++its2.toArray=(its++its2).toArray:=by simp
 rw[ea];exact⟨.ref _,_,I.lnew (t':=s.toks) (r.append r2) (by rw[lAq];lia),rfl,q _ I.fresh⟩
end
section
variable {κ:Type} [DecidableEq κ]
noncomputable def pW(az:List (κ×V)) (k:κ):Option V:=(az.find? fun kv=>decide (kv.1=k)).map (·.2)
noncomputable def qJ(az:List (κ×V)) (k:κ) (v:V):List (κ×V) :=
 if (az.any fun kv=>decide (kv.1=k))=true then az.map (fun kv=>if kv.1=k then (kv.1,v) else kv) else az++[(k,v)]
theorem ve{p:κ×V}{r:List (κ×V)}{k:κ}(e:p.1=k):pW (p::r) k=some p.2:=by simp[pW,Xn,e]
theorem ux{p:κ×V}{r:List (κ×V)}{k:κ}(e:¬ p.1=k):pW (p::r) k=pW r k:=by simp[pW,Xn,e]
theorem Ay(k:κ):∀az:List (κ×V),(az.any fun kv=>decide (kv.1=k))=(pW az k).isSome
 | []=>rfl
 |p::r=>by
  rw[Xm]
  by_cases e:p.1=k
  .simp only [ve e,decide_eq_true e,Bool.true_or,Option.isSome_some]
  .rw [ux e,decide_eq_false e,Bool.false_or];exact Ay k r
theorem rL(az:List (κ×V)) (k:κ) (v:V):(qJ az k v).length<=az.length+1:=by
 unfold qJ;split
 .rw [lMq];lia
 .rw [lAq,lCq,XQ];lia
theorem mq.isSome_eq{o:Option V}{u:Option Value}(r:mq o u):o.isSome=u.isSome:=by
 cases o with
 |none=>cases u with
  |none=>rfl
  |some _=>exact(show False from r).elim
 |some _=>cases u with
  |none=>exact(show False from r).elim
  |some _=>rfl
theorem KV.val{az:List (κ×V)}{vs:List (κ×Value)}(r:KV az vs) (k:κ):mq (pW az k) (valueAt vs k):=by
 unfold KV at r
 induction r with
 |nil=>exact True.intro
 | @cons p q ps qs h t ih =>
  obtain⟨h1,h2⟩:=h
  by_cases e:p.1=k
  .have e':q.1=k:=h1.symm.trans e;have b:valueAt (q::qs) k=some q.2:=by simp[valueAt,Xn,e']
   rw[ve e,b];exact h2
  .have e':¬ q.1=k:=fun z=>e (h1.trans z)
   have b:valueAt (q::qs) k=valueAt qs k:=by simp[valueAt,Xn,e']
   rw[ux e,b];exact ih
theorem KV.any{az:List (κ×V)}{vs:List (κ×Value)}(r:KV az vs) (k:κ):(az.any fun kv=>decide (kv.1=k))=vs.any fun kv=>decide (kv.1=k):=by
 unfold KV at r
 induction r with
 |nil=>rfl
 |cons h t ih=>rw[Xm,Xm,ih,h.1]
theorem KV.repl{az:List (κ×V)}{vs:List (κ×Value)}(r:KV az vs) (k:κ) {y:V}{u:Value}(ry:bO y u) :
  KV (az.map fun kv=>if kv.1=k then (kv.1,y) else kv) (vs.map fun kv=>if kv.1=k then (kv.1,u) else kv):=by
 unfold KV at r ⊢
 induction r with
 |nil=>exact .nil
 | @cons p q ps qs h t ih =>
  rw[VG,VG];refine .cons ?_ ih;obtain⟨h1,h2⟩:=h
  by_cases e:p.1=k
  .rw [if_pos e,if_pos (h1.symm.trans e)];exact⟨h1,ry⟩
  .rw [if_neg e,if_neg (fun z=>e (h1.trans z))];exact⟨h1,h2⟩
theorem KV.put{az:List (κ×V)}{vs:List (κ×Value)}(r:KV az vs) (k:κ) {y:V}{u:Value}(ry:bO y u):KV (qJ az k y) (stored vs k u):=by
 unfold qJ stored;rw[r.any k]
 by_cases e:(vs.any fun kv=>decide (kv.1=k))=true
 .rw [if_pos e,if_pos e];exact r.repl k ry
 .rw [if_neg e,if_neg e];exact Paired.snoc r ⟨rfl,ry⟩
theorem KV.length{az:List (κ×V)}{vs:List (κ×Value)}(r:KV az vs):az.length=vs.length:=Paired.length r
end
theorem Dr{P:Program}{w:World}{k:bI}{u:Value}(r:bO (kV k) u):(dF P w).is k u=true:=by
 cases k with
 |inl i=>obtain⟨t,e⟩:=(show ∃t,u=Yp i t from r);subst e;exact zt P w i t
 |inr x=>obtain⟨t,e⟩:=(show ∃t,u=YL x t from r);subst e;exact Ax P w x t
theorem wH{P:Program}{w:World}:∀{ks:List bI}{us:List Value},bq (ks.map kV) us->ItemsAre (dF P w) ks us
 | [],_,r=>by rw[YA]at r;cases r;exact .nil
 |k::ks,_,r=>by
  rw[VG]at r;cases r with
  |cons h t=>exact .cons (Dr h) (wH t)
abbrev KT(H:Hp):List (List bI×V)->List (List bI×Addr×Value)->Prop:=Paired fun p q=>p.1=q.1/\H q.2.1=some (.tup (p.1.map kV))/\bO p.2 q.2.2
theorem KT.val{H:Hp}{az:List (List bI×V)}{xs:List (List bI×Addr×Value)}(r:KT H az xs) (k:List bI):mq (pW az k) ((atKey xs k).map (·.2)):=by
 induction r with
 |nil=>exact True.intro
 | @cons p q ps qs h t ih =>
  obtain⟨h1,_,h2⟩:=h
  by_cases e:p.1=k
  .have e':q.1=k:=h1.symm.trans e;have b:atKey (q::qs) k=some q.2:=by simp[atKey,Xn,e']
   rw[ve e,b];exact h2
  .have e':¬ q.1=k:=fun z=>e (h1.trans z)
   have b:atKey (q::qs) k=atKey qs k:=by simp[atKey,Xn,e']
   rw[ux e,b];exact ih
theorem KT.repl{H:Hp}{az:List (List bI×V)}{xs:List (List bI×Addr×Value)}(r:KT H az xs) (k:List bI) {y:V}{u:Value}(ry:bO y u) :
  KT H (az.map fun kv=>if kv.1=k then (kv.1,y) else kv) (xs.map (putAt k u)):=by
 induction r with
 |nil=>exact .nil
 | @cons p q ps qs h t ih =>
  rw[VG,VG];refine .cons ?_ ih;obtain⟨h1,h2,h3⟩:=h;unfold putAt
  by_cases e:p.1=k
  .rw [if_pos e,if_pos (h1.symm.trans e)];exact⟨h1,h2,ry⟩
  .rw [if_neg e,if_neg (fun z=>e (h1.trans z))];exact⟨h1,h2,h3⟩
theorem KT.put{H:Hp}{az:List (List bI×V)}{xs:List (List bI×Addr×Value)}(r:KT H az xs) (k:List bI) {b:Addr}{y:V}{u:Value}(hb:H b=some (.tup (k.map kV))) (ry:bO y u) :
  KT H (qJ az k y) (storedH xs k b u):=by
 have e:(az.any fun kv=>decide (kv.1=k))=(atKey xs k).isSome:=by
  rw[Ay,(r.val k).isSome_eq,Yr]
 unfold qJ storedH;rw[e]
 by_cases q:(atKey xs k).isSome=true
 .rw [if_pos q,if_pos q];exact r.repl k ry
 .rw [if_neg q,if_neg q];exact Paired.snoc r ⟨rfl,hb,ry⟩
theorem KT.keeps{H H':Hp}{az:List (List bI×V)}{xs:List (List bI×Addr×Value)}(r:KT H az xs) (ht:∀b ys,H b=some (.tup ys)->H' b=some (.tup ys)):KT H' az xs :=
 Paired.mapP r fun _ _ z=>⟨z.1,ht _ _ z.2.1,z.2.2⟩
section
variable {P:Program}{w:World}{H:Hp}{h:Heap}{a:Addr}
theorem MR{u:HO}(ok:mC P w H h) (e:Rd H a u):cx P w H h a u:=e.ok ok
theorem Ac{az:List (bI×V)}(ok:mC P w H h) (e:Rd H a (.dK az)):az.length<=sizeLine/\(a == sysModules)=false/\∃vs,KV az vs/\h.DictOf (dF P w) a vs :=
 show cx P w H h a (.dK az) from MR ok e
theorem QX{az:List (bI×V)}(ok:mC P w H h) (e:H a=some (.dK az)):az.length<=sizeLine/\(a == sysModules)=false/\∃vs,KV az vs/\h.DictOf (dF P w) a vs:=Ac ok (.inl e)
theorem yN{ks:List bI}(ok:mC P w H h) (e:H a=some (.tup (ks.map kV))):(tupleKind (dF P w)).is h ks a:=by
 obtain⟨_,its,r,o,h1,h2,n,h3⟩:=(show cx P w H h a (.tup (ks.map kV)) from ok a _ e)
 exact⟨o,its.toArray,n,h1,h2,h3,by simpa using wH r⟩
theorem AD{az:List (List bI×V)}(ok:mC P w H h) (e:Rd H a (.dT az)):az.length<=sizeLine/\(a == sysModules)=false /\
  ∃xs,KT H az xs/\h.DictOfH (tupleKind (dF P w)) a xs:=by
 obtain⟨z,y,xs,r,o,es,ep,h1,h2,h3,h4,h5⟩:=(show cx P w H h a (.dT az) from MR ok e)
 refine⟨z,y,xs,r,o,es,ep,h1,h2,h3,h4,fun x hx=>?_,h5⟩
 have all:∀{l:List (List bI×V)}{m:List (List bI×Addr×Value)},KT H l m->∀x∈m,(tupleKind (dF P w)).is h x.1 x.2.1:=by
  intro l m q
  induction q with
  |nil=>intro x hx;exact nomatch hx
  | @cons p q ps qs hq t ih =>
   intro x hx;rcases VB.mp hx with e|hx
   .subst e;exact yN ok (by rw[←hq.1];exact hq.2.1)
   .exact ih x hx
 exact all r x hx
theorem RQ{az:List (List bI×V)}(ok:mC P w H h) (e:H a=some (.dT az)):az.length<=sizeLine/\(a == sysModules)=false /\
  ∃xs,KT H az xs/\h.DictOfH (tupleKind (dF P w)) a xs:=AD ok (.inl e)
end
def vB(H:Hp) (a:Addr) (y:V) (r:Option V):Prop :=
 (∃az k,Rd H a (.dK az)/\y=kV k/\r=pW az k)∨∃az k b,Rd H a (.dT az)/\y = .ref b/\H b=some (.tup (k.map kV))/\r=pW az k
def FI(H:Hp) (a:Addr) (y v:V) (H':Hp):Prop :=
 (∃az k,H a=some (.dK az)/\y=kV k/\az.length<sizeLine/\H'=bW H a (.dK (qJ az k v))) ∨
 ∃az k b,H a=some (.dT az)/\y = .ref b/\H b=some (.tup (k.map kV))/\az.length<sizeLine/\H'=bW H a (.dT (qJ az k v))
theorem vB.k{H:Hp}{a:Addr}{az:List (bI×V)}{k:bI}(e:H a=some (.dK az)):vB H a (kV k) (pW az k):=.inl ⟨az,k,.inl e,rfl,rfl⟩
theorem FI.k{H:Hp}{a:Addr}{az:List (bI×V)}{k:bI}{v:V}(e:H a=some (.dK az)) (hl:az.length<sizeLine):FI H a (kV k) v (bW H a (.dK (qJ az k v))):=.inl ⟨az,k,e,rfl,hl,rfl⟩
section
variable {X:Cx}{ae:List (Addr×Obj)}{σ:St}{H:Hp}{s:Shared}{a:Addr}{y v:V}{u r:Value}{o:Option V}{A:Around}{E:Value->Shared->Prop}
theorem Inv.big(I:Inv X ae σ H s):sysModules<s.heap.objs.size:=by
 have h:mainGlobals<s.heap.objs.size:=(I.mod.glob.keeps I.bk).lt;exact Nat.lt_trans (by decide) h
theorem EB{Q:Value->Shared->Prop}(hu:A.units+1<cLine) (I:Inv X ae σ H s) (g:vB H a y (some v)) (ry:bO y u) (h:∀w' s',Inv X ae σ H s'->bO v w'->Q w' s') :
  wpAny (model X.prog X.w) A (getItem (.ref a) u) Q E s:=by
 rcases g with ⟨az,k,e,ey,l⟩|⟨az,k,b,e,ey,eb,l⟩
 .subst ey;obtain⟨z,hd,vs,rel,dd⟩:=Ac I.hok e;obtain⟨w',hw,rw'⟩:=mq.some_of (v:=v) (o:=valueAt vs k) (by rw[l];exact rel.val k)
  exact wpAny_getItem_of (Dr ry) dd.mapOf hw (h w' _ (I.tok _) rw')
 .subst ey;cases (show u=Vw b from ry)
  obtain⟨z,hd,xs,rel,dd⟩:=AD I.hok e;obtain⟨w',hw,rw'⟩:=mq.some_of (v:=v) (o:=(atKey xs k).map (·.2)) (by rw[l];exact rel.val k)
  obtain⟨p,hp,hp2⟩:=oMq.mp hw;refine wpAny_getItem_heap (tupleKind_room_in1 hu) (yN I.hok eb) dd hp ?_;rw[hp2];exact h w' _ (I.tok _) rw'
theorem KR{Q:Value->Shared->Prop}(hu:A.units+1<cLine) (I:Inv X ae σ H s) (g:vB H a y o) (ry:bO y u) (h:∀s',Inv X ae σ H s'->Q (.bool (!o.isSome)) s') :
  wpAny (model X.prog X.w) A (compareOp .NotIn u (.ref a)) Q E s:=by
 rcases g with ⟨az,k,e,ey,l⟩|⟨az,k,b,e,ey,eb,l⟩
 .subst ey;obtain⟨z,hd,vs,rel,dd⟩:=Ac I.hok e;refine wpAny_notIn_of (Dr ry) hd dd.mapOf ?_;rw[← (rel.val k).isSome_eq,←l];exact h _ (I.tok _)
 .subst ey;cases (show u=Vw b from ry)
  obtain⟨z,hd,xs,rel,dd⟩:=AD I.hok e;refine wpAny_notIn_heap (tupleKind_room_in1 hu) (yN I.hok eb) hd dd ?_;have q:=(rel.val k).isSome_eq;rw[Yr]at q;rw[←q,←l];exact h _ (I.tok _)
theorem Cr{h':Heap}{t':Nat}{ob:HO}(I:Inv X ae σ H s) (mu:QC (H a)) (hs:XW a s.heap h') (he:∃q,h'.get? a=some q) (new:cx X.prog X.w (bW H a ob) h' a ob) :
  Inv X ae σ (bW H a ob) { s with heap:=h',toks:=t' } :=
 I.write (x:=a) (e:=a) mu (.inl rfl) (fun b q hb z=>(hs.2 b hb).trans z) he new
theorem O0{P:Program}{w:World}{H':Hp}{h':Heap}{az:List (bI×V)}{vs:List (bI×Value)}(z:az.length<=sizeLine) (hd:(a == sysModules)=false) (rel:KV az vs) (dd:h'.DictOf (dF P w) a vs) :
  cx P w H' h' a (.dK az):=⟨z,hd,vs,rel,dd⟩
theorem E9{H':Hp}{Q:Unit->Shared->Prop}(hu:A.units+1<cLine) (I:Inv X ae σ H s) (g:FI H a y v H') (ry:bO y u) (rv:bO v r) (h:∀s',Inv X ae σ H' s'->Q () s') :
  wpAny (model X.prog X.w) A (setItem (.ref a) u r) Q E s:=by
 rcases g with ⟨az,k,e,ey,l,eH⟩|⟨az,k,b,e,ey,eb,l,eH⟩
 .subst ey eH;obtain⟨z,hd,vs,rel,dd⟩:=QX I.hok e;have hz:vs.length<=sizeLine:=by rw[←rel.length];exact z
  have hl:(qJ az k v).length<=sizeLine:=by have:=rL az k v;lia
  refine wpAny_setItem_pairs (hsz:=hz) (Dr ry) dd fun h' dd' hs=>h _ ?_
  have he:∃q,h'.get? a=some q:=let ⟨q,_,_,hq,_⟩:=dd';⟨q,hq⟩
  exact Cr I (by rw[e];exact True.intro) hs he (O0 hl hd (rel.put k rv) dd')
 .subst ey eH;cases (show u=Vw b from ry)
  obtain⟨z,hd,xs,rel,dd⟩:=RQ I.hok e;have hz:xs.length<=sizeLine:=by rw[←Paired.length rel];exact z
  have hl:(qJ az k v).length<=sizeLine:=by have:=rL az k v;lia
  refine wpAny_setItem_heap (hsz:=hz) (tupleKind_room_in1 hu) (yN I.hok eb) dd fun h' dd' hs=>h _ ?_
  obtain⟨q,es,ep,hq,h2,h3,h4,_,h5⟩:=dd';refine Cr I (by rw[e];exact True.intro) hs ⟨q,hq⟩ ⟨hl,hd,_,(rel.put k eb rv).keeps fun c ys ec=>?_,q,es,ep,hq,h2,h3,h4,h5⟩
  rw[ax (RS ec e (fun z=>nomatch z))]
  exact ec
end
def Q3(i:Expr):Prop:=∀ov iv,subscripted i false ov iv=operate [ov,iv] (getItem ov iv)
theorem Lx{prog:Program}{w:World}{A:Around}{E:Value->Shared->Prop}{s:Shared}{env:Env}{value slice:Expr}{pos:Pos}{T id:String}{Q:Value->Shared->Prop}
  (hl:typeLookup (.type T) "__getitem__" = pure (some (.builtin id))) (hs:Q3 slice)
  (h:wpAny (model prog w) A (eval value env) (fun o s₁=>wpAny (model prog w) A (eval slice env) (fun i s₂=>s₂.TypeIs o T/\wpAny (model prog w) A (getItem o i) Q E s₂) E s₁) E s) :
  wpAny (model prog w) A (eval (.Subscript value slice pos) env) Q E s:=by
 refine Subscript_ (wpAny_mono h (fun o s₁ h₁=>wpAny_mono h₁ (fun i s₂ h₂=>?_) fun _ _ x=>x) fun _ _ x=>x)
 obtain⟨hT,h₂⟩:=h₂;unfold subscriptTail;refine wpAny_bind ?_;rw[getitemInPython_of_ne hT.not_modules];refine wpAny_bind (wpAny_specialOf hT hl ?_);have fin:wpAny (model prog w) A (subscripted slice false o i) (fun r s₃=>wpAny (model prog w) A (letTemporaryGo value o r >>= fun _=>pure r) Q E s₃) E s₂:=by
  rw[hs o i];exact wpAny_operating (wpAny_mono h₂ (fun r s₃ h₃=>wpAny_bind (wpAny_letTemporaryGo (wpAny_pure h₃))) fun _ _ x=>x)
 first
  |exact wpAny_pure (wpAny_bind fin)
  |exact wpAny_bind (wpAny_pure (wpAny_bind fin))
  |exact wpAny_bind fin
theorem zW{X:Cx}{ae:List (Addr×Obj)}{σ:St}{H:Hp}{s:Shared}{a:Addr}{y:V}{o:Option V}(I:Inv X ae σ H s) (g:vB H a y o):s.TypeIs (.ref a) "dict" := by
 rcases g with ⟨az,k,e,_,_⟩|⟨az,k,b,e,_,_,_⟩
 .obtain ⟨_,_,vs,_,dd⟩:=Ac I.hok e;exact dd.typeIs
 .obtain ⟨_,_,xs,_,dd⟩:=AD I.hok e;exact dd.typeIs
noncomputable def Hs(td ty:TE):TE:=fun σ H Q=>td σ H fun x H1=>ty σ H1 fun y H2=>∃a v,x = .ref a/\vB H2 a y (some v)/\Q v H2
noncomputable def CK(ty td:TE):TE:=fun σ H Q=>ty σ H fun y H1=>td σ H1 fun x H2=>∃a o,x = .ref a/\vB H2 a y o/\Q (.bl (!o.isSome)) H2
def MY(td ty tv:TE):TS:=fun D σ H=>tv σ H fun v H1=>td σ H1 fun x H2=>ty σ H2 fun y H3=>∃a H4,x = .ref a/\FI H3 a y v H4/\D.nx σ H4
section
variable {X:Cx}{o i e value:Expr}{pos pos' tpos:Pos}{td ty tv:TE}
theorem xZ(hu:X.A.units+1<cLine) (ho:PE X o td) (hi:PE X i ty) (hs:Q3 i):PE X (.Subscript o i pos) (Hs td ty):=by
 intro ae s σ H Q I h;refine Lx PySem.F.slot_dict_getitem.lookup hs (dB (ho ae s σ H _ I h) fun u s1 ⟨x,H1,I1,rx,q1⟩=>dB (hi ae s1 σ H1 _ I1 q1) fun iv s2 ⟨y,H2,I2,ry,a,v,ex,g,q2⟩=>?_)
 subst ex;obtain rfl:u=Vw a:=rx;exact⟨zW I2 g,EB hu I2 g ry fun w' s3 I3 rw'=>⟨v,H2,I3,rw',q2⟩⟩
theorem EG(hu:X.A.units+1<cLine) (hi:PE X i ty) (ho:PE X o td):PC X .NotIn i o (CK ty td):=by
 intro ae s σ H Q I h;refine dB (hi ae s σ H _ I h) fun iv s1 ⟨y,H1,I1,ry,q1⟩=>dB (ho ae s1 σ H1 _ I1 q1) fun u s2 ⟨x,H2,I2,rx,a,ov,ex,g,q2⟩=>?_
 subst ex;obtain rfl:u=Vw a:=rx;exact KR hu I2 g ry fun s3 I3=>⟨.bl (!ov.isSome),H2,I3,rfl,q2⟩
theorem xt(hu:X.A.units+1<cLine) (ho:PE X o td) (hi:PE X i ty) (hv:PE X value tv) (hs:swapsWith value (some (.Subscript o i pos')) pos.line X.env=pure false) :
  PS X (.Assign [.Subscript o i pos'] value pos) (MY td ty tv):=by
 intro ae s σ H D I h;refine wpAny_Assign_Subscript (dB (hv ae s σ H _ I h) fun r s1 ⟨v,H1,I1,rv,q1⟩=>dB (ho ae s1 σ H1 _ I1 q1) fun u s2 ⟨x,H2,I2,rx,q2⟩=>dB (hi ae s2 σ H2 _ I2 q2) fun iv s3 ⟨y,H3,I3,ry,a,H4,ex,g,q3⟩=>?_) hs
 subst ex;obtain rfl:u=Vw a:=rx;exact E9 hu I3 g ry rv fun s4 I4=>⟨σ,H4,I4,q3⟩
end
theorem Hw{P:Program}{w:World}{H:Hp}(h:Heap) (hb:sysModules<h.objs.size):cx P w H (h.push { cls:=.type "dict", data:=.dict #[] }) h.objs.size (.dK []) :=
 ⟨Wf _,beq_eq_false_iff_ne.mpr (Ne.symm (VO hb)),[],.nil,Heap.DictOf.new h⟩
def Hr:TE:=fun _ H Q=>∀p,H p=none->Q (.ref p) (bW H p (.dK []))
section
variable {X:Cx}{pos:Pos}
theorem uH:PE X (.Dict [] [] pos) Hr:=fun ae s σ H Q I h =>
 wpAny_Dict_empty ⟨.ref s.heap.objs.size,_,I.laid (a:=s.heap.objs.size) (o:=.dK []) (t':=s.toks) (fun _ _ q=>Vt _ q) (Vu _) (Hw s.heap I.big),rfl,h _ (I.hok.fresh (Vu _))⟩
end
def Ve(H:Hp) (a:Addr):Prop:=(∃az,Rd H a (.dK az))∨∃az,Rd H a (.dT az)
theorem N5{X:Cx}{ae:List (Addr×Obj)}{σ:St}{H:Hp}{s:Shared}{a:Addr}(I:Inv X ae σ H s) (d:Ve H a) :
  s.TypeIs (.ref a) "dict" /\ (∀b,Vw a = .ref b->∃ob,s.heap.get? b=some ob/\ob.dict=none)/\(a == sysModules)=false:=by
 rcases d with ⟨az,e⟩|⟨az,e⟩
 .obtain ⟨_,hd,vs,_,dd⟩:=Ac I.hok e;refine⟨dd.typeIs,fun b q=>?_,hd⟩
  cases q;obtain⟨ob,_,_,h1,h2,_⟩:=dd;exact⟨ob,h1,h2.2.1⟩
 .obtain ⟨_,hd,xs,_,dd⟩:=AD I.hok e;refine⟨dd.typeIs,fun b q=>?_,hd⟩
  cases q;obtain⟨ob,_,_,h1,h2,_⟩:=dd;exact⟨ob,h1,h2.2.1⟩
end L2
namespace Att
open PySem PySem.W PySem.Calls PyProof.Rows
theorem sS{P:Params}{h:Heap}:∀(ns:List Int) (vs:List Value),WellAll P h vs (ns.map WData.int)->IntsAre vs ns:=by
 intro ns
 induction ns with
 |nil =>
  intro vs w;rw[YA]at w;cases w;exact .nil
 |cons n ns ih =>
  intro vs w;rw[VG]at w;cases w with
  |cons a b =>
   cases a;exact .cons _ _ (ih _ b)
theorem Fl{l:OpenLaw}{n:Nat}(hn:l.most=some n) {P:Params}{h:Heap}{args:List WData}{vals:List Value}
  (hpre:l.row.toRowW.claim.pre args=true) (hwl:WellAll P h vals args) :
  ∃a vs ns,vals=[Vw a]/\args=[WData.list (ns.map WData.int)]/\h.get? a=some { cls:=.type "list", data:=.seq vs.toArray }/\IntsAre vs ns/\ns.length<=n:=by
 have hsh:WShape.hasAll [] args [.list .int]=true:=(pre_splitW hpre).1;have hc:l.pre.holds [] { args:=args }=true:=(pre_splitW hpre).2;obtain⟨d,r,rfl,h1,h2⟩:=hasAllW_cons hsh;obtain rfl:=hasAllW_nil h2;obtain⟨xs,rfl,h3⟩:=hasW_list h1;obtain⟨ns,rfl⟩:=items_int h3;have hlen:ns.length<=n:=by
  unfold OpenLaw.pre at hc;have h4:(WTm.not (.lt (.lit (.int (n:Int))) (.len (.arg 0)))).holds [] { args:=[.list (ns.map .int)] }=true:=by
   have h4:=(holds_andW hc).1;rw[hn]at h4;exact h4
  have h5:=condW_of h4 (w_not (w_lt w_lit (w_len_list (w_arg rfl))));rw[lMq]at h5;refine Nat.le_of_not_lt fun q=>?_
  have q':(n:Int)<((ns.length:Nat):Int):=by lia
  first
   | (rw[decide_eq_true q']at h5;exact absurd h5 (by decide))
   | (simp at h5;lia)
 cases hwl with
 |cons w1 w2 =>
  cases w2;cases w1 with
  |list ho hall=>exact⟨_,_,ns,rfl,rfl,ho,sS ns _ hall,hlen⟩
theorem Fw(l:OpenLaw) (args:List WData):l.row.toRowW.claim.post args (.bool true) args=true :=
 postW_of (r:=l.row.toRowW) (X:=(true == true))
  (show WShape.has [] (.bool true) .bool=true by first|rfl|decide|simp[WShape.has,WShape.arms,WShape.armsAll])
  (show (WTm.eq .res (.lit (.bool true))).value [] { args:=args,res:=some (.bool true),after:=args }=some (.bool (true == true)) from w_eq_bool (w_res rfl) w_lit) rfl
theorem zN{l:OpenLaw}{n:Nat}{q:Program}{loose:List Str}{XP:(Str->Option Value)->Heap->Prop}{YP:World->Heap->Prop}{d:DefRec}
  (hn:l.most=some n) (hdf:d.params.defaults=[])
  (call:∀(w:World) (s₀ s₁:Shared) (mg mb:Str->Option Value) (fa:Addr) (o:Obj) (pm cd doc:Value) (a:Addr) (vs:List Value) (ns:List Int),
   Ground q loose [] XP w s₀ mg mb s₁.heap->YP w s₁.heap ->
   s₁.heap.get? fa=some o->o.data = .func (docDef d.name d.params d.body d.scope pm cd doc)->s₁.heap.CodeRec cd d.name->mg d.name=some (.ref fa) ->
   s₁.heap.get? a=some { cls:=.type "list", data:=.seq vs.toArray }->IntsAre vs ns->ns.length<=n->s₁.gens=#[] ->
   codeAny (model l.prog w) callerA (.call (.ref fa) ⟨[.ref a],[]⟩) (fun r s'=>r = .ok (.ret (.bool true))/\OldK s₁.heap s'.heap/\s'.os=s₁.os/\AllBare s'.gens) s₁) :
  WalkO q loose XP YP l.row.toRowW d [] (fun f vs=>PySem.call f vs):=by
 intro w s₀ s₁ mg mb G Y fa o pm cd doc dV kV ho hd hcd hD hmg hg args vals as hpre hlay hrd hwl hlo;obtain rfl:dV = .none:=Dflts.none hD hdf;obtain rfl:kV = .none:=Dflts.noKw hD;obtain⟨a,vs,ns,rfl,rfl,hobj,hints,hlen⟩:=Fl hn hpre hwl;refine enter_call (codeAny_mono (call w s₀ s₁ mg mb fa o pm cd doc a vs ns G Y ho (fd_plain hd) hcd hmg hobj hints hlen hg) fun r s' hq=>?_)
 obtain⟨rfl,h2,h3,h4⟩:=hq;exact⟨.inl ⟨.bool true,.bool true,[],rfl,fun _=>rfl,.bool true,Fw l _,fun _=>⟨V1.nil,fun _ hm=>(nomatch hm)⟩⟩,h2,h3,h4⟩
end Att
namespace L2
open PySem PySem.Spec PyProof.Rows
theorem vals_ints:∀{vs:List Value}{ns:List Int},IntsAre vs ns->bq (ns.map V.int) vs
 |_,_,.nil=>.nil
 |_,_,.cons n t h=>.cons ⟨t,rfl⟩ (vals_ints h)
def PL(H:Hp):Prop:=∀b,H b=none∨∃o xs,H b=some (.frz o (.lst xs))
theorem G1{P:Program}{w:World}{K:W.Frag}{mg mb:Str->Option Value}{CX:zU}{k:Nat}{fa a:Addr}{fd:FuncData}{x:Str}{sp:Sp}{s₁:Shared}{vs:List Value}{ns:List Int}
  (KX:K.In s₁.heap) (hns:s₁.heap.Ns mainGlobals mg) (hb:s₁.heap.Ns builtinsNs mb) (hbb:∀x:Str,x ≠ "__name__" -> mb x=bootBuiltins x) (hlim:s₁.heap.NoLimit) (hg:s₁.gens=#[])
  (ha:s₁.heap.get? a=some { cls:=.type "list", data:=.seq vs.toArray }) (hi:IntsAre vs ns) (hl:ns.length<=sizeLine) (hr:dX k callerA)
  (F:∀base:Heap,K.In base->base.Ns mainGlobals mg->jx P w K mg base CX k fa fd [x] sp) (hbind:∀(s:Shared) (u:Value),BindsTo s fd ⟨[u],[]⟩ [(x,u)])
  (hsp:∀H:Hp,PL H->dJ K H a (ns.map V.int)->sp [.ref a] H (fun v _=>v = .bl true) fun _ _ _=>False)
  (hCX:∀H e s',CX [] H s₁ (fun _ _ _=>False) e s'->False) :
  codeAny (model P w) callerA (.call (.ref fa) ⟨[.ref a],[]⟩) (fun r s'=>r = .ok (.ret (.bool true))/\OldK s₁.heap s'.heap/\s'.os=s₁.os/\AllBare s'.gens) s₁:=by
 have rv:=vals_ints hi;have lenV:=hi.length;have core:∀H:Hp,PL H->dJ K H a (ns.map V.int)->mC P w H s₁.heap->(∀b,H b≠none->b=a)->(H a≠none->K.lookup a=none) ->
   codeAny (model P w) callerA (.call (.ref fa) ⟨[.ref a],[]⟩) (fun r s'=>r = .ok (.ret (.bool true))/\OldK s₁.heap s'.heap/\s'.os=s₁.os/\AllBare s'.gens) s₁:=by
  intro H hO hS hok hA hK;have base_of:∀{b:Addr}{o:Obj},s₁.heap.get? b=some o->H b=none->(xx s₁.heap H).get? b=some o:=fun e n=>Hd e n
  have noA:∀{b:Addr}{o:Obj}{es:Array DictEntry}{ep:Nat},s₁.heap.get? b=some o->o.data = .dict es ep->H b=none:=fun {b o es ep} e d=>by
   cases q:H b with
   |none=>rfl
   |some u =>
    have e':b=a:=hA b (by rw[q];simp)
    subst e';rw[ha]at e;cases e;have d':Data.seq vs.toArray _=Data.dict es ep:=d;cases d'
  have nsK:∀{b:Addr}{m:Str->Option Value},s₁.heap.Ns b m->(xx s₁.heap H).Ns b m:=fun {b m} ⟨o,es,ep,e,d,r⟩=>⟨o,es,ep,base_of e (noA e d),d,r⟩
  have hKb:K.In (xx s₁.heap H):=fun b o e=>base_of (KX b o e) (by
   cases q:H b with
   |none=>rfl
   |some u =>
    have e':b=a:=hA b (by rw[q];simp)
    subst e';rw[hK (by rw[q];simp)]at e;cases e)
  have hM:Mod K mg (xx s₁.heap H):=⟨hKb,nsK hns,⟨mb,nsK hb,hbb⟩,let ⟨mc,h1,h2⟩:=hlim;⟨mc,nsK h1,h2⟩⟩
  have e0:yH P w K mg (xx s₁.heap H) callerA [] s₁ H:=⟨rfl,hM,fun b o e=>Lm e,XY (EI _ _),trivial,fun b hb=>absurd (show b∈([]:List Addr) from hb) (by simp),hok,.of_eq hg⟩
  refine codeAny_mono ((F _ hKb (nsK hns)).run callerA [] s₁ H ⟨[.ref a],[]⟩ [.ref a] [.ref a] _ _ hr e0 (hbind s₁ (.ref a)) (.cons rfl .nil) (hsp H hO hS)) fun r s' h=>?_
  cases r with
  |error e=>exact(hCX H e s' h).elim
  |ok fl =>
   cases fl with
   |next=>exact False.elim h
   |brk=>exact False.elim h
   |cont=>exact False.elim h
   |ret u =>
    obtain⟨v,H',os,bare,un,hok',r',q⟩:=h;have q':v = .bl true:=q;subst q';obtain rfl:u=Y3 true:=r';refine⟨rfl,OldK.of_keep fun b o e=>?_,os,bare⟩
    cases q:H b with
    |none=>exact un.keep b o e q (by intro z;exact absurd (show b∈([]:List Addr) from z) (by simp)) (by simp)
    |some u =>
     rcases hO b with z|⟨ob,xs,z⟩
     .rw [q]at z;cases z
     .have z2:=un.frzs b ob _ z;obtain⟨e1,_⟩:=hok b _ z;obtain⟨e2,_⟩:=hok' b _ z2;rw[e]at e1;cases e1;exact e2
 cases hk:K.lookup a with
 |some o =>
  have e:=KX a o hk;rw[ha]at e;cases e;refine core (fun _=>none) (fun _=>.inl rfl) (.inr ⟨_,vs.toArray,_,hk,rfl,rfl,rfl,by rw[VE,lenV];exact hl,by simpa using rv⟩) (fun b u z=>by have z':(none:Option HO)=some u:=z;cases z') (fun b z=>absurd rfl z) fun z=>absurd rfl z
 |none =>
  refine core (fun b=>if b=a then some (.frz { cls:=.type "list", data:=.seq vs.toArray } (.lst (ns.map V.int))) else none) (fun b=>?_) (.inl (.inr ⟨{ cls:=.type "list", data:=.seq vs.toArray },if_pos rfl⟩)) (fun b u z=>?_) (fun b z=>?_) fun _=>hk
  .by_cases hb:b=a
   .exact .inr ⟨_,_,if_pos hb⟩
   .exact .inl (if_neg hb)
  .by_cases hb:b=a
   .have z':=(if_pos hb).symm.trans z;cases z';subst hb;exact⟨ha,by rw[lMq];exact hl,vs,_,rv,ha⟩
   .have z':=(if_neg hb).symm.trans z;cases z'
  .by_cases hb:b=a
   .exact hb
   .exact absurd (if_neg hb) z
theorem KF{l:W.OpenLaw}{n k:Nat}{q:Program}{loose:List Str}{XP:(Str->Option Value)->Heap->Prop}{YP:World->Heap->Prop}{d:DefRec}{K:Params->W.Frag}{CX:World->zU}{sp:World->Sp}{x:Str}
  (hn:l.most=some n) (hn2:n<=sizeLine) (hdf:d.params.defaults=[]) (hr:dX k callerA)
  (hY:∀(w:World) (h:Heap),YP w h->(K w.params).In h)
  (F:∀(w:World) (mg:Str->Option Value) (fa:Addr) (h:Heap),(K w.params).In h->h.Ns mainGlobals mg->mg d.name=some (.ref fa) ->
   ∃fd:FuncData,(∀(s:Shared) (u:Value),BindsTo s fd ⟨[u],[]⟩ [(x,u)]) /\
    ∀base:Heap,(K w.params).In base->base.Ns mainGlobals mg->jx l.prog w (K w.params) mg base (CX w) k fa fd [x] (sp w))
  (hsp:∀(w:World) (H:Hp) (a:Addr) (ns:List Int),ns.length<=n->PL H->dJ (K w.params) H a (ns.map V.int)->sp w [.ref a] H (fun v _=>v = .bl true) fun _ _ _=>False)
  (hCX:∀(w:World) (H:Hp) (s:Shared) (e:Value) (s':Shared),CX w [] H s (fun _ _ _=>False) e s'->False) :
  W.WalkO q loose XP YP l.row.toRowW d [] (fun f vs=>PySem.call f vs):=by
 refine Att.zN hn hdf fun w s₀ s₁ mg mb fa o pm cd doc a vs ns G Y ho hd hcd hmg hobj hints hlen hg=>?_
 have KX:=hY w _ Y;obtain⟨fd,hb,hF⟩:=F w mg fa _ KX G.T.g hmg;exact G1 KX G.T.g G.T.b G.T.builtins G.T.nolimit hg hobj hints (Wi hlen hn2) hr hF hb (fun H hO hS=>hsp w H a ns hlen hO hS) fun H e s'=>hCX w H s₁ e s'
noncomputable def aT(s:Stmt):Arguments:=match s with
 | .FunctionDef _ a _ _ _ _ _ _ _ _=>a
 |_=>{ posonlyargs:=[],args:=[],vararg:=none,kwonlyargs:=[],kw_defaults:=[],kwarg:=none,defaults:=[] }
noncomputable def aO(s:Stmt):List Stmt:=match s with
 | .FunctionDef _ _ b _ _ _ _ _ _ _=>b
 |_=>[]
noncomputable def aj(s:Stmt):Scope:=match s with
 | .FunctionDef _ _ _ _ _ _ sc _ _ _=>sc
 |_=>{ kind:=.function,names:=[],isGenerator:=false,isCoroutine:=false }
abbrev Fx:zU:=fun _ _ _ _ _ _=>False
abbrev E0:XK:=fun _ _ _=>False
theorem Da{X:Cx}:iK Fx X E0:=fun _ _ _ _ _ _ _ h=>h.elim
structure yU (K:W.Frag) (x qual:Str) (st:Stmt) (f:Addr) (fd:FuncData):Prop where
 ex:∃(oc:Value) (od:Option Addr) (kV doc pm:Value) (an:Option Addr) (ee ct:Value) (osl:Array (Option Value)),
  fd=W.fnOf x qual (aT st) (aO st) (aj st) .none kV doc pm an ee ct/\K.lookup f=some ⟨oc,od,.func fd,osl⟩/\W.codeIn K ee qual=true
 kp:W.keepIn K (.ref f)=true
section
variable {P:Program}{w:World}{K:W.Frag}{mg:Str->Option Value}{base:Heap}
theorem yU.ok{x qual:Str}{st:Stmt}{f:Addr}{fd:FuncData}{N ps:List Str}{k:Nat}{sp:Sp}(F:yU K x qual st f fd) (S:aR N ps (aj st)) (len:∀vs H Q E,sp vs H Q E->vs.length=ps.length)
  (hbody:∀(ee:Value) (A:Around) (outer:List Env) (s:Shared) (H:Hp) (vs:List V) (Q:VK) (E:XK),dX k (A.deeper (envOfC qual (aj st) s.heap.objs.size f ee))->sp vs H Q E ->
   ∃t,Au (xK Fx P w K mg base N qual (aj st) f ee A outer s H E).nox (aO st) t/\t { nx:=fun _ H'=>Q .non H',rt:=Q } (eQ N vs) H):jx P w K mg base Fx (k+1) f fd ps sp:=by
 obtain⟨oc,od,kV,doc,pm,an,ee,ct,osl,rfl,lk,hcd⟩:=F.ex;refine M0 lk hcd S len fun A outer s H vs Q E hr hsp=>?_
 obtain⟨t,h,q⟩:=hbody ee A outer s H vs Q E hr hsp;exact⟨t,h.nox,q⟩
theorem yU.binds{x qual:Str}{st:Stmt}{f:Addr}{fd:FuncData}{ps:List Str}(F:yU K x qual st f fd)
  (h:∀(kV doc pm:Value) (an:Option Addr) (ee ct:Value) (us:List Value),us.length=ps.length->bindArgs (W.fnOf x qual (aT st) (aO st) (aj st) .none kV doc pm an ee ct) ⟨us,[]⟩=pure (ps.zip us)):dY K fd ps []:=by
 obtain⟨oc,od,kV,doc,pm,an,ee,ct,osl,rfl,lk,hcd⟩:=F.ex;exact .all (h kV doc pm an ee ct)
theorem aB{x qual:Str}{st:Stmt}{f:Addr}{oc:Value}{od an:Option Addr}{osl:Array (Option Value)}{kV doc pm ee ct:Value}(l:K.lookup f=some ⟨oc,od,.func (W.fnOf x qual (aT st) (aO st) (aj st) .none kV doc pm an ee ct),osl⟩)
  (c:W.codeIn K ee qual=true) (k:W.keepIn K (.ref f)=true):yU K x qual st f (W.fnOf x qual (aT st) (aO st) (aj st) .none kV doc pm an ee ct):=⟨⟨oc,od,kV,doc,pm,an,ee,ct,osl,rfl,l,c⟩,k⟩
end
theorem uw{A:Around}{k:Nat}(hr:dX k A):A.units+1<cLine:=Nat.lt_of_le_of_lt (Nat.add_le_add_left (by decide:1<=64) _) hr.units
section
variable {X:Cx}
theorem pv(i:Nat) {x:Str}{pos:Pos}(hN:X.N[i]?=some x:=by rfl) (hv:R8 X.env.scope x:=by first|exact VL rfl|exact VJ (VL rfl)|exact VJ (VJ rfl)) (hd:(x == ("__debug__" : Str))=false:=by decide)
  (hcd:(x == ("__classdict__" : Str))=false:=by decide):PE X (.Name x pos) (iE i):=O6 hN hv hd hcd
end
theorem yZ{A B:Prop}(h:B):if false=true then A else B:=by
 rw[if_neg VF];exact h
theorem zR{A B:Prop}(h:A):if true=true then A else B:=by
 rw[if_pos rfl];exact h
def bB(H H':Hp):Prop:=∀b o,H b=some o->H' b=some o
theorem bB.refl(H:Hp):bB H H:=fun _ _ h=>h
theorem bB.trans{H H1 H2:Hp}(a:bB H H1) (b:bB H1 H2):bB H H2:=fun c o h=>b c o (a c o h)
theorem bB.free{H H':Hp}(e:bB H H') {l:Addr}(h:H' l=ZT):H l=ZT:=by
 cases q:H l with
 |none=>rfl
 |some o =>
  rw[e l o q]at h;cases h
theorem bB.seq{K:W.Frag}{H H':Hp}{a:Addr}{xs:List V}(e:bB H H') (h:dJ K H a xs):dJ K H' a xs:=by
 rcases h with (h|⟨o,h⟩)|h
 .exact .inl (.inl (e _ _ h))
 .exact .inl (.inr ⟨o,e _ _ h⟩)
 .exact .inr h
end L2
namespace Mr
def cell(ns:List Int) (k:Nat):Int:=ns.getD k 0
def bJ(ns:List Int):Nat->Nat
 |0=>0
 |k+1=>if ns.getD k 0<ns.getD (bJ ns k) 0 then k else bJ ns k
noncomputable def rot(ns:List Int) (i:Nat):List Int:=ns.drop i++ns.take i
def good(ns:List Int):List Int:=rot ns (bJ ns ns.length)
theorem iW(ns:List Int):∀n,(0<n->bJ ns n<n)/\(∀j,j<n->ns.getD (bJ ns n) 0<=ns.getD j 0)/\(∀j,j<bJ ns n->ns.getD (bJ ns n) 0<ns.getD j 0)
 |0=>⟨fun h=>absurd h (WW _),fun j h=>absurd h (Xo _),fun j h=>absurd h (Xo _)⟩
 |n+1=>by
  obtain⟨h1,h2,h3⟩:=iW ns n;simp only[bJ]
  by_cases c:ns.getD n 0<ns.getD (bJ ns n) 0
  .rw [if_pos c];refine⟨fun _=>WY n,fun j hj=>?_,fun j hj=>?_⟩
   .rcases XS (Zi hj) with q|q
    .have:=h2 j q;lia
    .subst q;exact Zs _
   .have:=h2 j hj;lia
  .rw [if_neg c];refine⟨fun _=>?_,fun j hj=>?_,h3⟩
   .by_cases hn:0<n
    .exact WO (h1 hn)
    .have:n=0:=by lia
     subst this;exact WY 0
   .rcases XS (Zi hj) with q|q
    .exact h2 j q
    .subst q;lia
theorem tZ(ns:List Int):bJ ns ns.length<=ns.length:=by
 by_cases h:0<ns.length
 .exact Wu ((iW ns ns.length).1 h)
 .have:ns.length=0:=by lia
  rw[this];exact Vu 0
theorem jQ{ns:List Int}{j:Nat}(h:j<ns.length):ns.getD j 0=ns[j]:=by
 rw[gDq,gEg h];rfl
theorem mW{ns:List Int}{M:Int}(hm:M∈ns) (hl:∀a,a∈ns->M<=a):ns.idxOf M=bJ ns ns.length:=by
 have h0:0<ns.length:=YH hm;obtain⟨h1,h2,h3⟩:=iW ns ns.length;have h1:=h1 h0;have hi:ns.idxOf M<ns.length:=Yw.mpr hm;have e:ns.getD (ns.idxOf M) 0=M:=by rw[jQ hi];exact Zd hi
 have eL:ns.getD (bJ ns ns.length) 0=M:=by
  have q1:=h2 _ hi;rw[e]at q1;have q2:=hl _ (by rw[jQ h1];exact gRq h1:ns.getD (bJ ns ns.length) 0∈ns)
  lia
 rcases Zj (ns.idxOf M) (bJ ns ns.length) with q|q|q
 .have:=h3 _ q;lia
 .exact q
 .exfalso;have:=List.not_of_lt_findIdx (p:=(· == M)) (xs:=ns) (i:=bJ ns ns.length) (by simpa [List.idxOf] using q)
  rw[jQ h1]at eL;simp[eL]at this
theorem B7(ns:List Int) (i:Nat):(rot ns i).length=ns.length:=by
 unfold rot;rw[lAq,VI,lTq];lia
theorem sj(ns:List Int):(good ns).length=ns.length:=B7 _ _
def step(ns:List Int):Int:=if 0<cell ns 0 % 3 then cell ns 0 % 10 ^ 40+1 else 1
def Q7(ns:List Int):Int:=if 0<cell ns 1 % 3 then cell ns 1 % 10 ^ 40 else 0
def Mm(ns:List Int) (k:Int):Int:=step ns*(((1+cell ns 1 / 3 % 66)*k+cell ns 0 / 3 % 67) % 67+1)+Q7 ns
def US(ns:List Int) (k:Int):Int:=if cell ns 1 % 5=4 then 10 ^ 60-Mm ns k else Mm ns k
theorem ox{A B:List Int}{m:Int}(h:∀x,x∈A->m<x) (h2:∀x,x∈B->m<=x):good (A++m::B)=m::B++A:=by
 have hm:m∈A++m::B:=by simp
 have hl:∀a,a∈A++m::B->m<=a:=fun a ha=>by
  rcases mAq.mp ha with q|q
  .exact Yg (h a q)
  .rcases VB.mp q with rfl|q
   .exact Zs _
   .exact h2 a q
 have e:=mW hm hl;have ei:(A++m::B).idxOf m=A.length:=by
  rw[Zk,if_neg (fun q=>absurd (h m q) (Int.lt_irrefl m)),YY,WT]
 unfold good rot;rw[←e,ei,YV,List.take_left]
theorem zd{t:List Int}(h0:t≠[]) (hn:t.Nodup):∃A m B,t=A++m::B/\(∀x,x∈A->m<x)/\∀x,x∈B->m<x:=by
 have hl:0<t.length:=Yj.mpr h0;obtain⟨h1,h2,h3⟩:=iW t t.length;have h1:=h1 hl;refine⟨t.take (bJ t t.length),t[bJ t t.length],t.drop (bJ t t.length+1),?_,?_,?_⟩
 .rw [←VW h1,V4]
 .intro x hx;obtain⟨j,hj,rfl⟩:=List.mem_take_iff_getElem.mp hx;have:=h3 j (by lia)
  rw[jQ h1,jQ (by lia)]at this
  exact this
 .intro x hx;obtain⟨j,hj,rfl⟩:=List.mem_drop_iff_getElem.mp hx;have a:=h2 (bJ t t.length+1+j) (by lia)
  rw[jQ h1,jQ (by lia)]at a
  have ne:t[bJ t t.length]≠t[bJ t t.length+1+j]:=WH.mp hn _ _ h1 (by lia) (by lia)
  lia
theorem FD{t:List Int}(hn:t.Nodup) (i:Nat):good (rot t i)=good t:=by
 by_cases h0:t=[]
 .subst h0;simp[rot]
 .obtain ⟨A,m,B,rfl,h1,h2⟩:=zd h0 hn;rw[ox h1 (fun x q=>Yg (h2 x q))]
  by_cases c:i<=A.length
  .have e:rot (A++m::B) i=A.drop i++m::(B++A.take i):=by
    unfold rot;rw[List.drop_append_of_le_length c,List.take_append_of_le_length c];simp
   rw[e,ox (fun x q=>h1 x (Wb q)) (fun x q=>?_)]
   .simp
   .rcases mAq.mp q with q|q
    .exact Yg (h2 x q)
    .exact Yg (h1 x (V3 q))
  .have hi:A.length<i:=by lia
   obtain⟨j,rfl⟩:∃j,i=A.length+(j+1):=⟨i-A.length-1,by lia⟩
   have e:rot (A++m::B) (A.length+(j+1))=(B.drop j++A)++m::B.take j:=by
    unfold rot;rw[Zt,List.take_append];simp[WE,Wh]
   rw[e,ox (fun x q=>?_) (fun x q=>Yg (h2 x (V3 q)))]
   .rw [X6,X6,←VP,V4]
   .rcases mAq.mp q with q|q
    .exact h2 x (Wb q)
    .exact h1 x q
theorem rot_perm(t:List Int) (i:Nat):(rot t i).Perm t:=by
 unfold rot;exact Wg.trans (by rw[V4])
theorem jd(t:List Int):(good t).Perm t:=rot_perm t _
theorem iX{rs ts:List (List Int)}(h:rs.Perm ts):rs.flatten.Perm ts.flatten:=by
 induction h with
 |nil=>exact .refl _
 |cons x _ ih=>rw[fCq,fCq];exact Wx.append (.refl x) ih
 |swap x y l =>
  rw[fCq,fCq,fCq,fCq,←VP,←VP];exact Wx.append Wg (.refl _)
 |trans _ _ a b=>exact a.trans b
theorem dR{f:List Int->List Int}(hf:∀r,(f r).Perm r):∀rs:List (List Int),(rs.map f).flatten.Perm rs.flatten
 | []=>.refl _
 |r::rs=>by
  rw[VG,fCq,fCq];exact Wx.append (hf r) (dR hf rs)
theorem ro{rs:List (List Int)}{r:List Int}(hr:r∈rs):r.length<=rs.flatten.length:=(VX hr).length_le
theorem Ck:∀t:Fin 66,∀d:Fin 67,0<d.val->(t.val+1)*d.val % 67≠0:=by decide +kernel
end Mr
namespace MrS
open PySem PyProof.Rows
noncomputable def jU:Bool->Keyed->Array Keyed->Nat->Nat->Nat->StateT SortSt Sem (Option Nat):=sortPriv% PySem.Builtin.gallop
structure nS (prog:Program) (w:World) (A:Around) (s:Shared) (κ:SortKind) (P:Keyed->Prop) (lt:Keyed->Keyed->Bool):Prop where
 ask:∀x y,P x->P y->∀(E:Value->Shared->Prop) (Q:Bool->Shared->Prop),Q (lt x y) s->wpAny (model prog w) A (keyLt' κ x.1 y.1) Q E s
 asym:∀x y,P x->P y->lt x y=true->lt y x=false
 trans:∀x y z,P x->P y->P z->lt y x=false->lt z y=false->lt z x=false
section
variable {prog:Program}{w:World}{A:Around}{E:Value->Shared->Prop}{s:Shared}{κ:SortKind}{P:Keyed->Prop}{lt:Keyed->Keyed->Bool}
theorem nS.refl(C:nS prog w A s κ P lt) {x:Keyed}(hx:P x):lt x x=false:=by
 cases e:lt x x with
 |false=>rfl
 |true=>rw[←C.asym x x hx hx e,e]
theorem nS.cmp(C:nS prog w A s κ P lt) {x y:Keyed}{st:SortSt}{Q:Option Bool->SortSt->Prop}(hx:P x) (hy:P y) (hk:kindOf st=κ) (h:Q (some (lt x y)) st) :
  wpS (model prog w) A E s (lt' x y) Q st:=by
 rw[lt'_eq];refine wpS_bind (wpS_get ?_);rw[hk];refine wpS_bind (wpS_lift (wpAny_attempt (C.ask x y hx hy _ _ ⟨rfl,?_⟩)));exact wpS_pure h
theorem bL{arr:Array Keyed}{i:Nat}{x:Keyed}{st:SortSt}{Q:Keyed->SortSt->Prop}(hx:arr[i]?=some x) (h:Q x st):wpS (model prog w) A E s (elem' arr i) Q st:=by
 rw[elem'_eq,hx];exact wpS_pure h
theorem nS.at(C:nS prog w A s κ P lt) {i j:Nat}{x y:Keyed}{st:SortSt}{Q:Option Bool->SortSt->Prop}(hi:(arrOf st)[i]?=some x) (hj:(arrOf st)[j]?=some y) (hx:P x) (hy:P y) (hk:kindOf st=κ) (h:Q (some (lt x y)) st) :
  wpS (model prog w) A E s (ltAt' i j) Q st:=by
 rw[ltAt'_eq];refine wpS_bind (wpS_get ?_);exact wpS_bind (bL hi (wpS_bind (bL hj (C.cmp hx hy hk h))))
def kR(lt:Keyed->Keyed->Bool) (left:Bool) (key:Keyed) (arr:Array Keyed) (base i:Nat):Bool :=
 if left then lt (arr.getD (base+i) key) key else !lt key (arr.getD (base+i) key)
theorem Bx(left:Bool) (key:Keyed) (arr:Array Keyed) (base n hint:Nat):jU left key arr base n hint=(do
 let beyond (i:Nat):StateT SortSt Sem (Option Bool):=do
  let x ←elem' arr (base+i)
  if left then lt' x key else return (←lt' key x).map (!·)
 let mut lastofs:=0
 let mut ofs:=1
 let mut lo:=0
 let mut hi:=0
 let some right ←beyond hint|return none
 if right then
  let maxofs:=n-hint
  for _ in [0:n] do
   if ofs ≥ maxofs then break
   let some more ←beyond (hint+ofs)|return none
   if !more then break
   lastofs:=ofs
   ofs:=2*ofs+1
  lo:=hint+lastofs+1
  hi:=hint+min ofs maxofs
 else
  let maxofs:=hint+1
  for _ in [0:n] do
   if ofs ≥ maxofs then break
   let some found ←beyond (hint-ofs)|return none
   if found then break
   lastofs:=ofs
   ofs:=2*ofs+1
  lo:=hint+1-min ofs maxofs
  hi:=hint-lastofs
 for _ in [0:n] do
  if lo ≥ hi then break
  let m:=lo+(hi-lo) / 2
  let some more ←beyond m|return none
  if more then lo:=m+1 else hi:=m
 return some hi):=rfl
theorem jK(C:nS prog w A s κ P lt) {left:Bool}{key:Keyed}{arr:Array Keyed}{base i:Nat}{st:SortSt}{Q:Option Bool->SortSt->Prop}(hi:base+i<arr.size) (ha:∀x,x∈arr->P x) (hkey:P key) (hk:kindOf st=κ)
  (h:Q (some (kR lt left key arr base i)) st):wpS (model prog w) A E s (do
   let x ←elem' arr (base+i)
   if left=true then lt' x key else do
    let __x ←lt' key x
    pure (__x.map (!·))) Q st:=by
 have e:arr[base+i]?=some arr[base+i]:=Vv hi;have e2:arr.getD (base+i) key=arr[base+i]:=by simp[Y5,hi]
 refine wpS_bind (bL e ?_);have hp:P arr[base+i]:=ha _ (V5 hi);unfold kR at h;rw[e2]at h;cases left with
 |true =>
  rw[if_pos rfl]at h ⊢;exact C.cmp hp hkey hk h
 |false =>
  rw[if_neg (by decide)]at h ⊢
  exact wpS_bind (C.cmp hkey hp hk (wpS_pure h))
theorem sv{left:Bool}{key:Keyed}{arr:Array Keyed}{base n lo hi:Nat}{st:SortSt}{f:Nat->Option (Option Nat)×Nat×Nat->StateT SortSt Sem (ForInStep (Option (Option Nat)×Nat×Nat))}
  (mono:∀i j,i<=j->j<n->kR lt left key arr base j=true->kR lt left key arr base i=true)
  (down:∀i j,i<=j->j<n->kR lt left key arr base i=false->kR lt left key arr base j=false)
  (hf:∀(i l u:Nat) (Q':ForInStep (Option (Option Nat)×Nat×Nat)->SortSt->Prop),u<=n->(u<=l->Q' (.done (none,l,u)) st)->(l<u->kR lt left key arr base (l+(u-l) / 2)=true->Q' (.yield (none,l+(u-l) / 2+1,u)) st) ->
   (l<u->kR lt left key arr base (l+(u-l) / 2)=false->Q' (.yield (none,l,l+(u-l) / 2)) st)->wpS (model prog w) A E s (f i (none,l,u)) Q' st)
  (h1:lo<=hi) (h2:hi<=n) (h3:∀j,j<lo->kR lt left key arr base j=true) (h4:∀j,hi<=j->j<n->kR lt left key arr base j=false) :
  wpS (model prog w) A E s (forIn [:n] ((none,lo,hi):Option (Option Nat)×Nat×Nat) f)
   (fun c st'=>∃k,c=(none,k,k)/\st'=st/\k<=n/\(∀j,j<k->kR lt left key arr base j=true)/\(∀j,k<=j->j<n->kR lt left key arr base j=false)) st:=by
 refine wpS_forRange
  (I:=fun i c st'=>∃l u,c=(none,l,u)/\st'=st/\l<=u/\u<=n/\(∀j,j<l->kR lt left key arr base j=true)/\(∀j,u<=j->j<n->kR lt left key arr base j=false)/\(u-l)+i<=n)
  ?step ?fin ⟨lo,hi,rfl,rfl,h1,h2,h3,h4,by lia⟩
 case step =>
  rintro i c st' _ hi' ⟨l,u,rfl,rfl,a1,a2,a3,a4,a5⟩;refine hf i l u _ a2 (fun c1=>?_) (fun c1 e=>?_) (fun c1 e=>?_)
  .have e:l=u:=by lia
   subst e;exact⟨l,rfl,rfl,a2,a3,a4⟩
  .exact ⟨_,u,rfl,rfl,by lia,a2,fun j hj=>mono j _ (by lia) (by lia) e,a4,by lia⟩
  .exact ⟨l,_,rfl,rfl,by lia,by lia,a3,fun j hj hn=>down _ j hj hn e,by lia⟩
 case fin =>
  rintro c st' ⟨l,u,rfl,rfl,a1,a2,a3,a4,a5⟩;have e:l=u:=by lia
  subst e;exact⟨l,rfl,rfl,a2,a3,a4⟩
theorem gR(C:nS prog w A s κ P lt) {left:Bool}{key:Keyed}{arr:Array Keyed}{base n hint:Nat}{st:SortSt}{Q:Option Nat->SortSt->Prop}(hh:hint<n) (hb:base+n<=arr.size) (ha:∀x,x∈arr->P x) (hkey:P key) (hk:kindOf st=κ)
  (mono:∀i j,i<=j->j<n->kR lt left key arr base j=true->kR lt left key arr base i=true)
  (h:∀k,k<=n->(∀j,j<k->kR lt left key arr base j=true)->(∀j,k<=j->j<n->kR lt left key arr base j=false)->Q (some k) st) :
  wpS (model prog w) A E s (jU left key arr base n hint) Q st:=by
 have down:∀i j,i<=j->j<n->kR lt left key arr base i=false->kR lt left key arr base j=false:=fun i j hij hj e=>by
  cases q:kR lt left key arr base j with
  |false=>rfl
  |true=>rw[mono i j hij hj q]at e;cases e
 rw[Bx];dsimp only;refine wpS_bind (jK C (base:=base) (i:=hint) (by lia) ha hkey hk ?_)
 cases er:kR lt left key arr base hint with
 |true =>
  dsimp only;rw[if_pos rfl];refine wpS_bind (wpS_mono (wpS_forRange
   (I:=fun i c st'=>∃l o,c=(none,l,o)/\st'=st/\l<o/\i+1<=o/\hint+l<n/\kR lt left key arr base (hint+l)=true)
   (Q:=fun c st'=>∃l o,c=(none,l,o)/\st'=st/\l<o/\hint+l<n/\kR lt left key arr base (hint+l)=true/\(n-hint<=o∨(hint+o<n/\kR lt left key arr base (hint+o)=false)))
   ?step ?fin ⟨0,1,rfl,rfl,by lia,by lia,by lia,er⟩) ?post)
  case step =>
   rintro i c st' _ hi' ⟨l,o,rfl,rfl,a1,a2,a3,a4⟩;dsimp only
   by_cases c1:o ≥ n-hint
   .rw [if_pos c1];exact wpS_pure ⟨l,o,rfl,rfl,a1,a3,a4,.inl c1⟩
   .rw [if_neg c1];refine wpS_bind (jK C (base:=base) (i:=hint+o) (by lia) ha hkey hk ?_)
    cases e:kR lt left key arr base (hint+o) with
    |true =>
     dsimp only;rw[if_neg (by decide)]
     exact wpS_pure ⟨o,_,rfl,rfl,by lia,by lia,by lia,e⟩
    |false =>
     dsimp only;rw[if_pos (by decide)]
     exact wpS_pure ⟨l,o,rfl,rfl,a1,a3,a4,.inr ⟨by lia,e⟩⟩
  case fin =>
   rintro c st' ⟨l,o,rfl,rfl,a1,a2,a3,a4⟩;exact⟨l,o,rfl,rfl,a1,a3,a4,.inl (by lia)⟩
  case post =>
   rintro c st' ⟨l,o,rfl,rfl,a1,a3,a4,a5⟩;dsimp only;refine wpS_bind (wpS_mono (sv (lt:=lt) (left:=left) (key:=key) (arr:=arr) (base:=base) mono down (fun i l' u' Q' hu q1 q2 q3=>?_) (by lia) (by lia) (fun j hj=>mono j _ (by lia) a3 a4) ?_) ?_)
   .dsimp only
    by_cases c1:l' ≥ u'
    .rw [if_pos c1];exact wpS_pure (q1 c1)
    .rw [if_neg c1];refine wpS_bind (jK C (base:=base) (i:=l'+(u'-l') / 2) (by lia) ha hkey hk ?_)
     cases e:kR lt left key arr base (l'+(u'-l') / 2) with
     |true =>
      dsimp only;rw[if_pos rfl];exact wpS_pure (q2 (by lia) e)
     |false =>
      dsimp only;rw[if_neg (by decide)]
      exact wpS_pure (q3 (by lia) e)
   .intro j hj hn;rcases a5 with a5|⟨a5,a6⟩
    .lia
    .exact down (hint+o) j (by lia) hn a6
   .rintro c st' ⟨k,rfl,rfl,k1,k2,k3⟩;exact wpS_pure (h k k1 k2 k3)
 |false =>
  dsimp only;rw[if_neg (by decide)]
  refine wpS_bind (wpS_mono (wpS_forRange
   (I:=fun i c st'=>∃l o,c=(none,l,o)/\st'=st/\l<o/\i+1<=o/\l<=hint/\kR lt left key arr base (hint-l)=false)
   (Q:=fun c st'=>∃l o,c=(none,l,o)/\st'=st/\l<o/\l<=hint/\kR lt left key arr base (hint-l)=false/\(hint+1<=o∨(o<=hint/\kR lt left key arr base (hint-o)=true)))
   ?step ?fin ⟨0,1,rfl,rfl,by lia,by lia,by lia,er⟩) ?post)
  case step =>
   rintro i c st' _ hi' ⟨l,o,rfl,rfl,a1,a2,a3,a4⟩;dsimp only
   by_cases c1:o ≥ hint+1
   .rw [if_pos c1];exact wpS_pure ⟨l,o,rfl,rfl,a1,a3,a4,.inl c1⟩
   .rw [if_neg c1];refine wpS_bind (jK C (base:=base) (i:=hint-o) (by lia) ha hkey hk ?_)
    cases e:kR lt left key arr base (hint-o) with
    |true =>
     dsimp only;rw[if_pos rfl];exact wpS_pure ⟨l,o,rfl,rfl,a1,a3,a4,.inr ⟨by lia,e⟩⟩
    |false =>
     dsimp only;rw[if_neg (by decide)]
     exact wpS_pure ⟨o,_,rfl,rfl,by lia,by lia,by lia,e⟩
  case fin =>
   rintro c st' ⟨l,o,rfl,rfl,a1,a2,a3,a4⟩;exact⟨l,o,rfl,rfl,a1,a3,a4,.inl (by lia)⟩
  case post =>
   rintro c st' ⟨l,o,rfl,rfl,a1,a3,a4,a5⟩;dsimp only;refine wpS_bind (wpS_mono (sv (lt:=lt) (left:=left) (key:=key) (arr:=arr) (base:=base) mono down (fun i l' u' Q' hu q1 q2 q3=>?_) (by lia) (by lia) ?_ (fun j hj hn=>down _ j hj hn a4)) ?_)
   .dsimp only
    by_cases c1:l' ≥ u'
    .rw [if_pos c1];exact wpS_pure (q1 c1)
    .rw [if_neg c1];refine wpS_bind (jK C (base:=base) (i:=l'+(u'-l') / 2) (by lia) ha hkey hk ?_)
     cases e:kR lt left key arr base (l'+(u'-l') / 2) with
     |true =>
      dsimp only;rw[if_pos rfl];exact wpS_pure (q2 (by lia) e)
     |false =>
      dsimp only;rw[if_neg (by decide)]
      exact wpS_pure (q3 (by lia) e)
   .intro j hj;rcases a5 with a5|⟨a5,a6⟩
    .lia
    .exact mono j (hint-o) (by lia) (by lia) a6
   .rintro c st' ⟨k,rfl,rfl,k1,k2,k3⟩;exact wpS_pure (h k k1 k2 k3)
end
abbrev kP(lt:Keyed->Keyed->Bool) (l:List Keyed):Prop:=l.Pairwise fun x y=>lt y x=false
structure MI (lt:Keyed->Keyed->Bool) (a b out:Array Keyed) (ia ib:Nat):Prop where
 la:ia<=a.size
 lb:ib<=b.size
 pm:(out.toList++(a.toList.drop ia++b.toList.drop ib)).Perm (a.toList++b.toList)
 so:kP lt out.toList
 ua:∀x∈out.toList,∀y∈a.toList.drop ia,lt y x=false
 ub:∀x∈out.toList,∀y∈b.toList.drop ib,lt y x=false
section
variable {lt:Keyed->Keyed->Bool}{a b out out':Array Keyed}{ia ib k:Nat}
theorem MI.congr(m:MI lt a b out ia ib) (e:out'.toList=out.toList):MI lt a b out' ia ib:=⟨m.la,m.lb,by rw[e];exact m.pm,by rw[e];exact m.so,by rw[e];exact m.ua,by rw[e];exact m.ub⟩
theorem ze(l:List Keyed) (i k:Nat):l.drop i=(l.drop i).take k++l.drop (i+k):=by
 rw[←YW,V4]
theorem lz(a:Array Keyed) (i k:Nat):(a.extract i (i+k)).toList=(a.toList.drop i).take k:=by
 rw[Yd,XM,YB]
theorem MI.moreA(m:MI lt a b out ia ib) (sa:kP lt a.toList) (hk:ia+k<=a.size) (h:∀x∈(a.toList.drop ia).take k,∀y∈b.toList.drop ib,lt y x=false):MI lt a b (out++a.extract ia (ia+k)) (ia+k) ib:=by
 have e:(out++a.extract ia (ia+k)).toList=out.toList++(a.toList.drop ia).take k:=by rw[VT,lz]
 have sd:kP lt (a.toList.drop ia):=sa.sublist (Ws _ _);have c:=ze a.toList ia k;have sd2:=sd;rw[c]at sd2;obtain⟨q1,q2,q3⟩:=VY.mp sd2;refine⟨hk,m.lb,?_,?_,?_,?_⟩
 .rw [e,VP];refine(Wx.append_left _ ?_).trans m.pm;rw[←VP,←c]
 .rw [e];exact VY.mpr ⟨m.so,q1,fun x hx y hy=>m.ua x hx y (V3 hy)⟩
 .rw [e];intro x hx y hy;rcases mAq.mp hx with hx|hx
  .exact m.ua x hx y (by rw[c];exact VH _ hy)
  .exact q3 x hx y hy
 .rw [e];intro x hx y hy;rcases mAq.mp hx with hx|hx
  .exact m.ub x hx y hy
  .exact h x hx y hy
theorem MI.moreB(m:MI lt a b out ia ib) (sb:kP lt b.toList) (hk:ib+k<=b.size) (h:∀x∈(b.toList.drop ib).take k,∀y∈a.toList.drop ia,lt y x=false):MI lt a b (out++b.extract ib (ib+k)) ia (ib+k):=by
 have e:(out++b.extract ib (ib+k)).toList=out.toList++(b.toList.drop ib).take k:=by rw[VT,lz]
 have sd:kP lt (b.toList.drop ib):=sb.sublist (Ws _ _);have c:=ze b.toList ib k;have sd2:=sd;rw[c]at sd2;obtain⟨q1,q2,q3⟩:=VY.mp sd2;refine⟨m.la,hk,?_,?_,?_,?_⟩
 .rw [e,VP];refine(Wx.append_left _ ?_).trans m.pm;refine((List.perm_append_comm_assoc _ _ _).trans ?_);rw[←c]
 .rw [e];exact VY.mpr ⟨m.so,q1,fun x hx y hy=>m.ub x hx y (V3 hy)⟩
 .rw [e];intro x hx y hy;rcases mAq.mp hx with hx|hx
  .exact m.ua x hx y hy
  .exact h x hx y hy
 .rw [e];intro x hx y hy;rcases mAq.mp hx with hx|hx
  .exact m.ub x hx y (by rw[c];exact VH _ hy)
  .exact q3 x hx y hy
theorem lU{l:List Keyed}{i:Nat}{x:Keyed}(h:l[i]?=some x):(l.drop i).take 1=[x]:=by
 obtain⟨hi,e⟩:=gSq.mp h;rw[VW hi,e];rfl
theorem MI.pushA{x:Keyed}(m:MI lt a b out ia ib) (sa:kP lt a.toList) (hx:a[ia]?=some x) (h:∀y∈b.toList.drop ib,lt y x=false):MI lt a b (out.push x) (ia+1) ib:=by
 have hi:ia<a.size:=(VQ.mp hx).1;have hx':a.toList[ia]?=some x:=by rw[VR];exact hx
 refine(m.moreA sa (k:=1) hi fun z hz y hy=>?_).congr ?_
 .rw [lU hx',mSq]at hz;rw[hz];exact h y hy
 .rw [Xv,VT,lz,lU hx']
theorem MI.pushB{x:Keyed}(m:MI lt a b out ia ib) (sb:kP lt b.toList) (hx:b[ib]?=some x) (h:∀y∈a.toList.drop ia,lt y x=false):MI lt a b (out.push x) ia (ib+1):=by
 have hi:ib<b.size:=(VQ.mp hx).1;have hx':b.toList[ib]?=some x:=by rw[VR];exact hx
 refine(m.moreB sb (k:=1) hi fun z hz y hy=>?_).congr ?_
 .rw [lU hx',mSq]at hz;rw[hz];exact h y hy
 .rw [Xv,VT,lz,lU hx']
structure JK (lt:Keyed->Keyed->Bool) (a b r:Array Keyed):Prop where
 pm:r.toList.Perm (a.toList++b.toList)
 so:kP lt r.toList
theorem kN(a:Array Keyed) (i:Nat):(a.extract i a.size).toList=a.toList.drop i:=by
 rw[Yd,XM];exact Wh (by rw[VI,VD];exact Vu _)
theorem MI.endB(m:MI lt a b out ia ib) (sa:kP lt a.toList) (e:ib=b.size):JK lt a b (out++a.extract ia a.size++b.extract ib b.size):=by
 have eb:b.toList.drop ib=[]:=by rw[e,←VD,Xf]
 have et:(out++a.extract ia a.size++b.extract ib b.size).toList=out.toList++a.toList.drop ia:=by
  rw[VT,VT,kN,kN,eb,aNq]
 have pm:=m.pm;rw[eb,aNq]at pm;exact⟨by rw[et];exact pm,by rw[et];exact VY.mpr ⟨m.so,sa.sublist (Ws _ _),m.ua⟩⟩
theorem MI.endA(m:MI lt a b out ia ib) (sb:kP lt b.toList) (e:ia=a.size):JK lt a b (out++a.extract ia a.size++b.extract ib b.size):=by
 have ea:a.toList.drop ia=[]:=by rw[e,←VD,Xf]
 have et:(out++a.extract ia a.size++b.extract ib b.size).toList=out.toList++b.toList.drop ib:=by
  rw[VT,VT,kN,kN,ea,aNq]
 have pm:=m.pm;rw[ea,WQ]at pm;exact⟨by rw[et];exact pm,by rw[et];exact VY.mpr ⟨m.so,sb.sublist (Ws _ _),m.ub⟩⟩
theorem MI.lastA(m:MI lt a b out ia ib) (sa:kP lt a.toList) (sb:kP lt b.toList) (h:∀x∈b.toList.drop ib,∀y∈a.toList.drop ia,lt y x=false):JK lt a b (out++b.extract ib b.size++a.extract ia a.size):=by
 have et:(out++b.extract ib b.size++a.extract ia a.size).toList=out.toList++(b.toList.drop ib++a.toList.drop ia):=by
  rw[VT,VT,kN,kN,VP]
 refine⟨?_,?_⟩
 .rw [et];exact(Wx.append_left _ Wg).trans m.pm
 .rw [et];refine VY.mpr ⟨m.so,VY.mpr ⟨sb.sublist (Ws _ _),sa.sublist (Ws _ _),h⟩,fun x hx y hy=>?_⟩
  rcases mAq.mp hy with hy|hy
  .exact m.ub x hx y hy
  .exact m.ua x hx y hy
end
noncomputable def tR:Array Keyed->Array Keyed->StateT SortSt Sem (Array Keyed):=sortPriv% PySem.Builtin.mergeLo
noncomputable def eK:Nat->StateT SortSt Sem Unit:=sortPriv% PySem.Builtin.setMinGallop
abbrev sg(st:SortSt) (g:Nat):SortSt:=SortSt.mk' (kindOf st) (arrOf st) (pendingOf st) g (failedOf st)
theorem qS(g:Nat):eK g=modify fun st=>sg st g:=rfl
section
variable (a b:Array Keyed)
noncomputable abbrev dn(o:Array Keyed) (i j:Nat):=o++a.extract i a.size++b.extract j b.size
noncomputable abbrev lA(o:Array Keyed) (i j:Nat):=o++b.extract j b.size++a.extract i a.size
noncomputable abbrev SF(α:Type):=ForInStep (Option (Array Keyed)×Array Keyed×Nat×Nat×α)
def Tt(o:Array Keyed) (i j m k l:Nat):StateT SortSt Sem (SF (Nat×Nat×Nat)):=do
 let x ←elem' a i
 if i+1+1 == a.size then pure (.done (some (lA a b (o.push x) (i+1) j),o.push x,i+1,j,m,k,l))
 else if decide (k<7) && decide (l<7) then pure (.done (none,o.push x,i+1,j,m,k,l))
 else pure (.yield (none,o.push x,i+1,j,m,k,l))
def Te(o:Array Keyed) (i j m k q:Nat):StateT SortSt Sem (SF (Nat×Nat×Nat)):=do
 let x ←elem' b j
 if j+1 == b.size then pure (.done (some (dn a b (o.push x) i (j+1)),o.push x,i,j+1,m,k,q))
 else do
  let y ←elem' a i
  match ←jU true y b (j+1) (b.size-(j+1)) 0 with
  |some l =>
   if l>0 then
    if j+1+l == b.size then pure (.done (some (dn a b (o.push x++b.extract (j+1) (j+1+l)) i (j+1+l)),o.push x++b.extract (j+1) (j+1+l),i,j+1+l,m,k,l))
    else Tt a b (o.push x++b.extract (j+1) (j+1+l)) i (j+1+l) m k l
   else Tt a b (o.push x) i (j+1) m k l
  |_=>pure (.done (some (dn a b (o.push x) i (j+1)),o.push x,i,j+1,m,k,q))
def Tv(o:Array Keyed) (i j m p q:Nat):StateT SortSt Sem (SF (Nat×Nat×Nat)):=do
 eK m
 let x ←elem' b j
 match ←jU false x a i (a.size-i) 0 with
 |some k =>
  if k>0 then
   if i+k+1 == a.size then pure (.done (some (lA a b (o++a.extract i (i+k)) (i+k) j),o++a.extract i (i+k),i+k,j,m,k,q))
   else if i+k == a.size then pure (.done (some (dn a b (o++a.extract i (i+k)) (i+k) j),o++a.extract i (i+k),i+k,j,m,k,q))
   else Te a b (o++a.extract i (i+k)) (i+k) j m k q
  else Te a b o i j m k q
 |_=>pure (.done (some (dn a b o i j),o,i,j,m,p,q))
def T9(m:Nat) (o:Array Keyed) (i j p q:Nat):StateT SortSt Sem (SF (Nat×Nat)):=do
 let y ←elem' b j
 let x ←elem' a i
 match ←lt' y x with
 |some c =>
  if c then do
   let z ←elem' b j
   if j+1 == b.size then pure (.done (some (dn a b (o.push z) i (j+1)),o.push z,i,j+1,0,q+1))
   else if q+1 ≥ m then pure (.done (none,o.push z,i,j+1,0,q+1))
   else pure (.yield (none,o.push z,i,j+1,0,q+1))
  else do
   let z ←elem' a i
   if i+1+1 == a.size then pure (.done (some (lA a b (o.push z) (i+1) j),o.push z,i+1,j,p+1,0))
   else if p+1 ≥ m then pure (.done (none,o.push z,i+1,j,p+1,0))
   else pure (.yield (none,o.push z,i+1,j,p+1,0))
 |_=>pure (.done (some (dn a b o i j),o,i,j,p,q))
def UC(o:Array Keyed) (i j m:Nat):StateT SortSt Sem (SF Nat):=do
 let r ←forIn [0:a.size+b.size] (none,o,i,j,0,0) fun _ s=>T9 a b m s.2.1 s.2.2.1 s.2.2.2.1 s.2.2.2.2.1 s.2.2.2.2.2
 Break.runK.match_1 (fun _=>StateT SortSt Sem (SF Nat)) r.1 (fun v=>pure (.done (some v,r.2.1,r.2.2.1,r.2.2.2.1,m))) fun _=>do
  rule "list.sort.gallop"
  let r ←forIn [0:a.size+b.size] (none,r.2.1,r.2.2.1,r.2.2.2.1,m+1,r.2.2.2.2.1,r.2.2.2.2.2) fun _ s=>if s.2.2.2.2.1>1 then Tv a b s.2.1 s.2.2.1 s.2.2.2.1 (s.2.2.2.2.1-1) s.2.2.2.2.2.1 s.2.2.2.2.2.2 else Tv a b s.2.1 s.2.2.1 s.2.2.2.1 s.2.2.2.2.1 s.2.2.2.2.2.1 s.2.2.2.2.2.2
  Break.runK.match_1 (fun _=>StateT SortSt Sem (SF Nat)) r.1 (fun v=>pure (.done (some v,r.2.1,r.2.2.1,r.2.2.2.1,r.2.2.2.2.1))) fun _=>do
   eK (r.2.2.2.2.1+1)
   pure (.yield (none,r.2.1,r.2.2.1,r.2.2.2.1,r.2.2.2.2.1+1))
theorem zZ:tR a b=(do
 rule "list.sort.merge-lo"
 let x ←elem' b 0
 if 1 == b.size then pure (dn a b #[x] 0 1)
 else if 0+1 == a.size then pure (lA a b #[x] 0 1)
 else do
  let st ←get
  let r ←forIn [0:a.size+b.size] (none,#[x],0,1,gallopOf st) fun _ s=>UC a b s.2.1 s.2.2.1 s.2.2.2.1 s.2.2.2.2
  Break.runK.match_1 (fun _=>StateT SortSt Sem (Array Keyed)) r.1 (fun v=>pure v) fun _=>unsupported "internal:list.sort.merge-bound"):=rfl
end
section
variable {prog:Program}{w:World}{A:Around}{E:Value->Shared->Prop}{s:Shared}{κ:SortKind}{P:Keyed->Prop}{lt:Keyed->Keyed->Bool}
theorem kU{g:Nat}{st:SortSt}{Q:Unit->SortSt->Prop}(h:Q () (sg st g)):wpS (model prog w) A E s (eK g) Q st:=by
 rw[qS];exact wpS_modify h
theorem kA{x:String}{st:SortSt}{Q:Unit->SortSt->Prop}(h:Q () st):wpS (model prog w) A E s (liftM (rule x):StateT SortSt Sem Unit) Q st:=wpS_lift (wpAny_rule ⟨rfl,h⟩)
theorem tD(C:nS prog w A s κ P lt) {a:Array Keyed}{i:Nat}{x:Keyed}(ha:∀x,x∈a->P x) (sa:kP lt a.toList) (hx:a[i]?=some x):∀y∈a.toList.drop i,lt y x=false:=by
 obtain⟨hi,e⟩:=VQ.mp hx;have hi':i<a.toList.length:=by simpa using hi
 have e':a.toList[i]=x:=by simpa using e
 have sd:kP lt (a.toList.drop i):=sa.sublist (Ws _ _);rw[VW hi',e']at sd ⊢;intro y hy;rcases VB.mp hy with rfl|hy
 .exact C.refl (ha _ (by rw[←e];exact V5 hi))
 .exact (Ze.mp sd).1 y hy
theorem jq{a:Array Keyed}{i:Nat}{y:Keyed}(h:y∈a.toList.drop i):y∈a:=by simpa using Wb h
theorem qc(C:nS prog w A s κ P lt) {left:Bool}{key:Keyed}{arr:Array Keyed}{base n:Nat}(hb:base+n<=arr.size) (ha:∀x,x∈arr->P x) (hkey:P key) (so:kP lt (arr.toList.drop base)) :
  ∀i j,i<=j->j<n->kR lt left key arr base j=true->kR lt left key arr base i=true:=by
 intro i j hij hj h;have hi':base+i<arr.size:=by lia
 have hj':base+j<arr.size:=by lia
 have ei:arr.getD (base+i) key=arr[base+i]:=by simp[Y5,hi']
 have ej:arr.getD (base+j) key=arr[base+j]:=by simp[Y5,hj']
 have pi:=ha _ (V5 hi');have pj:=ha _ (V5 hj');have le:lt arr[base+j] arr[base+i]=false:=by
  rcases XS hij with q|q
  .have:=WH.mp so i j (by simp;lia) (by simp;lia) q
   simpa using this
  .subst q;exact C.refl pi
 unfold kR at h ⊢;rw[ei];rw[ej]at h;cases left with
 |true =>
  rw[if_pos rfl]at h ⊢;cases q:lt arr[base+i] key with
  |true=>rfl
  |false =>
   have:=C.trans key arr[base+i] arr[base+j] hkey pi pj q le;rw[h]at this;cases this
 |false =>
  rw[if_neg (by decide)]at h ⊢
  have h':lt key arr[base+j]=false:=by simpa using h
  have:=C.trans arr[base+i] arr[base+j] key pi pj hkey le h';simp[this]
theorem gK{left:Bool}{key x:Keyed}{arr:Array Keyed}{base i:Nat}(hx:arr[base+i]?=some x):kR lt left key arr base i=if left then lt x key else !lt key x:=by
 obtain⟨hi,e⟩:=VQ.mp hx;unfold kR;have ei:arr.getD (base+i) key=x:=by simp[Y5,hi,e]
 rw[ei]
theorem ki{a:Array Keyed}{i k:Nat}{x:Keyed}(h:x∈(a.toList.drop i).take k):∃j,j<k/\a[i+j]?=some x:=by
 obtain⟨j,hj,e⟩:=WM.mp h;rw[lTq]at hj;refine⟨j,by lia,?_⟩
 rw[Ys,X2]at e;rw[VQ];have hs:i+j<a.size:=by
  rw[VI,VD]at hj;lia
 exact⟨hs,by simpa using e⟩
theorem mJ{a:Array Keyed}{i:Nat}{x:Keyed}(h:x∈a.toList.drop i):∃j,i+j<a.size/\a[i+j]?=some x:=by
 obtain⟨j,hj,e⟩:=WM.mp h;rw[VI,VD]at hj;have hs:i+j<a.size:=by lia
 refine⟨j,hs,?_⟩;rw[X2]at e;rw[VQ];exact⟨hs,by simpa using e⟩
inductive Lp {ρ τ ι σ:Type}(t:ι->τ) (v:ι->σ) (J K:ι->Prop) (R:ρ->σ->Prop):ForInStep (Option ρ×τ)->σ->Prop
 |y (x):J x->Lp t v J K R (.yield (none,t x)) (v x)
 |d (x):K x->Lp t v J K R (.done (none,t x)) (v x)
 |r (a y st):R a st->Lp t v J K R (.done (some a,y)) st
theorem kO{M:Model}{ρ τ ι σ β:Type}{n:Nat}(t:ι->τ) (v:ι->σ) (J:Nat->ι->Prop) (K:ι->Prop) (R:ρ->σ->Prop) {f:Nat->Option ρ×τ->StateT σ Sem (ForInStep (Option ρ×τ))}{k:Option ρ×τ->StateT σ Sem β}{Q:β->σ->Prop}
  (x:ι) (h:J 0 x) (step:∀i x,J i x->wpS M A E s (f i (none,t x)) (Lp t v (J (i+1)) K R) (v x)) (fin:∀x,J n x->K x) (pn:∀x,K x->wpS M A E s (k (none,t x)) Q (v x)) (ps:∀r y st,R r st->wpS M A E s (k (some r,y)) Q st) :
  wpS M A E s (forIn [0:n] (none,t x) f >>= k) Q (v x):=by
 refine wpS_bind (wpS_mono (wpS_forRange (I:=fun i c st=>∃x,c=(none,t x)/\st=v x/\J i x) (Q:=fun c st=>Lp t v K K R (.done c) st) ?_ ?_ ⟨x,rfl,rfl,h⟩) ?_)
 .rintro i c st _ _ ⟨x,rfl,rfl,h⟩;refine wpS_mono (step i x h) fun r st' hr=>?_
  cases hr with
  |y x h=>exact⟨x,rfl,rfl,h⟩
  |d x h=>exact .d x h
  |r a y st h=>exact .r a y _ h
 .rintro c st ⟨x,rfl,rfl,h⟩;rw[Zu (Wf n)]at h;exact .d x (fin x h)
 .rintro c st h;cases h with
  |d x h=>exact pn x h
  |r a y st h=>exact ps a y _ h
structure Ls where
 o:Array Keyed
 (i j m p q g:Nat)
structure ML (lt:Keyed->Keyed->Bool) (a b:Array Keyed) (n:Nat) (x:Ls):Prop where
 m:MI lt a b x.o x.i x.j
 p:x.i+1<a.size
 q:x.j<b.size
 r:n<=x.i+x.j
structure Lo (prog:Program) (w:World) (A:Around) (s:Shared) (κ:SortKind) (P:Keyed->Prop) (lt:Keyed->Keyed->Bool) (a b:Array Keyed) (st:SortSt) (Q:Array Keyed->SortSt->Prop):Prop where
 C:nS prog w A s κ P lt
 ha:∀x,x∈a->P x
 hb:∀x,x∈b->P x
 hk:kindOf st=κ
 sa:kP lt a.toList
 sb:kP lt b.toList
 h:∀r g,JK lt a b r->Q r (sg st g)
abbrev L6(x:Ls):=(x.o,x.i,x.j,x.m,x.p,x.q)
abbrev L5(x:Ls):=(x.o,x.i,x.j,x.p,x.q)
abbrev L4(x:Ls):=(x.o,x.i,x.j,x.m)
variable {a b:Array Keyed}{st:SortSt}{Q:Array Keyed->SortSt->Prop}{n:Nat}{x:Ls}
noncomputable abbrev Hl(lt:Keyed->Keyed->Bool) (a b:Array Keyed):=∀i,i+1=a.size->∀x∈b.toList,∀y∈a.toList.drop i,lt y x=false
theorem Hi(H:Lo prog w A s κ P lt a b st Q) (hl:Hl lt a b) (q:ML lt a b n x) (hi:∀z,a[x.i]?=some z->∀y∈b.toList.drop x.j,lt y z=false) :
  wpS (model prog w) A E s (Tt a b x.o x.i x.j x.m x.p x.q) (Lp L6 (fun x=>sg st x.g) (ML lt a b n) (ML lt a b n) Q) (sg st x.g):=by
 have p1:=q.p;have ea:a[x.i]?=some a[x.i]:=Vv (by lia)
 refine wpS_bind (bL ea ?_);have m6:=q.m.pushA H.sa ea (hi _ ea)
 by_cases d6:x.i+1+1=a.size
 .rw [if_pos (by simp[d6])]
  exact wpS_pure (.r _ _ _ (H.h _ _ (m6.lastA H.sa H.sb fun y hy=>hl _ d6 y (Wb hy))))
 rw[if_neg (by simpa using d6)]
 have R:ML lt a b n ⟨_,_,_,x.m,x.p,x.q,x.g⟩:=⟨m6,by dsimp only;lia,q.q,by have:=q.r;dsimp only;lia⟩
 split
 .exact wpS_pure (.d _ R)
 .exact wpS_pure (.y _ R)
theorem HR(H:Lo prog w A s κ P lt a b st Q) (hl:Hl lt a b) (q:ML lt a b n x) (hi:∀z,b[x.j]?=some z->∀y∈a.toList.drop x.i,lt y z=false) :
  wpS (model prog w) A E s (Te a b x.o x.i x.j x.m x.p x.q) (Lp L6 (fun x=>sg st x.g) (ML lt a b n) (ML lt a b n) Q) (sg st x.g):=by
 have p1:=q.p;have p2:=q.q;have p3:=q.r;have eb:b[x.j]?=some b[x.j]:=Vv p2;refine wpS_bind (bL eb ?_);have m4:=q.m.pushB H.sb eb (hi _ eb)
 by_cases d3:x.j+1=b.size
 .rw [if_pos (by simp[d3])]
  exact wpS_pure (.r _ _ _ (H.h _ _ (m4.endB H.sa d3)))
 rw[if_neg (by simpa using d3)]
 have ea:a[x.i]?=some a[x.i]:=Vv (by lia)
 have pa:=H.ha _ (V5 (show x.i<a.size by lia))
 refine wpS_bind (bL ea (wpS_bind (gR H.C (base:=x.j+1) (n:=b.size-(x.j+1)) (by lia) (by lia) H.hb pa H.hk (qc H.C (by lia) H.hb pa (H.sb.sublist (Ws _ _))) fun l l1 l2 l3=>?_)))
 have hB:∀z,a[x.i]?=some z->∀y∈b.toList.drop (x.j+1+l),lt y z=false:=fun z hz y hy=>by
  obtain⟨j',hj',ey⟩:=mJ hy;have q:=l3 (l+j') (by lia) (by lia)
  rw[gK (by rw[←X7];exact ey),if_pos rfl]at q
  rw[ea]at hz;cases hz;exact q
 dsimp only
 by_cases cl:l>0
 .rw [if_pos cl];have m5:=m4.moreB H.sb (k:=l) (by lia) fun x hx y hy=>by
   obtain⟨j',hj',ex⟩:=ki hx;have q:=l2 j' hj';rw[gK ex,if_pos rfl]at q;have px:=H.hb x (V3 hx |> jq);exact H.C.trans _ _ _ px pa (H.ha _ (jq hy)) (H.C.asym _ _ px pa q) (tD H.C H.ha H.sa ea y hy)
  by_cases d5:x.j+1+l=b.size
  .rw [if_pos (by simp[d5])]
   exact wpS_pure (.r _ _ _ (H.h _ _ (m5.endB H.sa d5)))
  rw[if_neg (by simpa using d5)]
  exact Hi H hl (x:=⟨_,_,_,_,_,_,x.g⟩) ⟨m5,p1,by dsimp only;lia,by dsimp only;lia⟩ hB
 .rw [if_neg cl];exact Hi H hl (x:=⟨_,_,_,_,_,_,x.g⟩) ⟨m4,p1,by dsimp only;lia,by dsimp only;lia⟩ (by rw[show x.j+1=x.j+1+l by lia];exact hB)
theorem Jc(H:Lo prog w A s κ P lt a b st Q) (hl:Hl lt a b) (q:ML lt a b n x) :
  wpS (model prog w) A E s (Tv a b x.o x.i x.j x.m x.p x.q) (Lp L6 (fun x=>sg st x.g) (ML lt a b n) (ML lt a b n) Q) (sg st x.g):=by
 have p1:=q.p;have p2:=q.q;have p3:=q.r;have eb:b[x.j]?=some b[x.j]:=Vv p2;have pb:=H.hb _ (V5 p2);refine wpS_bind (kU (wpS_bind (bL eb (wpS_bind (gR H.C (base:=x.i) (n:=a.size-x.i) (by lia) (by lia) H.ha pb H.hk (qc H.C (by lia) H.ha pb (H.sa.sublist (Ws _ _))) fun k k1 k2 k3=>?_)))))
 have hA:∀z,b[x.j]?=some z->∀y∈a.toList.drop (x.i+k),lt y z=false:=fun z hz y hy=>by
  obtain⟨j',hj',ey⟩:=mJ hy;have q:=k3 (k+j') (by lia) (by lia)
  rw[gK (by rw[←X7];exact ey),if_neg (by decide)]at q
  rw[eb]at hz;cases hz;exact H.C.asym _ _ pb (H.ha _ (jq hy)) (by simpa using q)
 dsimp only
 by_cases ck:k>0
 .rw [if_pos ck];have m3:=q.m.moreA H.sa (k:=k) (by lia) fun x hx y hy=>by
   obtain⟨j',hj',ex⟩:=ki hx;have q:=k2 j' hj';rw[gK ex,if_neg (by decide)]at q
   exact H.C.trans _ _ _ (H.ha x (V3 hx |> jq)) pb (H.hb _ (jq hy)) (by simpa using q) (tD H.C H.hb H.sb eb y hy)
  by_cases d1:x.i+k+1=a.size
  .rw [if_pos (by simp[d1])]
   exact wpS_pure (.r _ _ _ (H.h _ x.m (m3.lastA H.sa H.sb fun x hx=>hl _ d1 x (Wb hx))))
  rw[if_neg (by simpa using d1)]
  by_cases d2:x.i+k=a.size
  .rw [if_pos (by simp[d2])]
   exact wpS_pure (.r _ _ _ (H.h _ x.m (m3.endA H.sb d2)))
  rw[if_neg (by simpa using d2)]
  exact HR H hl (x:=⟨_,_,_,_,_,_,x.m⟩) ⟨m3,by dsimp only;lia,p2,by dsimp only;lia⟩ hA
 .rw [if_neg ck];exact HR H hl (x:=⟨_,_,_,_,_,_,x.m⟩) ⟨q.m,p1,p2,p3⟩ (by rw[show x.i=x.i+k by lia];exact hA)
theorem NN(H:Lo prog w A s κ P lt a b st Q) (hl:Hl lt a b) {m j:Nat}(q:ML lt a b (n+j) x) :
  wpS (model prog w) A E s (T9 a b m x.o x.i x.j x.p x.q) (Lp L5 (fun x=>sg st x.g) (ML lt a b (n+(j+1))) (ML lt a b (n+1)) Q) (sg st x.g):=by
 have p1:=q.p;have p2:=q.q;have p3:=q.r;have ea:a[x.i]?=some a[x.i]:=Vv (by lia)
 have eb:b[x.j]?=some b[x.j]:=Vv p2;have pa:=H.ha _ (V5 (show x.i<a.size by lia))
 have pb:=H.hb _ (V5 p2);refine wpS_bind (bL eb (wpS_bind (bL ea (wpS_bind (H.C.cmp pb pa H.hk ?_)))));cases e:lt b[x.j] a[x.i] with
 |true =>
  dsimp only;rw[if_pos rfl];refine wpS_bind (bL eb ?_);have m2:=q.m.pushB H.sb eb fun z hz=>H.C.trans _ _ _ pb pa (H.ha _ (jq hz)) (H.C.asym _ _ pb pa e) (tD H.C H.ha H.sa ea z hz)
  by_cases d1:x.j+1=b.size
  .rw [if_pos (by simp[d1])]
   exact wpS_pure (.r _ _ _ (H.h _ _ (m2.endB H.sa d1)))
  rw[if_neg (by simpa using d1)]
  have R:∀n,n<=x.i+(x.j+1)->ML lt a b n ⟨_,_,_,0,0,x.q+1,x.g⟩:=fun n hn=>⟨m2,p1,by dsimp only;lia,hn⟩
  split
  .exact wpS_pure (.d _ (R _ (by lia)))
  .exact wpS_pure (.y _ (R _ (by lia)))
 |false =>
  dsimp only;rw[if_neg (by decide)]
  refine wpS_bind (bL ea ?_);have m2:=q.m.pushA H.sa ea fun z hz=>H.C.trans _ _ _ pa pb (H.hb _ (jq hz)) e (tD H.C H.hb H.sb eb z hz)
  by_cases d1:x.i+1+1=a.size
  .rw [if_pos (by simp[d1])]
   exact wpS_pure (.r _ _ _ (H.h _ _ (m2.lastA H.sa H.sb fun x hx=>hl _ d1 x (Wb hx))))
  rw[if_neg (by simpa using d1)]
  have R:∀n,n<=x.i+1+x.j->ML lt a b n ⟨_,_,_,0,x.p+1,0,x.g⟩:=fun n hn=>⟨m2,by dsimp only;lia,p2,hn⟩
  split
  .exact wpS_pure (.d _ (R _ (by lia)))
  .exact wpS_pure (.y _ (R _ (by lia)))
theorem Pn(H:Lo prog w A s κ P lt a b st Q) (hl:Hl lt a b) (q:ML lt a b n x) :
  wpS (model prog w) A E s (UC a b x.o x.i x.j x.m) (Lp L4 (fun x=>sg st x.g) (ML lt a b (n+1)) (fun _=>False) Q) (sg st x.g):=by
 refine kO L5 (fun x=>sg st x.g) (fun j=>ML lt a b (n+j)) (ML lt a b (n+1)) Q ⟨x.o,x.i,x.j,0,0,0,x.g⟩ ⟨q.m,q.p,q.q,q.r⟩ (fun j x q=>NN H hl q) (fun y h=>⟨h.m,h.p,h.q,by have:=h.r;have:=h.p;have:=h.q;lia⟩) (fun y q=>?_) fun r y st' hr=>wpS_pure (.r _ _ _ hr)
 refine wpS_bind (kA ?_);refine kO L6 (fun x=>sg st x.g) (fun _=>ML lt a b (n+1)) (ML lt a b (n+1)) Q ⟨y.o,y.i,y.j,x.m+1,y.p,y.q,y.g⟩ ⟨q.m,q.p,q.q,q.r⟩ (fun j z q=>?_) (fun _ h=>h) (fun z q=>?_) fun r y st' hr=>wpS_pure (.r _ _ _ hr)
 .dsimp only;split
  .exact Jc H hl (x:=⟨_,_,_,z.m-1,_,_,z.g⟩) ⟨q.m,q.p,q.q,q.r⟩
  .exact Jc H hl q
 .refine wpS_bind (kU (wpS_pure ?_));exact Lp.y (t:=L4) (v:=fun x=>sg st x.g) ⟨_,_,_,z.m+1,0,0,z.m+1⟩ ⟨q.m,q.p,q.q,q.r⟩
theorem Af(C:nS prog w A s κ P lt) (ha:∀x,x∈a->P x) (hb:∀x,x∈b->P x) (hk:kindOf st=κ) (sa:kP lt a.toList) (sb:kP lt b.toList)
  (na:0<a.size) (nb:0<b.size) (h0:∀x,b[0]?=some x->∀y∈a.toList,lt y x=false) (hl:∀i,i+1=a.size->∀x∈b.toList,∀y∈a.toList.drop i,lt y x=false)
  (h:∀r g,JK lt a b r->Q r (sg st g)):wpS (model prog w) A E s (tR a b) Q st:=by
 rw[zZ];refine wpS_bind (kA ?_);have eb0:b[0]?=some b[0]:=Vv nb;refine wpS_bind (bL eb0 ?_);have m0:MI lt a b #[] 0 0:=⟨Wf _,Wf _,by simp,by simp[kP],by simp,by simp⟩
 have m1:MI lt a b #[b[0]] 0 1:=m0.pushB sb eb0 fun y hy=>h0 _ eb0 y (by simpa using hy)
 by_cases c1:1=b.size
 .rw [if_pos (by simp[←c1])]
  exact wpS_pure (h _ (gallopOf st) (m1.endB sa c1))
 rw[if_neg (by simpa using c1)]
 by_cases c2:0+1=a.size
 .rw [if_pos (by simp[←c2])]
  exact wpS_pure (h _ (gallopOf st) (m1.lastA sa sb fun x hx=>hl 0 c2 x (Wb hx)))
 rw[if_neg (by simpa using c2)]
 refine wpS_bind (wpS_get ?_);exact kO L4 (fun x=>sg st x.g) (fun i=>ML lt a b (i+1)) (fun _=>False) Q ⟨_,0,1,_,0,0,gallopOf st⟩ ⟨m1,by dsimp only;lia,by dsimp only;lia,by dsimp only;lia⟩ (fun i x q=>Pn ⟨C,ha,hb,hk,sa,sb,h⟩ hl q) (fun x h=>by have:=h.p;have:=h.q;have:=h.r;lia) (fun x h=>h.elim) fun r y st' hr=>wpS_pure hr
end
structure MH (lt:Keyed->Keyed->Bool) (a b out:Array Keyed) (na nb:Nat):Prop where
 la:na<=a.size
 lb:nb<=b.size
 pm:((a.toList.take na++b.toList.take nb)++out.toList.reverse).Perm (a.toList++b.toList)
 so:kP lt out.toList.reverse
 ua:∀x∈a.toList.take na,∀y∈out.toList,lt y x=false
 ub:∀x∈b.toList.take nb,∀y∈out.toList,lt y x=false
section
variable {lt:Keyed->Keyed->Bool}{a b out out':Array Keyed}{na nb k:Nat}
theorem MH.congr(m:MH lt a b out na nb) (e:out'.toList=out.toList):MH lt a b out' na nb:=⟨m.la,m.lb,by rw[e];exact m.pm,by rw[e];exact m.so,by rw[e];exact m.ua,by rw[e];exact m.ub⟩
theorem pY(l:List Keyed) (k n:Nat) (h:k<=n):l.take n=l.take k++(l.take n).drop k:=by
 have e:(l.take n).take k=l.take k:=by rw[List.take_take,Xp h]
 rw[←e,V4]
theorem dm(a:Array Keyed) (k n:Nat):(a.extract k n).toList=(a.toList.take n).drop k:=by
 rw[Yd,XM,List.drop_take]
theorem pH(a:Array Keyed) (n:Nat):(a.extract 0 n).toList=a.toList.take n:=by
 rw[dm,Xz]
theorem MH.moreA(m:MH lt a b out na nb) (sa:kP lt a.toList) (hk:k<=na) (h:∀x∈b.toList.take nb,∀y∈(a.toList.take na).drop k,lt y x=false):MH lt a b (out++(a.extract k na).reverse) k nb:=by
 have e:(out++(a.extract k na).reverse).toList=out.toList++((a.toList.take na).drop k).reverse:=by rw[VT,WN,dm]
 have er:(out++(a.extract k na).reverse).toList.reverse=(a.toList.take na).drop k++out.toList.reverse:=by rw[e,Y6,YZ]
 have c:=pY a.toList k na hk;have sd:kP lt (a.toList.take na):=sa.sublist (Wc _ _);have sd2:=sd;rw[c]at sd2;obtain⟨q1,q2,q3⟩:=VY.mp sd2;have sub:∀y,y∈(a.toList.take na).drop k->y∈a.toList.take na:=fun y hy=>Wb hy
 refine⟨Wi hk m.la,m.lb,?_,?_,?_,?_⟩
 .rw [er];refine Wx.trans ?_ m.pm;rw[←VP];refine Wx.append_right _ ?_
  conv=>rhs;rw[c]
  rw[VP,VP];exact Wx.append_left _ Wg
 .rw [er];exact VY.mpr ⟨q2,m.so,fun x hx y hy=>m.ua x (sub x hx) y (Wr.mp hy)⟩
 .rw [e];intro x hx y hy;rcases mAq.mp hy with hy|hy
  .exact m.ua x (by rw[c];exact WL _ hx) y hy
  .exact q3 x hx y (Wr.mp hy)
 .rw [e];intro x hx y hy;rcases mAq.mp hy with hy|hy
  .exact m.ub x hx y hy
  .exact h x hx y (Wr.mp hy)
theorem MH.moreB(m:MH lt a b out na nb) (sb:kP lt b.toList) (hk:k<=nb) (h:∀x∈a.toList.take na,∀y∈(b.toList.take nb).drop k,lt y x=false):MH lt a b (out++(b.extract k nb).reverse) na k:=by
 have e:(out++(b.extract k nb).reverse).toList=out.toList++((b.toList.take nb).drop k).reverse:=by rw[VT,WN,dm]
 have er:(out++(b.extract k nb).reverse).toList.reverse=(b.toList.take nb).drop k++out.toList.reverse:=by rw[e,Y6,YZ]
 have c:=pY b.toList k nb hk;have sd:kP lt (b.toList.take nb):=sb.sublist (Wc _ _);have sd2:=sd;rw[c]at sd2;obtain⟨q1,q2,q3⟩:=VY.mp sd2;have sub:∀y,y∈(b.toList.take nb).drop k->y∈b.toList.take nb:=fun y hy=>Wb hy
 refine⟨m.la,Wi hk m.lb,?_,?_,?_,?_⟩
 .rw [er];refine Wx.trans ?_ m.pm;rw[←VP];refine Wx.append_right _ ?_
  conv=>rhs;rw[c]
  rw[VP]
 .rw [er];exact VY.mpr ⟨q2,m.so,fun x hx y hy=>m.ub x (sub x hx) y (Wr.mp hy)⟩
 .rw [e];intro x hx y hy;rcases mAq.mp hy with hy|hy
  .exact m.ua x hx y hy
  .exact h x hx y (Wr.mp hy)
 .rw [e];intro x hx y hy;rcases mAq.mp hy with hy|hy
  .exact m.ub x (by rw[c];exact WL _ hx) y hy
  .exact q3 x hx y (Wr.mp hy)
theorem lI{l:List Keyed}{i:Nat}{x:Keyed}(h:l[i]?=some x):(l.take (i+1)).drop i=[x]:=by
 rw[W8,h,Zt];have hl:(l.take i).length=i:=by
  have:=(gSq.mp h).1;rw[lTq];lia
 rw[W0 (by lia),hl,WA]
 rfl
theorem MH.pushA{x:Keyed}(m:MH lt a b out (na+1) nb) (sa:kP lt a.toList) (hx:a[na]?=some x) (h:∀y∈b.toList.take nb,lt x y=false):MH lt a b (out.push x) na nb:=by
 have hx':a.toList[na]?=some x:=by rw[VR];exact hx
 refine(m.moreA sa (k:=na) (WC _) fun z hz y hy=>?_).congr ?_
 .rw [lI hx',mSq]at hy;rw[hy];exact h z hz
 .rw [Xv,VT,WN,dm,lI hx'];rfl
theorem MH.pushB{x:Keyed}(m:MH lt a b out na (nb+1)) (sb:kP lt b.toList) (hx:b[nb]?=some x) (h:∀y∈a.toList.take na,lt x y=false):MH lt a b (out.push x) na nb:=by
 have hx':b.toList[nb]?=some x:=by rw[VR];exact hx
 refine(m.moreB sb (k:=nb) (WC _) fun z hz y hy=>?_).congr ?_
 .rw [lI hx',mSq]at hy;rw[hy];exact h z hz
 .rw [Xv,VT,WN,dm,lI hx'];rfl
theorem MH.end(m:MH lt a b out na nb) (sa:kP lt a.toList) (sb:kP lt b.toList) (e:na=0∨nb=0):JK lt a b (a.extract 0 na++b.extract 0 nb++out.reverse):=by
 have et:(a.extract 0 na++b.extract 0 nb++out.reverse).toList=(a.toList.take na++b.toList.take nb)++out.toList.reverse:=by
  rw[VT,VT,pH,pH,WN]
 refine⟨by rw[et];exact m.pm,?_⟩
 rw[et];refine VY.mpr ⟨?_,m.so,fun x hx y hy=>?_⟩
 .rcases e with rfl|rfl
  .rw [ZD,WQ];exact sb.sublist (Wc _ _)
  .rw [ZD,aNq];exact sa.sublist (Wc _ _)
 .rcases mAq.mp hx with hx|hx
  .exact m.ua x hx y (Wr.mp hy)
  .exact m.ub x hx y (Wr.mp hy)
theorem MH.firstB(m:MH lt a b out na nb) (sa:kP lt a.toList) (sb:kP lt b.toList) (h:∀x∈b.toList.take nb,∀y∈a.toList.take na,lt y x=false):JK lt a b (b.extract 0 nb++a.extract 0 na++out.reverse):=by
 have et:(b.extract 0 nb++a.extract 0 na++out.reverse).toList=(b.toList.take nb++a.toList.take na)++out.toList.reverse:=by
  rw[VT,VT,pH,pH,WN]
 refine⟨?_,?_⟩
 .rw [et];exact(Wx.append_right _ Wg).trans m.pm
 .rw [et];refine VY.mpr ⟨VY.mpr ⟨sb.sublist (Wc _ _),sa.sublist (Wc _ _),h⟩,m.so,fun x hx y hy=>?_⟩
  rcases mAq.mp hx with hx|hx
  .exact m.ub x hx y (Wr.mp hy)
  .exact m.ua x hx y (Wr.mp hy)
end
noncomputable def ug:Array Keyed->Array Keyed->StateT SortSt Sem (Array Keyed):=sortPriv% PySem.Builtin.mergeHi
section
variable (a b:Array Keyed)
noncomputable abbrev dH(o:Array Keyed) (i j:Nat):=a.extract 0 i++b.extract 0 j++o.reverse
noncomputable abbrev fH(o:Array Keyed) (i j:Nat):=b.extract 0 j++a.extract 0 i++o.reverse
noncomputable abbrev SH(α:Type):=ForInStep (Option (Array Keyed)×Nat×Nat×Array Keyed×α)
def Sz(o:Array Keyed) (i j m k l:Nat):StateT SortSt Sem (SH (Nat×Nat×Nat)):=do
 let x ←elem' a (i-1)
 if i-1 == 0 then pure (.done (some (dH a b (o.push x) (i-1) j),i-1,j,o.push x,m,k,l))
 else if decide (k<7) && decide (l<7) then pure (.done (none,i-1,j,o.push x,m,k,l))
 else pure (.yield (none,i-1,j,o.push x,m,k,l))
def So(o:Array Keyed) (i j m k q:Nat):StateT SortSt Sem (SH (Nat×Nat×Nat)):=do
 let x ←elem' b (j-1)
 if j-1 == 1 then pure (.done (some (fH a b (o.push x) i (j-1)),i,j-1,o.push x,m,k,q))
 else do
  let y ←elem' a (i-1)
  match ←jU true y b 0 (j-1) (j-1-1) with
  |some l =>
   if j-1-l>0 then
    if l == 1 then pure (.done (some (fH a b (o.push x++(b.extract l (j-1)).reverse) i l),i,l,o.push x++(b.extract l (j-1)).reverse,m,k,j-1-l))
    else if l == 0 then pure (.done (some (dH a b (o.push x++(b.extract l (j-1)).reverse) i l),i,l,o.push x++(b.extract l (j-1)).reverse,m,k,j-1-l))
    else Sz a b (o.push x++(b.extract l (j-1)).reverse) i l m k (j-1-l)
   else Sz a b (o.push x) i (j-1) m k (j-1-l)
  |_=>pure (.done (some (dH a b (o.push x) i (j-1)),i,j-1,o.push x,m,k,q))
def Ss(o:Array Keyed) (i j m p q:Nat):StateT SortSt Sem (SH (Nat×Nat×Nat)):=do
 eK m
 let x ←elem' b (j-1)
 match ←jU false x a 0 i (i-1) with
 |some k =>
  if i-k>0 then
   if k == 0 then pure (.done (some (dH a b (o++(a.extract k i).reverse) k j),k,j,o++(a.extract k i).reverse,m,i-k,q))
   else So a b (o++(a.extract k i).reverse) k j m (i-k) q
  else So a b o i j m (i-k) q
 |_=>pure (.done (some (dH a b o i j),i,j,o,m,p,q))
def JL(m:Nat) (o:Array Keyed) (i j p q:Nat):StateT SortSt Sem (SH (Nat×Nat)):=do
 let y ←elem' b (j-1)
 let x ←elem' a (i-1)
 match ←lt' y x with
 |some c =>
  if c then do
   let z ←elem' a (i-1)
   if i-1 == 0 then pure (.done (some (dH a b (o.push z) (i-1) j),i-1,j,o.push z,p+1,0))
   else if p+1 ≥ m then pure (.done (none,i-1,j,o.push z,p+1,0))
   else pure (.yield (none,i-1,j,o.push z,p+1,0))
  else do
   let z ←elem' b (j-1)
   if j-1 == 1 then pure (.done (some (fH a b (o.push z) i (j-1)),i,j-1,o.push z,0,q+1))
   else if q+1 ≥ m then pure (.done (none,i,j-1,o.push z,0,q+1))
   else pure (.yield (none,i,j-1,o.push z,0,q+1))
 |_=>pure (.done (some (dH a b o i j),i,j,o,p,q))
def Sf(o:Array Keyed) (i j m:Nat):StateT SortSt Sem (SH Nat):=do
 let r ←forIn [0:a.size+b.size] (none,i,j,o,0,0) fun _ s=>JL a b m s.2.2.2.1 s.2.1 s.2.2.1 s.2.2.2.2.1 s.2.2.2.2.2
 Break.runK.match_1 (fun _=>StateT SortSt Sem (SH Nat)) r.1 (fun v=>pure (.done (some v,r.2.1,r.2.2.1,r.2.2.2.1,m))) fun _=>do
  rule "list.sort.gallop"
  let r ←forIn [0:a.size+b.size] (none,r.2.1,r.2.2.1,r.2.2.2.1,m+1,r.2.2.2.2.1,r.2.2.2.2.2) fun _ s=>if s.2.2.2.2.1>1 then Ss a b s.2.2.2.1 s.2.1 s.2.2.1 (s.2.2.2.2.1-1) s.2.2.2.2.2.1 s.2.2.2.2.2.2 else Ss a b s.2.2.2.1 s.2.1 s.2.2.1 s.2.2.2.2.1 s.2.2.2.2.2.1 s.2.2.2.2.2.2
  Break.runK.match_1 (fun _=>StateT SortSt Sem (SH Nat)) r.1 (fun v=>pure (.done (some v,r.2.1,r.2.2.1,r.2.2.2.1,r.2.2.2.2.1))) fun _=>do
   eK (r.2.2.2.2.1+1)
   pure (.yield (none,r.2.1,r.2.2.1,r.2.2.2.1,r.2.2.2.2.1+1))
theorem zh:ug a b=(do
 rule "list.sort.merge-hi"
 let x ←elem' a (a.size-1)
 if a.size-1 == 0 then pure (dH a b #[x] (a.size-1) b.size)
 else if b.size == 1 then pure (fH a b #[x] (a.size-1) b.size)
 else do
  let st ←get
  let r ←forIn [0:a.size+b.size] (none,a.size-1,b.size,#[x],gallopOf st) fun _ s=>Sf a b s.2.2.2.1 s.2.1 s.2.2.1 s.2.2.2.2
  Break.runK.match_1 (fun _=>StateT SortSt Sem (Array Keyed)) r.1 (fun v=>pure v) fun _=>unsupported "internal:list.sort.merge-bound"):=rfl
end
section
variable {prog:Program}{w:World}{A:Around}{E:Value->Shared->Prop}{s:Shared}{κ:SortKind}{P:Keyed->Prop}{lt:Keyed->Keyed->Bool}
theorem ti(C:nS prog w A s κ P lt) {a:Array Keyed}{i:Nat}{x:Keyed}(ha:∀x,x∈a->P x) (sa:kP lt a.toList) (hx:a[i]?=some x):∀y∈a.toList.take (i+1),lt x y=false:=by
 obtain⟨hi,e⟩:=VQ.mp hx;have hx':a.toList[i]?=some x:=by rw[VR];exact hx
 have sd:kP lt (a.toList.take (i+1)):=sa.sublist (Wc _ _);rw[W8,hx']at sd ⊢;intro y hy;rcases mAq.mp hy with hy|hy
 .exact (VY.mp sd).2.2 y hy x (by simp)
 .have:y=x:=by simpa using hy
  rw[this];exact C.refl (ha _ (by rw[←e];exact V5 hi))
theorem jF{a:Array Keyed}{i:Nat}{y:Keyed}(h:y∈a.toList.take i):y∈a:=by simpa using V3 h
theorem nh{a:Array Keyed}{n:Nat}{x:Keyed}(h:x∈a.toList.take n):∃j,j<n/\a[0+j]?=some x:=by
 have h':x∈(a.toList.drop 0).take n:=by rw[Xz];exact h
 exact ki h'
theorem jL{a:Array Keyed}{k n:Nat}{x:Keyed}(h:x∈(a.toList.take n).drop k):∃j,k<=j/\j<n/\a[0+j]?=some x:=by
 obtain⟨j,hj,e⟩:=WM.mp h;rw[VI,lTq,VD]at hj;refine⟨k+j,by lia,by lia,?_⟩
 rw[X2,Ys]at e;rw[VQ];exact⟨by lia,by simpa using e⟩
structure MG (lt:Keyed->Keyed->Bool) (a b:Array Keyed) (n:Nat) (x:Ls):Prop where
 m:MH lt a b x.o x.i x.j
 p:0<x.i
 q:1<x.j
 r:x.i+x.j+n<=a.size+b.size
abbrev H6(x:Ls):=(x.i,x.j,x.o,x.m,x.p,x.q)
abbrev H5(x:Ls):=(x.i,x.j,x.o,x.p,x.q)
abbrev H4(x:Ls):=(x.i,x.j,x.o,x.m)
variable {a b:Array Keyed}{st:SortSt}{Q:Array Keyed->SortSt->Prop}{n:Nat}{x:Ls}{o:Array Keyed}{u v i j m k l g:Nat}
noncomputable abbrev Hf(lt:Keyed->Keyed->Bool) (a b:Array Keyed):=∀x∈b.toList.take 1,∀y∈a.toList,lt y x=false
theorem Sa(H:Lo prog w A s κ P lt a b st Q) (hf:Hf lt a b) (m:MH lt a b o i 1):Q (b.extract 0 1++a.extract 0 i++o.reverse) (sg st g):=H.h _ _ (m.firstB H.sa H.sb fun x hx y hy=>hf x hx y (V3 hy))
theorem FR(H:Lo prog w A s κ P lt a b st Q) (q:MG lt a b n ⟨o,u+1,j,m,k,l,g⟩) (hi:∀z,a[u]?=some z->∀y∈b.toList.take j,lt z y=false) :
  wpS (model prog w) A E s (Sz a b o (u+1) j m k l) (Lp H6 (fun x=>sg st x.g) (MG lt a b n) (MG lt a b n) Q) (sg st g):=by
 dsimp only [Sz,XN];have ea:a[u]?=some (a[u]'q.m.la):=Vv q.m.la;refine wpS_bind (bL ea ?_);have m6:=q.m.pushA H.sa ea (hi _ ea)
 by_cases d6:u=0
 .rw [if_pos (by simp[d6])]
  exact wpS_pure (.r _ _ _ (H.h _ _ (m6.end H.sa H.sb (.inl d6))))
 rw[if_neg (by simpa using d6)]
 have R:MG lt a b n ⟨_,_,_,m,k,l,g⟩:=⟨m6,Ym d6,q.q,by have:=q.r;dsimp only at *;lia⟩
 split
 .exact wpS_pure (.d _ R)
 .exact wpS_pure (.y _ R)
theorem Iv(H:Lo prog w A s κ P lt a b st Q) (hf:Hf lt a b) (q:MG lt a b n ⟨o,u+1,v+1,m,k,l,g⟩) (hi:∀z,b[v]?=some z->∀y∈a.toList.take (u+1),lt z y=false) :
  wpS (model prog w) A E s (So a b o (u+1) (v+1) m k l) (Lp H6 (fun x=>sg st x.g) (MG lt a b n) (MG lt a b n) Q) (sg st g):=by
 dsimp only [So,XN];have la:u<a.size:=q.m.la;have lb:v<b.size:=q.m.lb;have p2:1<v+1:=q.q;have p3:u+1+(v+1)+n<=a.size+b.size:=q.r;have eb:b[v]?=some b[v]:=Vv lb;refine wpS_bind (bL eb ?_);have m4:=q.m.pushB H.sb eb (hi _ eb)
 by_cases d3:v=1
 .rw [if_pos (by simp[d3])]
  subst d3;exact wpS_pure (.r _ _ _ (Sa H hf m4))
 rw[if_neg (by simpa using d3)]
 have ea:a[u]?=some a[u]:=Vv la;have pa:=H.ha _ (V5 la);refine wpS_bind (bL ea (wpS_bind (gR H.C (base:=0) (n:=v) (by lia) (by lia) H.hb pa H.hk (qc H.C (by lia) H.hb pa (by rw[Xz];exact H.sb)) fun l l1 l2 l3=>?_)))
 have hB:∀z,a[u]?=some z->∀y∈b.toList.take l,lt z y=false:=fun z hz y hy=>by
  obtain⟨j',hj',ey⟩:=nh hy;have q:=l2 j' hj';rw[gK ey,if_pos rfl]at q;rw[ea]at hz;cases hz;exact H.C.asym _ _ (H.hb _ (jF hy)) pa q
 dsimp only
 by_cases cl:v-l>0
 .rw [if_pos cl];have m5:=m4.moreB H.sb (k:=l) l1 fun x hx y hy=>by
   obtain⟨j',hj1,hj',ey⟩:=jL hy;have q:=l3 j' hj1 hj';rw[gK ey,if_pos rfl]at q;exact H.C.trans _ _ _ (H.ha _ (jF hx)) pa (H.hb y (Wb hy |> jF)) (ti H.C H.ha H.sa ea x hx) q
  by_cases d5:l=1
  .rw [if_pos (by simp[d5])]
   subst d5;exact wpS_pure (.r _ _ _ (Sa H hf m5))
  rw[if_neg (by simpa using d5)]
  by_cases d6:l=0
  .rw [if_pos (by simp[d6])]
   exact wpS_pure (.r _ _ _ (H.h _ _ (m5.end H.sa H.sb (.inr d6))))
  rw[if_neg (by simpa using d6)]
  exact FR H ⟨m5,q.p,by dsimp only;lia,by dsimp only;lia⟩ hB
 .rw [if_neg cl];have:l=v:=by lia
  subst this;exact FR H ⟨m4,q.p,by dsimp only;lia,by dsimp only;lia⟩ hB
theorem HP(H:Lo prog w A s κ P lt a b st Q) (hf:Hf lt a b) (q:MG lt a b n x) :
  wpS (model prog w) A E s (Ss a b x.o x.i x.j x.m x.p x.q) (Lp H6 (fun x=>sg st x.g) (MG lt a b n) (MG lt a b n) Q) (sg st x.g):=by
 obtain⟨o,i,j,m,p,q',g⟩:=x;have la:i<=a.size:=q.m.la;have p1:0<i:=q.p;have p2:1<j:=q.q;have p3:i+j+n<=a.size+b.size:=q.r;obtain⟨v,rfl⟩:∃v,j=v+1:=⟨j-1,by lia⟩
 have lb:v<b.size:=q.m.lb;dsimp only [Ss,XN];have eb:b[v]?=some b[v]:=Vv lb;have pb:=H.hb _ (V5 lb);refine wpS_bind (kU (wpS_bind (bL eb (wpS_bind (gR H.C (base:=0) (n:=i) (by lia) (by lia) H.ha pb H.hk (qc H.C (by lia) H.ha pb (by rw[Xz];exact H.sa)) fun k k1 k2 k3=>?_)))))
 have hA:∀z,b[v]?=some z->∀y∈a.toList.take k,lt z y=false:=fun z hz y hy=>by
  obtain⟨j',hj',ey⟩:=nh hy;have q:=k2 j' hj';rw[gK ey,if_neg (by decide)]at q
  rw[eb]at hz;cases hz;simpa using q
 dsimp only
 by_cases ck:i-k>0
 .rw [if_pos ck];have m3:=q.m.moreA H.sa (k:=k) k1 fun x hx y hy=>by
   obtain⟨j',hj1,hj',ey⟩:=jL hy;have q:=k3 j' hj1 hj';rw[gK ey,if_neg (by decide)]at q
   have py:=H.ha y (Wb hy |> jF);exact H.C.trans _ _ _ (H.hb _ (jF hx)) pb py (ti H.C H.hb H.sb eb x hx) (H.C.asym _ _ pb py (by simpa using q))
  by_cases d2:k=0
  .rw [if_pos (by simp[d2])]
   exact wpS_pure (.r _ _ _ (H.h _ m (m3.end H.sa H.sb (.inl d2))))
  rw[if_neg (by simpa using d2)]
  obtain⟨u,rfl⟩:∃u,k=u+1:=⟨k-1,by lia⟩
  exact Iv H hf (g:=m) ⟨m3,Nat.succ_pos _,p2,by dsimp only;lia⟩ hA
 .rw [if_neg ck];have:k=i:=by lia
  subst this;obtain⟨u,rfl⟩:∃u,k=u+1:=⟨k-1,by lia⟩
  exact Iv H hf (g:=m) ⟨q.m,p1,p2,p3⟩ hA
theorem OU(H:Lo prog w A s κ P lt a b st Q) (hf:Hf lt a b) (q:MG lt a b (n+j) x) :
  wpS (model prog w) A E s (JL a b m x.o x.i x.j x.p x.q) (Lp H5 (fun x=>sg st x.g) (MG lt a b (n+(j+1))) (MG lt a b (n+1)) Q) (sg st x.g):=by
 obtain⟨o,i,k,m',p,q',g⟩:=x;have p1:0<i:=q.p;have p2:1<k:=q.q;have p3:i+k+(n+j)<=a.size+b.size:=q.r;obtain⟨u,rfl⟩:∃u,i=u+1:=⟨i-1,by lia⟩
 obtain⟨v,rfl⟩:∃v,k=v+1:=⟨k-1,by lia⟩
 have la:u<a.size:=q.m.la;have lb:v<b.size:=q.m.lb;dsimp only [JL,XN];have ea:a[u]?=some a[u]:=Vv la;have eb:b[v]?=some b[v]:=Vv lb;have pa:=H.ha _ (V5 la);have pb:=H.hb _ (V5 lb);refine wpS_bind (bL eb (wpS_bind (bL ea (wpS_bind (H.C.cmp pb pa H.hk ?_)))));cases e:lt b[v] a[u] with
 |true =>
  dsimp only;rw[if_pos rfl];refine wpS_bind (bL ea ?_);have m2:=q.m.pushA H.sa ea fun y hy=>H.C.trans _ _ _ (H.hb _ (jF hy)) pb pa (ti H.C H.hb H.sb eb y hy) (H.C.asym _ _ pb pa e)
  by_cases d1:u=0
  .rw [if_pos (by simp[d1])]
   exact wpS_pure (.r _ _ _ (H.h _ _ (m2.end H.sa H.sb (.inl d1))))
  rw[if_neg (by simpa using d1)]
  have R:∀n,u+(v+1)+n<=a.size+b.size->MG lt a b n ⟨_,_,_,0,p+1,0,g⟩:=fun n hn=>⟨m2,Ym d1,p2,hn⟩
  split
  .exact wpS_pure (.d _ (R _ (by lia)))
  .exact wpS_pure (.y _ (R _ (by lia)))
 |false =>
  dsimp only;rw[if_neg (by decide)]
  refine wpS_bind (bL eb ?_);have m2:=q.m.pushB H.sb eb fun y hy=>H.C.trans _ _ _ (H.ha _ (jF hy)) pa pb (ti H.C H.ha H.sa ea y hy) e
  by_cases d1:v=1
  .rw [if_pos (by simp[d1])]
   subst d1;exact wpS_pure (.r _ _ _ (Sa H hf m2))
  rw[if_neg (by simpa using d1)]
  have R:∀n,u+1+v+n<=a.size+b.size->MG lt a b n ⟨_,_,_,0,0,q'+1,g⟩:=fun n hn=>⟨m2,p1,by dsimp only;lia,hn⟩
  split
  .exact wpS_pure (.d _ (R _ (by lia)))
  .exact wpS_pure (.y _ (R _ (by lia)))
theorem Ni(H:Lo prog w A s κ P lt a b st Q) (hf:Hf lt a b) (q:MG lt a b n x) :
  wpS (model prog w) A E s (Sf a b x.o x.i x.j x.m) (Lp H4 (fun x=>sg st x.g) (MG lt a b (n+1)) (fun _=>False) Q) (sg st x.g):=by
 refine kO H5 (fun x=>sg st x.g) (fun j=>MG lt a b (n+j)) (MG lt a b (n+1)) Q ⟨x.o,x.i,x.j,0,0,0,x.g⟩ ⟨q.m,q.p,q.q,q.r⟩ (fun j x q=>OU H hf q) (fun y h=>⟨h.m,h.p,h.q,by have:=h.r;have:=h.p;have:=h.q;lia⟩) (fun y q=>?_) fun r y st' hr=>wpS_pure (.r _ _ _ hr)
 refine wpS_bind (kA ?_);refine kO H6 (fun x=>sg st x.g) (fun _=>MG lt a b (n+1)) (MG lt a b (n+1)) Q ⟨y.o,y.i,y.j,x.m+1,y.p,y.q,y.g⟩ ⟨q.m,q.p,q.q,q.r⟩ (fun j z q=>?_) (fun _ h=>h) (fun z q=>?_) fun r y st' hr=>wpS_pure (.r _ _ _ hr)
 .dsimp only;split
  .exact HP H hf (x:=⟨_,_,_,z.m-1,_,_,z.g⟩) ⟨q.m,q.p,q.q,q.r⟩
  .exact HP H hf q
 .refine wpS_bind (kU (wpS_pure ?_));exact Lp.y (t:=H4) (v:=fun x=>sg st x.g) ⟨_,_,_,z.m+1,0,0,z.m+1⟩ ⟨q.m,q.p,q.q,q.r⟩
theorem Al(C:nS prog w A s κ P lt) (ha:∀x,x∈a->P x) (hb:∀x,x∈b->P x) (hk:kindOf st=κ) (sa:kP lt a.toList) (sb:kP lt b.toList)
  (na0:0<a.size) (nb0:0<b.size) (h0:∀x∈b.toList.take 1,∀y∈a.toList,lt y x=false) (hl:∀x,a[a.size-1]?=some x->∀y∈b.toList,lt x y=false)
  (h:∀r g,JK lt a b r->Q r (sg st g)):wpS (model prog w) A E s (ug a b) Q st:=by
 have H:Lo prog w A s κ P lt a b st Q:=⟨C,ha,hb,hk,sa,sb,h⟩;rw[zh];refine wpS_bind (kA ?_);have ea0:a[a.size-1]?=some (a[a.size-1]'(by lia)):=Vv (by lia)
 refine wpS_bind (bL ea0 ?_);have m0:MH lt a b #[] (a.size-1+1) b.size:=⟨by lia,Vu _,by
  rw[show a.size-1+1=a.toList.length by simp;lia,Wy,←VD,Wy];simp,by simp[kP],by simp,by simp⟩
 have m1:MH lt a b #[a[a.size-1]'(by lia)] (a.size-1) b.size:=m0.pushA sa ea0 fun y hy=>hl _ ea0 y (V3 hy)
 by_cases c1:a.size-1=0
 .rw [if_pos (by simp[c1])]
  exact wpS_pure (h _ (gallopOf st) (m1.end sa sb (.inl c1)))
 rw[if_neg (by simpa using c1)]
 by_cases c2:b.size=1
 .rw [if_pos (by simp[c2])]
  have m1':=m1;rw[c2]at m1' ⊢;exact wpS_pure (Sa H h0 (g:=gallopOf st) m1')
 rw[if_neg (by simpa using c2)]
 refine wpS_bind (wpS_get ?_);exact kO H4 (fun x=>sg st x.g) (fun i=>MG lt a b (i+1)) (fun _=>False) Q ⟨_,a.size-1,b.size,_,0,0,gallopOf st⟩ ⟨m1,Ym c1,show 1<b.size by lia,show a.size-1+b.size+1<=a.size+b.size by lia⟩ (fun i x q=>Ni H h0 q) (fun x h=>by have:=h.p;have:=h.q;have:=h.r;lia) (fun x h=>h.elim) fun r y st' hr=>wpS_pure hr
end
def oy(lt:Keyed->Keyed->Bool) (xs:Array Keyed) (i j:Nat):Prop:=∀p q x y,i<=p->p<=q->q<j->xs[p]?=some x->xs[q]?=some y->lt y x=false
def JP(lt:Keyed->Keyed->Bool) (xs:Array Keyed) (i j:Nat):Prop:=∀p q x y,i<=p->p<=q->q<j->xs[p]?=some x->xs[q]?=some y->lt x y=false
def QN(lt:Keyed->Keyed->Bool) (xs:Array Keyed) (i j:Nat):Prop:=∀p q x y,i<=p->p<j->i<=q->q<j->xs[p]?=some x->xs[q]?=some y->lt x y=false
section
variable {lt:Keyed->Keyed->Bool}{xs:Array Keyed}{i j lo n:Nat}
theorem B4(hj:j<=xs.size) (h:JP lt xs i j):oy lt (mirror xs i j ((j-i) / 2)) i j:=by
 intro p q x y h1 h2 h3 ex ey;rw[getElem?_mirror_all hj,if_pos ⟨h1,by lia⟩]at ex
 rw[getElem?_mirror_all hj,if_pos ⟨by lia,h3⟩]at ey
 exact h _ _ _ _ (by lia) (by lia) (by lia) ey ex
theorem oK(hj:j<=xs.size) (hi:lo<=i) (hn:j<=n) (e:QN lt xs i j) (h:JP lt xs lo n):JP lt (mirror xs i j ((j-i) / 2)) lo n:=by
 intro p q x y h1 h2 h3 ex ey;rw[getElem?_mirror_all hj]at ex ey
 by_cases cp:i<=p/\p<j
 .rw [if_pos cp]at ex
  by_cases cq:i<=q/\q<j
  .rw [if_pos cq]at ey;exact e _ _ _ _ (by lia) (by lia) (by lia) (by lia) ex ey
  .rw [if_neg cq]at ey;exact h _ _ _ _ (by lia) (by lia) h3 ex ey
 .rw [if_neg cp]at ex
  by_cases cq:i<=q/\q<j
  .rw [if_pos cq]at ey;exact h _ _ _ _ h1 (by lia) (by lia) ex ey
  .rw [if_neg cq]at ey;exact h _ _ _ _ h1 h2 h3 ex ey
end
section
variable (lo:Nat)
noncomputable def SU(n:Nat):StateT SortSt Sem (ForInStep (Option (Option Nat)×Nat)):=do
 match ←ltAt' (lo+n) (lo+n-1) with
 |some c=>if c then pure (.done (none,n)) else pure (.yield (none,n+1))
 |_=>pure (.done (some none,n))
noncomputable def UF(n q:Nat):StateT SortSt Sem (ForInStep (Option (Option Nat)×Nat×Nat)):=do
 match ←ltAt' (lo+n) (lo+n-1) with
 |some c =>
  if c then
   if q>0 then do
    let _ ←reverseSlice' (lo+n-(q+1)) (lo+n)
    pure (.yield (none,n+1,0))
   else pure (.yield (none,n+1,0))
  else do
   match ←ltAt' (lo+n-1) (lo+n) with
   |some c=>if c then pure (.done (none,n,q)) else pure (.yield (none,n+1,q+1))
   |_=>pure (.done (some none,n,q))
 |_=>pure (.done (some none,n,q))
def TR(nrem n:Nat):StateT SortSt Sem (Option Nat):=do
 reverseSlice' lo (lo+n)
 let r ←forIn [n:nrem] (none,n) fun _ s=>SU lo s.2
 Break.runK.match_1 (fun _=>StateT SortSt Sem (Option Nat)) r.1 (fun v=>pure v) fun _=>pure (some r.2)
def T1(nrem n:Nat):StateT SortSt Sem (Option Nat):=do
 rule "list.sort.descending-run"
 let r ←forIn [n+1:nrem] (none,n+1,0) fun _ s=>UF lo s.2.1 s.2.2
 Break.runK.match_1 (fun _=>StateT SortSt Sem (Option Nat)) r.1 (fun v=>pure v) fun _ =>
  if r.2.2>0 then do
   let _ ←reverseSlice' (lo+r.2.1-(r.2.2+1)) (lo+r.2.1)
   TR lo nrem r.2.1
  else TR lo nrem r.2.1
theorem Qm(nrem:Nat):countRun' lo nrem=(do
 let r ←forIn [1:nrem] (none,1) fun _ s=>SU lo s.2
 Break.runK.match_1 (fun _=>StateT SortSt Sem (Option Nat)) r.1 (fun v=>pure v) fun _ =>
  if r.2 == nrem then pure (some r.2)
  else if r.2>1 then do
   match ←ltAt' lo (lo+r.2-1) with
   |some c =>
    if c then pure (some r.2)
    else do
     let _ ←reverseSlice' lo (lo+r.2)
     T1 lo nrem r.2
   |_=>pure none
  else T1 lo nrem r.2):=countRun'_eq lo nrem
end
section
variable {prog:Program}{w:World}{A:Around}{E:Value->Shared->Prop}{s:Shared}{κ:SortKind}{P:Keyed->Prop}{lt:Keyed->Keyed->Bool}
theorem Md(C:nS prog w A s κ P lt) {xs:Array Keyed}(hp:∀x,x∈xs->P x) (lo:Nat):oy lt xs lo (lo+1):=by
 intro p q x y h1 h2 h3 ex ey;have e:p=q:=by lia
 subst e;rw[ex]at ey;cases ey;exact C.refl (hp _ (aQq ex))
theorem GL(C:nS prog w A s κ P lt) {xs:Array Keyed}(hp:∀x,x∈xs->P x) {lo n:Nat}(h:oy lt xs lo (lo+(n+1))) (hx:∀x y,xs[lo+(n+1)]?=some x->xs[lo+n]?=some y->lt x y=false) (hz:lo+(n+1)<xs.size):oy lt xs lo (lo+(n+2)):=by
 intro p q x y h1 h2 h3 ex ey
 by_cases c:q<lo+(n+1)
 .exact h p q x y h1 h2 c ex ey
 .have eq:q=lo+(n+1):=by lia
  subst eq
  by_cases c2:p=lo+(n+1)
  .subst c2;rw[ex]at ey;cases ey;exact C.refl (hp _ (aQq ex))
  .have em:xs[lo+n]?=some (xs[lo+n]'(by lia)):=Vv (by lia)
   exact C.trans _ _ _ (hp _ (aQq ex)) (hp _ (aQq em)) (hp _ (aQq ey)) (h p (lo+n) _ _ h1 (by lia) (by lia) ex em) (hx _ _ ey em)
theorem AL(C:nS prog w A s κ P lt) {xs:Array Keyed}(hp:∀x,x∈xs->P x) {lo n:Nat}(h:JP lt xs lo (lo+(n+1))) (hx:∀x y,xs[lo+(n+1)]?=some x->xs[lo+n]?=some y->lt y x=false) (hz:lo+(n+1)<xs.size):JP lt xs lo (lo+(n+2)):=by
 intro p q x y h1 h2 h3 ex ey
 by_cases c:q<lo+(n+1)
 .exact h p q x y h1 h2 c ex ey
 .have eq:q=lo+(n+1):=by lia
  subst eq
  by_cases c2:p=lo+(n+1)
  .subst c2;rw[ex]at ey;cases ey;exact C.refl (hp _ (aQq ex))
  .have em:xs[lo+n]?=some (xs[lo+n]'(by lia)):=Vv (by lia)
   exact C.trans _ _ _ (hp _ (aQq ey)) (hp _ (aQq em)) (hp _ (aQq ex)) (hx _ _ ey em) (h p (lo+n) _ _ h1 (by lia) (by lia) ex em)
theorem zF(C:nS prog w A s κ P lt) {lo nrem a:Nat}{st:SortSt}(hp:∀x,x∈arrOf st->P x) (hk:kindOf st=κ) (ha:1<=a) (han:a<=nrem) (hz:lo+nrem<=(arrOf st).size) (hs:oy lt (arrOf st) lo (lo+a)) :
  wpS (model prog w) A E s (forIn [a:nrem] ((none,a):Option (Option Nat)×Nat) fun _ s=>SU lo s.2)
   (fun c st'=>∃n,c=(none,n)/\st'=st/\a<=n/\n<=nrem/\oy lt (arrOf st) lo (lo+n)/\(n=nrem∨∃x y,(arrOf st)[lo+n]?=some x/\(arrOf st)[lo+n-1]?=some y/\lt x y=true)) st:=by
 refine wpS_forRange (I:=fun i c st'=>c=(none,i)/\st'=st/\a<=i/\i<=nrem/\oy lt (arrOf st) lo (lo+i)) ?step ?fin ⟨rfl,rfl,Vu _,han,hs⟩
 case step =>
  rintro i c st' h1 h2 ⟨rfl,rfl,h3,h4,h5⟩;obtain⟨k,rfl⟩:∃k,i=k+1:=⟨i-1,by lia⟩
  have ex:(arrOf st')[lo+(k+1)]?=some ((arrOf st')[lo+(k+1)]'(by lia)):=Vv (by lia)
  have ey:(arrOf st')[lo+(k+1)-1]?=some ((arrOf st')[lo+k]'(by lia)):=Vv (by lia)
  refine wpS_bind (C.at ex ey (hp _ (aQq ex)) (hp _ (aQq ey)) hk ?_);cases e:lt ((arrOf st')[lo+(k+1)]'(by lia)) ((arrOf st')[lo+k]'(by lia)) with
  |true=>exact wpS_pure ⟨_,rfl,rfl,h3,h4,h5,.inr ⟨_,_,ex,ey,e⟩⟩
  |false =>
   refine wpS_pure ⟨rfl,rfl,by lia,h2,GL C hp h5 (fun x y hx hy=>?_) (by lia)⟩
   have hy':(arrOf st')[lo+(k+1)-1]?=some y:=hy;rw[ex]at hx;rw[ey]at hy';cases hx;cases hy';exact e
 case fin =>
  rintro c st' ⟨rfl,rfl,h3,h4,h5⟩;have e:max a nrem=nrem:=Zu han;rw[e]at h3 h4 h5 ⊢;exact⟨nrem,rfl,rfl,h3,Vu _,h5,.inl rfl⟩
theorem tM{i j:Nat}{st:SortSt}{Q:Unit->SortSt->Prop}(h:Q () (setArr st (mirror (arrOf st) i j ((j-i) / 2)))):wpS (model prog w) A E s (reverseSlice' i j) Q st:=by
 rw[reverseSlice'_eq];exact wpS_modify h
structure mz (xs ys:Array Keyed) (lo hi:Nat):Prop where
 pm:ys.Perm xs
 out:∀k,(k<lo∨hi<=k)->ys[k]?=xs[k]?
theorem mz.refl(xs:Array Keyed) (lo hi:Nat):mz xs xs lo hi:=⟨ZC.refl _,fun _ _=>rfl⟩
theorem mz.trans{xs ys zs:Array Keyed}{lo hi:Nat}(a:mz xs ys lo hi) (b:mz ys zs lo hi):mz xs zs lo hi:=⟨b.pm.trans a.pm,fun k h=>(b.out k h).trans (a.out k h)⟩
theorem mz.mono{xs ys:Array Keyed}{lo hi hi':Nat}(a:mz xs ys lo hi) (h:hi<=hi'):mz xs ys lo hi':=⟨a.pm,fun k q=>a.out k (by lia)⟩
theorem mz.size{xs ys:Array Keyed}{lo hi:Nat}(a:mz xs ys lo hi):ys.size=xs.size:=a.pm.size_eq
theorem mz.mem{xs ys:Array Keyed}{lo hi:Nat}(a:mz xs ys lo hi) {P:Keyed->Prop}(h:∀x,x∈xs->P x):∀x,x∈ys->P x:=fun x hx=>h x (a.pm.mem_iff.mp hx)
theorem kT{xs:Array Keyed}{lo hi i j:Nat}(hj:j<=xs.size) (h1:lo<=i) (h2:j<=hi):mz xs (mirror xs i j ((j-i) / 2)) lo hi :=
 ⟨mirror_perm _ _ _ _,fun k hk=>by rw[getElem?_mirror_all hj,if_neg (by lia)]⟩
structure CR (lt:Keyed->Keyed->Bool) (as:Array Keyed) (lo i q:Nat) (ys:Array Keyed):Prop where
 b:mz as ys lo (lo+i)
 d:JP lt ys lo (lo+i)
 e:QN lt ys (lo+i-(q+1)) (lo+i)
 p:q+1<=i
theorem tL(C:nS prog w A s κ P lt) {ys:Array Keyed}(hp:∀x,x∈ys->P x) {i j:Nat}(h:j<=i+1):QN lt ys i j:=by
 intro p q x y g1 g2 g3 g4 gx gy;have e:p=q:=by lia
 subst e;rw[gx]at gy;cases gy;exact C.refl (hp _ (aQq gx))
theorem N0(C:nS prog w A s κ P lt) {lo nrem k neq:Nat}{st:SortSt}{ys:Array Keyed}(hp:∀x,x∈arrOf st->P x) (hk:kindOf st=κ) (hz:lo+nrem<=(arrOf st).size) (hi:k+1<nrem) (g:CR lt (arrOf st) lo (k+1) neq ys) :
  wpS (model prog w) A E s (UF lo (k+1) neq) (fun r st2=>∃m q zs,st2=setArr st zs/\m<=nrem/\CR lt (arrOf st) lo m q zs/\(r = .done (none,m,q)∨r = .yield (none,m,q)/\m=k+1+1)) (setArr st ys):=by
 have g1:=g.b;have g2:=g.d;have g3:=g.e;have g4:=g.p;have hpy:=g1.mem hp;have hsz:=g1.size;have ex:ys[lo+(k+1)]?=some (ys[lo+(k+1)]'(by lia)):=Vv (by lia)
 have ey:ys[lo+(k+1)-1]?=some (ys[lo+k]'(by lia)):=Vv (by lia)
 have px:=hpy _ (aQq ex);have py:=hpy _ (aQq ey);have des:lt (ys[lo+k]'(by lia)) (ys[lo+(k+1)]'(by lia))=false->JP lt ys lo (lo+(k+1+1)):=fun e=>AL C hpy g2 (fun x y hx hy=>by
  have hy':ys[lo+(k+1)-1]?=some y:=hy;rw[ex]at hx;rw[ey]at hy';cases hx;cases hy';exact e) (by lia)
 refine wpS_bind (C.at (st:=setArr st ys) ex ey px py hk ?_);cases e:lt (ys[lo+(k+1)]'(by lia)) (ys[lo+k]'(by lia)) with
 |true =>
  have g2':=des (C.asym _ _ px py e);dsimp only;rw[if_pos rfl]
  by_cases cn:neq>0
  .rw [if_pos cn];refine wpS_bind (tM (wpS_pure ?_));have bt:mz (arrOf st) (mirror ys (lo+(k+1)-(neq+1)) (lo+(k+1)) ((lo+(k+1)-(lo+(k+1)-(neq+1))) / 2)) lo (lo+(k+1)):=g1.trans (kT (by lia) (by lia) (Vu _))
   exact⟨_,0,_,rfl,hi,⟨bt.mono (by lia),oK (by lia) (by lia) (by lia) g3 g2',tL C (bt.mem hp) (by lia),by lia⟩,.inr ⟨rfl,rfl⟩⟩
  .rw [if_neg cn];exact wpS_pure ⟨_,0,ys,rfl,hi,⟨g1.mono (by lia),g2',tL C hpy (by lia),by lia⟩,.inr ⟨rfl,rfl⟩⟩
 |false =>
  dsimp only;rw[if_neg (by decide)]
  refine wpS_bind (C.at (st:=setArr st ys) ey ex py px hk ?_);cases e':lt (ys[lo+k]'(by lia)) (ys[lo+(k+1)]'(by lia)) with
  |true=>exact wpS_pure ⟨_,neq,ys,rfl,Wu hi,g,.inl rfl⟩
  |false =>
   refine wpS_pure ⟨_,neq+1,ys,rfl,hi,⟨g1.mono (by lia),des e',?_,by lia⟩,.inr ⟨rfl,rfl⟩⟩
   intro p q x y h1 h2 h3 h4 gx gy;have qx:=hpy _ (aQq gx);have qy:=hpy _ (aQq gy)
   by_cases cp:p=lo+(k+1)
   .subst cp;rw[ex]at gx;cases gx
    by_cases cq:q=lo+(k+1)
    .subst cq;rw[ex]at gy;cases gy;exact C.refl px
    .exact C.trans _ _ _ qy py px (g3 (lo+(k+1)-1) q _ _ (by lia) (by lia) (by lia) (by lia) ey gy) e
   .by_cases cq:q=lo+(k+1)
    .subst cq;rw[ex]at gy;cases gy;exact C.trans _ _ _ px py qx e' (g3 p (lo+(k+1)-1) _ _ (by lia) (by lia) (by lia) (by lia) gx ey)
    .exact g3 p q x y (by lia) (by lia) (by lia) (by lia) gx gy
abbrev Qt(lt:Keyed->Keyed->Bool) (st:SortSt) (lo nrem:Nat) (Q:Option Nat->SortSt->Prop):=∀n xs,1<=n->n<=nrem->mz (arrOf st) xs lo (lo+n)->oy lt xs lo (lo+n)->Q (some n) (setArr st xs)
theorem HH(C:nS prog w A s κ P lt) {lo nrem m:Nat}{st:SortSt}{ys:Array Keyed}{Q:Option Nat->SortSt->Prop}(hp:∀x,x∈arrOf st->P x) (hk:kindOf st=κ) (hz:lo+nrem<=(arrOf st).size) (h:Qt lt st lo nrem Q)
  (h1:1<=m) (h2:m<=nrem) (b:mz (arrOf st) ys lo (lo+m)) (d:JP lt ys lo (lo+m)):wpS (model prog w) A E s (TR lo nrem m) Q (setArr st ys):=by
 refine wpS_bind (tM ?_);have hsz:=b.size;have f1:=B4 (by lia) d
 have f2:=b.trans (kT (i:=lo) (j:=lo+m) (by lia) (Vu _) (Vu _))
 refine wpS_bind (wpS_mono (zF (st:=setArr st _) C (f2.mem hp) hk h1 h2 (Wi hz (XY f2.size.symm)) f1) ?_);rintro c st2 ⟨n',rfl,rfl,n1',n2',s1',_⟩;exact wpS_pure (h n' _ (by lia) n2' (f2.mono (by lia)) s1')
theorem HX(C:nS prog w A s κ P lt) {lo nrem n:Nat}{st:SortSt}{xs:Array Keyed}{Q:Option Nat->SortSt->Prop}(hp:∀x,x∈arrOf st->P x) (hk:kindOf st=κ) (hz:lo+nrem<=(arrOf st).size) (h:Qt lt st lo nrem Q)
  (hn:n<nrem) (b:mz (arrOf st) xs lo (lo+n)) (d:JP lt xs lo (lo+(n+1))):wpS (model prog w) A E s (T1 lo nrem n) Q (setArr st xs):=by
 refine wpS_bind (kA (wpS_bind (wpS_mono (wpS_forRange
  (I:=fun i c st2=>∃q ys,c=(none,i,q)/\st2=setArr st ys/\i<=nrem/\CR lt (arrOf st) lo i q ys)
  (Q:=fun c st2=>∃m q ys,c=(none,m,q)/\st2=setArr st ys/\m<=nrem/\CR lt (arrOf st) lo m q ys)
  ?_ ?_ ⟨0,xs,rfl,rfl,hn,b.mono (by lia),d,tL C (b.mem hp) (by lia),by lia⟩) ?_)))
 .rintro i c st2 _ hi ⟨q,ys,rfl,rfl,_,g⟩;obtain⟨k,rfl⟩:∃k,i=k+1:=⟨i-1,by have:=g.p;lia⟩
  refine wpS_mono (N0 C hp hk hz hi g) fun r st2 hr=>?_
  obtain⟨m,q,zs,rfl,hm,g',rfl|⟨rfl,rfl⟩⟩:=hr
  .exact ⟨m,q,zs,rfl,rfl,hm,g'⟩
  .exact ⟨q,zs,rfl,rfl,hm,g'⟩
 .rintro c st2 ⟨q,ys,rfl,rfl,hm,g⟩;exact⟨_,q,ys,rfl,rfl,hm,g⟩
 .rintro c st2 ⟨m,q,ys,rfl,rfl,hm,g⟩;have hsz:=g.b.size;have gp:=g.p;dsimp only
  by_cases cn:q>0
  .rw [if_pos cn];exact wpS_bind (tM (HH (st:=st) (ys:=mirror ys (lo+m-(q+1)) (lo+m) ((lo+m-(lo+m-(q+1))) / 2)) C hp hk hz h (by lia) hm (g.b.trans (kT (by lia) (by lia) (Vu _))) (oK (by lia) (by lia) (Vu _) g.e g.d)))
  .rw [if_neg cn];exact HH C hp hk hz h (by lia) hm g.b g.d
theorem yR(C:nS prog w A s κ P lt) {lo nrem:Nat}{st:SortSt}{Q:Option Nat->SortSt->Prop}(hp:∀x,x∈arrOf st->P x) (hk:kindOf st=κ) (h1:1<=nrem) (hz:lo+nrem<=(arrOf st).size)
  (h:∀n xs,1<=n->n<=nrem->mz (arrOf st) xs lo (lo+n)->oy lt xs lo (lo+n)->Q (some n) (setArr st xs)):wpS (model prog w) A E s (countRun' lo nrem) Q st:=by
 rw[Qm];refine wpS_bind (wpS_mono (zF C hp hk (Vu 1) h1 hz (Md C hp lo)) ?_);rintro c st' ⟨n,rfl,rfl,n1,n2,sg1,brk⟩;dsimp only;have triv:Q (some n) st':=h n (arrOf st') n1 n2 (mz.refl _ _ _) sg1
 by_cases c1:n=nrem
 .rw [if_pos (by simp[c1])]
  exact wpS_pure triv
 rw[if_neg (by simpa using c1)]
 obtain⟨xb,yb,exb,eyb,eb⟩:=brk.resolve_left c1;obtain⟨m,rfl⟩:∃m,n=m+1:=⟨n-1,by lia⟩
 have pxb:=hp _ (aQq exb);have pyb:=hp _ (aQq eyb);have go:QN lt (arrOf st') lo (lo+(m+1))->JP lt (arrOf st') lo (lo+(m+1+1)):=fun e1 =>
  AL C hp (fun p q x y g1 g2 g3 ex ey=>e1 p q x y g1 (by lia) (by lia) g3 ex ey) (fun x y hx hy=>by
   have hy':(arrOf st')[lo+(m+1)-1]?=some y:=hy;rw[exb]at hx;rw[eyb]at hy';cases hx;cases hy';exact C.asym _ _ pxb pyb eb) (by lia)
 by_cases c2:m+1>1
 .rw [if_pos c2];have ex:(arrOf st')[lo]?=some ((arrOf st')[lo]'(by lia)):=Vv (by lia)
  have pex:=hp _ (aQq ex);refine wpS_bind (C.at ex eyb pex pyb hk ?_);cases e:lt ((arrOf st')[lo]'(by lia)) yb with
  |true=>exact wpS_pure triv
  |false =>
   dsimp only;rw[if_neg (by decide)]
   have eqv:QN lt (arrOf st') lo (lo+(m+1)):=by
    intro p q x y g1 g2 g3 g4 gx gy;have px:=hp _ (aQq gx);have py:=hp _ (aQq gy);have q1:=sg1 q (lo+(m+1)-1) _ _ g3 (by lia) (by lia) gy eyb
    have q2:=sg1 lo p _ _ (Vu _) g1 g2 ex gx;exact C.trans _ _ _ py pex px (C.trans _ _ _ py pyb pex q1 e) q2
   exact wpS_bind (tM (HX C hp hk hz h (by lia) (kT (by lia) (Vu _) (Vu _)) (oK (by lia) (Vu _) (by lia) eqv (go eqv))))
 .rw [if_neg c2];exact HX C hp hk hz h (by lia) (mz.refl _ _ _) (go (tL C hp (by lia)))
end
section
variable {prog:Program}{w:World}{A:Around}{E:Value->Shared->Prop}{s:Shared}{κ:SortKind}{P:Keyed->Prop}{lt:Keyed->Keyed->Bool}
theorem Kz(C:nS prog w A s κ P lt) {xs:Array Keyed}(hp:∀x,x∈xs->P x) {lo k l:Nat}(hz:lo+k<xs.size) (hl:l<=k) (hs:oy lt xs lo (lo+k)) {x:Keyed}(hx:xs[lo+k]?=some x)
  (h1:∀j y,j<l->xs[lo+j]?=some y->lt x y=false) (h2:∀j y,l<=j->j<k->xs[lo+j]?=some y->lt x y=true):oy lt (bubble xs (lo+k) (k-l)) lo (lo+(k+1)):=by
 have px:=hp _ (aQq hx);have g:∀p,(bubble xs (lo+k) (k-l))[p]?=if p=lo+l then some x else if lo+l<p/\p<=lo+k then xs[p-1]? else xs[p]?:=fun p=>by
  rw[getElem?_bubble hz (k-l) (by lia) p,show lo+k-(k-l)=lo+l by lia,hx]
 intro p q u v a1 a2 a3 eu ev;rw[g]at eu ev
 by_cases cp:p=lo+l
 .rw [if_pos cp]at eu;cases eu
  by_cases cq:q=lo+l
  .rw [if_pos cq]at ev;cases ev;exact C.refl px
  .rw [if_neg cq,if_pos ⟨by lia,by lia⟩]at ev
   have pv:=hp _ (aQq ev);exact C.asym _ _ px pv (h2 (q-1-lo) v (by lia) (by lia) (by rw[show lo+(q-1-lo)=q-1 by lia];exact ev))
 .rw [if_neg cp]at eu
  by_cases cp2:lo+l<p/\p<=lo+k
  .rw [if_pos cp2]at eu;rw[if_neg (by lia),if_pos ⟨by lia,by lia⟩]at ev
   exact hs (p-1) (q-1) _ _ (by lia) (by lia) (by lia) eu ev
  .rw [if_neg cp2]at eu
   by_cases cq:q=lo+l
   .rw [if_pos cq]at ev;cases ev;exact h1 (p-lo) u (by lia) (by rw[show lo+(p-lo)=p by lia];exact eu)
   .rw [if_neg cq]at ev
    by_cases cq2:lo+l<q/\q<=lo+k
    .rw [if_pos cq2]at ev;exact hs p (q-1) _ _ a1 (by lia) (by lia) eu ev
    .rw [if_neg cq2]at ev;exact hs p q _ _ a1 a2 (by lia) eu ev
theorem Bi{xs:Array Keyed}{lo k l n:Nat}(hz:lo+k<xs.size) (hl:l<=k) (hn:k<n):mz xs (bubble xs (lo+k) (k-l)) lo (lo+n) :=
 ⟨bubble_perm _ _ _,fun p hp=>by rw[getElem?_bubble hz (k-l) (by lia) p,if_neg (by lia),if_neg (by lia)]⟩
theorem FE{src dst:Nat}{st:SortSt}{Q:Unit->SortSt->Prop}(h:Q () (setArr st (bubble (arrOf st) src (src-dst)))):wpS (model prog w) A E s (moveDown' src dst) Q st:=by
 rw[moveDown'_eq];exact wpS_modify h
theorem Ce(C:nS prog w A s κ P lt) {lo n ok:Nat}{st:SortSt}{Q:Bool->SortSt->Prop}(hp:∀x,x∈arrOf st->P x) (hk:kindOf st=κ) (h1:1<=ok) (h2:ok<=n) (hz:lo+n<=(arrOf st).size) (hs:oy lt (arrOf st) lo (lo+ok))
  (h:∀xs,mz (arrOf st) xs lo (lo+n)->oy lt xs lo (lo+n)->Q true (setArr st xs)):wpS (model prog w) A E s (binarySort' lo n ok) Q st:=by
 rw[binarySort'_eq];dsimp only;rw[Nat.max_eq_left h1];refine wpS_bind (wpS_mono (wpS_forRange (I:=fun k c st'=>∃ys,c=(none,())/\st'=setArr st ys/\mz (arrOf st) ys lo (lo+n)/\oy lt ys lo (lo+k)/\k<=n)
  (Q:=fun c st'=>∃ys,c=(none,())/\st'=setArr st ys/\mz (arrOf st) ys lo (lo+n)/\oy lt ys lo (lo+n)) ?step ?fin ⟨arrOf st,rfl,rfl,mz.refl _ _ _,hs,h2⟩) ?post)
 case fin =>
  rintro c st' ⟨ys,rfl,rfl,b1,s1,q⟩;have e:max ok n=n:=by lia
  rw[e]at s1;exact⟨ys,rfl,rfl,b1,s1⟩
 case post =>
  rintro c st' ⟨ys,rfl,rfl,b1,s1⟩;exact wpS_pure (h ys b1 s1)
 case step =>
  rintro k c st' hk1 hk2 ⟨ys,rfl,rfl,b1,s1,q⟩;have hpy:=b1.mem hp;have hsz:=b1.size;have ex:ys[lo+k]?=some (ys[lo+k]'(by lia)):=Vv (by lia)
  have px:=hpy _ (aQq ex);refine wpS_bind (wpS_mono (wpS_forRange (I:=fun i c st'=>∃l r,c=(none,l,r)/\st'=setArr st ys/\l<=r/\r<=k/\(∀j y,j<l->ys[lo+j]?=some y->lt (ys[lo+k]'(by lia)) y=false)/\(∀j y,r<=j->j<k->ys[lo+j]?=some y->lt (ys[lo+k]'(by lia)) y=true)/\(r-l)+i<=k)
   (Q:=fun c st'=>∃l r,c=(none,l,r)/\st'=setArr st ys/\l=r/\r<=k/\(∀j y,j<l->ys[lo+j]?=some y->lt (ys[lo+k]'(by lia)) y=false)/\(∀j y,r<=j->j<k->ys[lo+j]?=some y->lt (ys[lo+k]'(by lia)) y=true))
   ?step1 ?fin1 ⟨0,k,rfl,rfl,Wf _,Vu _,fun j y hj=>absurd hj (Xo _),fun j y g1 g2=>absurd g2 (by lia),by lia⟩) ?post1)
  case fin1 =>
   rintro c st' ⟨l,r,rfl,rfl,a1,a2,a3,a4,a5⟩;exact⟨l,r,rfl,rfl,by lia,a2,a3,a4⟩
  case step1 =>
   rintro i c st' _ hi ⟨l,r,rfl,rfl,a1,a2,a3,a4,a5⟩;dsimp only
   by_cases c1:l ≥ r
   .rw [if_pos c1];exact wpS_pure ⟨l,r,rfl,rfl,by lia,a2,a3,a4⟩
   rw[if_neg c1];have em:ys[lo+(l+r) / 2]?=some (ys[lo+(l+r) / 2]'(by lia)):=Vv (by lia)
   have pm:=hpy _ (aQq em);refine wpS_bind (C.at (st:=setArr st ys) ex em px pm hk ?_);cases e:lt (ys[lo+k]'(by lia)) (ys[lo+(l+r) / 2]'(by lia)) with
   |true =>
    dsimp only;rw[if_pos rfl];refine wpS_pure ⟨l,_,rfl,rfl,by lia,by lia,a3,fun j y g1 g2 ey=>?_,by lia⟩
    have py:=hpy _ (aQq ey);cases e':lt (ys[lo+k]'(by lia)) y with
    |true=>rfl
    |false =>
     have q1:=s1 (lo+(l+r) / 2) (lo+j) _ _ (by lia) (by lia) (by lia) em ey
     have q2:=C.trans _ _ _ pm py px q1 e';rw[e]at q2;cases q2
   |false =>
    dsimp only;rw[if_neg (by decide)]
    refine wpS_pure ⟨_,r,rfl,rfl,by lia,a2,fun j y g1 ey=>?_,a4,by lia⟩
    have py:=hpy _ (aQq ey);exact C.trans _ _ _ py pm px (s1 (lo+j) (lo+(l+r) / 2) _ _ (by lia) (by lia) (by lia) ey em) e
  case post1 =>
   rintro c st' ⟨l,r,rfl,rfl,rfl,a2,a3,a4⟩;dsimp only;refine wpS_bind (FE (wpS_pure ?_));have e:lo+k-(lo+l)=k-l:=by lia
   show ∃ys',_/\setArr st (bubble ys (lo+k) (lo+k-(lo+l)))=setArr st ys'/\_;rw[e];exact⟨_,rfl,rfl,b1.trans (Bi (by lia) a2 hk2),Kz C hpy (by lia) a2 s1 ex a3 a4,hk2⟩
end
def eW(lt:Keyed->Keyed->Bool) (xs:Array Keyed):Nat->List (Nat×Nat×Nat)->Nat->Prop
 |s,[],e=>s=e
 |s,p::r,e=>p.1=s/\0<p.2.1/\oy lt xs s (s+p.2.1)/\eW lt xs (s+p.2.1) r e
theorem gH{lt:Keyed->Keyed->Bool}{xs:Array Keyed}:∀{q r:List (Nat×Nat×Nat)}{s e:Nat},eW lt xs s (q++r) e↔∃m,eW lt xs s q m/\eW lt xs m r e
 | [],r,s,e=>by
  constructor
  .intro h;exact⟨s,rfl,h⟩
  .rintro ⟨m,rfl,h⟩;exact h
 |p::q,r,s,e=>by
  constructor
  .rintro ⟨h1,h2,h3,h4⟩;obtain⟨m,a,b⟩:=gH.mp h4;exact⟨m,⟨h1,h2,h3,a⟩,b⟩
  .rintro ⟨m,⟨h1,h2,h3,a⟩,b⟩;exact⟨h1,h2,h3,gH.mpr ⟨m,a,b⟩⟩
theorem mF{lt:Keyed->Keyed->Bool}{xs:Array Keyed}:∀{q:List (Nat×Nat×Nat)}{s e:Nat},eW lt xs s q e->s+q.length<=e
 | [],s,e,h=>by have:s=e:=h;simp[this]
 |p::q,s,e,⟨_,h2,_,h4⟩=>by
  have:=mF h4;rw[lCq];lia
theorem jP{lt:Keyed->Keyed->Bool}{xs ys:Array Keyed}:∀{q:List (Nat×Nat×Nat)}{s e:Nat},(∀k,s<=k->k<e->ys[k]?=xs[k]?)->eW lt xs s q e->eW lt ys s q e
 | [],s,e,_,h=>h
 |p::q,s,e,g,⟨h1,h2,h3,h4⟩=>by
  have l:=mF h4;refine⟨h1,h2,fun a b x y a1 a2 a3 ex ey=>h3 a b x y a1 a2 a3 ?_ ?_,jP (fun k k1 k2=>g k (by lia) k2) h4⟩
  .rw [←g a a1 (by lia)];exact ex
  .rw [←g b (by lia) (by lia)];exact ey
theorem qk{lt:Keyed->Keyed->Bool}{xs:Array Keyed}:∀{q q':List (Nat×Nat×Nat)}{s e:Nat},q'.map (fun p=>(p.1,p.2.1))=q.map (fun p=>(p.1,p.2.1))->eW lt xs s q e->eW lt xs s q' e
 | [],q',s,e,g,h=>by
  have:q'=[]:=by simpa using g
  subst this;exact h
 |p::q,[],s,e,g,h=>by simp at g
 |p::q,p'::q',s,e,g,⟨h1,h2,h3,h4⟩=>by
  simp only[VG,Zm.injEq,Prod.mk.injEq]at g;obtain⟨⟨g1,g2⟩,g3⟩:=g;rw[←g2]at h2 h3 h4;exact⟨g1.trans h1,h2,h3,qk g3 h4⟩
theorem wG(o:Nat):∀(M:List Keyed) (n:Nat) (xs:Array Keyed),o+n+M.length<=xs.size ->
  ((M.zipIdx n).foldl (fun a x=>a.setIfInBounds (o+x.2) x.1) xs).toList=xs.toList.take (o+n)++M++xs.toList.drop (o+n+M.length)
 | [],n,xs,h=>by simp
 |y::r,n,xs,h=>by
  rw[List.zipIdx_cons,Yf];rw[lCq]at h;rw[wG o r (n+1) _ (by rw[Array.size_setIfInBounds];lia),Yn]
  have hl:o+n<xs.toList.length:=by rw[VD];lia
  have e1:(xs.toList.set (o+n) y).take (o+(n+1))=xs.toList.take (o+n)++[y]:=by
   rw[←X7,W8,VS hl,List.take_set_of_le (Vu _)];rfl
  have e2:(xs.toList.set (o+n) y).drop (o+(n+1)+r.length)=xs.toList.drop (o+n+(r.length+1)):=by
   rw[List.drop_set_of_lt (by lia)]
   congr 1;lia
  rw[e1,e2,lCq,VP,VP,VP];rfl
section
variable {prog:Program}{w:World}{A:Around}{E:Value->Shared->Prop}{s:Shared}{κ:SortKind}{P:Keyed->Prop}{lt:Keyed->Keyed->Bool}
theorem C4(C:nS prog w A s κ P lt) {left:Bool}{key:Keyed}{arr:Array Keyed}{base n:Nat}(hb:base+n<=arr.size) (ha:∀x,x∈arr->P x) (hkey:P key) (so:oy lt arr base (base+n)) :
  ∀i j,i<=j->j<n->kR lt left key arr base j=true->kR lt left key arr base i=true:=by
 intro i j hij hj h;have ei:arr[base+i]?=some (arr[base+i]'(by lia)):=Vv (by lia)
 have ej:arr[base+j]?=some (arr[base+j]'(by lia)):=Vv (by lia)
 have pi:=ha _ (aQq ei);have pj:=ha _ (aQq ej);have le:=so (base+i) (base+j) _ _ (by lia) (by lia) (by lia) ei ej
 rw[gK ej]at h;rw[gK ei];cases left with
 |true =>
  rw[if_pos rfl]at h ⊢;cases q:lt (arr[base+i]'(by lia)) key with
  |true=>rfl
  |false =>
   have:=C.trans _ _ _ hkey pi pj q le;rw[h]at this;cases this
 |false =>
  rw[if_neg (by decide)]at h ⊢
  have h':lt key (arr[base+j]'(by lia))=false:=by simpa using h
  have:=C.trans _ _ _ pi pj hkey le h';simp[this]
theorem fW{a:Array Keyed}{i j:Nat}{x:Keyed}(h:x∈(a.extract i j).toList):∃k,i<=k/\k<j/\a[k]?=some x:=by
 rw[dm]at h;obtain⟨k,k1,k2,e⟩:=jL h;rw[WT]at e;exact⟨k,k1,k2,e⟩
theorem se{a:Array Keyed}{i j:Nat}(h:oy lt a i j):kP lt (a.extract i j).toList:=by
 rw[dm];refine WH.mpr fun p q hp hq hpq=>?_
 rw[VI,lTq,VD]at hp hq;have e:∀k (hk:k<((a.toList.take j).drop i).length),a[i+k]?=some ((a.toList.take j).drop i)[k]:=fun k hk=>by
  rw[VI,lTq,VD]at hk;rw[X2,Ys,VQ];exact⟨by lia,by simp⟩
 exact h (i+p) (i+q) _ _ (by lia) (by lia) (by lia) (e p _) (e q _)
theorem AO(i:Nat):mergeAt' i=(do
 let s ←get
 let (some (sa,na,power),some (sb,nb,_)):=((pendingOf s)[i]?,(pendingOf s)[i+1]?)|unsupported "internal:list.sort.pending"
 set (setPending s (((pendingOf s).setIfInBounds i (sa,na+nb,power)).eraseIdxIfInBounds (i+1)))
 let some k ←jU false (←elem' (arrOf s) sb) (arrOf s) sa na 0|return false
 let (sa,na):=(sa+k,na-k)
 if na == 0 then return true
 let some nb ←jU true (←elem' (arrOf s) (sa+na-1)) (arrOf s) sb nb (nb-1)|return false
 if nb == 0 then return true
 let x:=(arrOf s).extract sa sb
 let y:=(arrOf s).extract sb (sb+nb)
 let merged ←if na<=nb then tR x y else ug x y
 modify fun s=>setArr s (merged.toList.zipIdx.foldl (fun a (p,j)=>a.setIfInBounds (sa+j) p) (arrOf s))
 return (failedOf (←get)).isNone):=rfl
theorem DW{st st':SortSt}{Q:PUnit->SortSt->Prop}(h:Q ⟨⟩ st'):wpS (model prog w) A E s (set st':StateT SortSt Sem PUnit) Q st:=by
 unfold wpS;rw[StateT.run_set];exact wpAny_pure ⟨rfl,h⟩
theorem FF(C:nS prog w A s κ P lt) {xs zs M:Array Keyed}{sa na nb k l:Nat}(hp:∀x,x∈xs->P x) (hz:sa+na+nb<=xs.size) (hk:k<=na) (hl:l<=nb) (h1:oy lt xs sa (sa+na)) (h2:oy lt xs (sa+na) (sa+na+nb)) {key last:Keyed}
  (ek:xs[sa+na]?=some key) (el:xs[sa+na-1]?=some last)
  (k2:∀j y,j<k->xs[sa+j]?=some y->lt key y=false) (l3:∀j y,l<=j->j<nb->xs[sa+na+j]?=some y->lt y last=false) (hna:0<na) (hnb:0<nb)
  (m:JK lt (xs.extract (sa+k) (sa+na)) (xs.extract (sa+na) (sa+na+l)) M)
  (hzs:zs.toList=xs.toList.take (sa+k)++M.toList++xs.toList.drop (sa+k+M.toList.length)):mz xs zs sa (sa+na+nb)/\oy lt zs sa (sa+na+nb):=by
 have lM:M.toList.length=(na-k)+l:=by
  have:=m.pm.length_eq;simp only[lAq,VD,XT]at this ⊢;lia
 have hlx:xs.toList.length=xs.size:=VD;have gz:∀p,zs[p]?=if p<sa+k then xs[p]? else if p<sa+na+l then M[p-(sa+k)]? else xs[p]?:=fun p=>by
  rw[←VR,hzs]
  by_cases c1:p<sa+k
  .rw [if_pos c1,VP,gZq (by rw[lTq];lia),Ww c1,VR]
  .rw [if_neg c1,VP,gYq (by rw[lTq];lia),lTq,show min (sa+k) xs.toList.length=sa+k by lia]
   by_cases c2:p<sa+na+l
   .rw [if_pos c2,gZq (by lia),VR]
   .rw [if_neg c2,gYq (by lia),Xj,VR]
    congr 1;lia
 have pk:=hp _ (aQq ek);have pl:=hp _ (aQq el);have from_:∀q v,M[q]?=some v->(∃j,k<=j/\j<na/\xs[sa+j]?=some v)∨∃j,j<l/\xs[sa+na+j]?=some v:=fun q v e=>by
  have hv:v∈M.toList:=by simpa using aQq e
  rcases mAq.mp (m.pm.mem_iff.mp hv) with hv|hv
  .obtain ⟨j,j1,j2,ej⟩:=fW hv;exact .inl ⟨j-sa,by lia,by lia,by rw[show sa+(j-sa)=j by lia];exact ej⟩
  .obtain ⟨j,j1,j2,ej⟩:=fW hv;exact .inr ⟨j-(sa+na),by lia,by rw[show sa+na+(j-(sa+na))=j by lia];exact ej⟩
 refine⟨⟨?_,fun p hp'=>?_⟩,?_⟩
 .rw [Array.perm_iff_toList_perm,hzs];have c:xs.toList=xs.toList.take (sa+k)++((xs.extract (sa+k) (sa+na)).toList++(xs.extract (sa+na) (sa+na+l)).toList)++xs.toList.drop (sa+k+M.toList.length):=by
   rw[dm,dm,lM];have a1:=pY xs.toList (sa+k) (sa+na) (by lia)
   have a2:=pY xs.toList (sa+na) (sa+na+l) (by lia)
   have a3:sa+k+(na-k+l)=sa+na+l:=by lia
   rw[a3,←VP,←a1,←a2,V4]
  conv=>rhs;rw[c]
  exact Wx.append_right _ (Wx.append_left _ m.pm)
 .rw [gz]
  by_cases c1:p<sa+k
  .rw [if_pos c1]
  .rw [if_neg c1,if_neg (by lia)]
 .intro p q x y a1 a2 a3 ex ey;rw[gz]at ex ey
  by_cases p1:p<sa+k
  .rw [if_pos p1]at ex;have px:=hp _ (aQq ex);have lx:lt key x=false:=k2 (p-sa) x (by lia) (by rw[show sa+(p-sa)=p by lia];exact ex)
   by_cases q1:q<sa+k
   .rw [if_pos q1]at ey;exact h1 p q _ _ a1 a2 (by lia) ex ey
   .rw [if_neg q1]at ey
    by_cases q2:q<sa+na+l
    .rw [if_pos q2]at ey;rcases from_ _ _ ey with ⟨j,j1,j2,ej⟩|⟨j,j1,ej⟩
     .exact h1 p (sa+j) _ _ a1 (by lia) (by lia) ex ej
     .exact C.trans _ _ _ px pk (hp _ (aQq ej)) lx (h2 (sa+na) (sa+na+j) _ _ (Vu _) (by lia) (by lia) ek ej)
    .rw [if_neg q2]at ey;exact C.trans _ _ _ px pk (hp _ (aQq ey)) lx (h2 (sa+na) q _ _ (Vu _) (by lia) (by lia) ek ey)
  .rw [if_neg p1]at ex;rw[if_neg (by lia)]at ey
   by_cases p2:p<sa+na+l
   .rw [if_pos p2]at ex
    by_cases q2:q<sa+na+l
    .rw [if_pos q2]at ey;rcases XS a2 with c|c
     .have ex':M.toList[p-(sa+k)]?=some x:=by rw[VR];exact ex
      have ey':M.toList[q-(sa+k)]?=some y:=by rw[VR];exact ey
      obtain⟨hx,e1⟩:=gSq.mp ex';obtain⟨hy,e2⟩:=gSq.mp ey';have:=WH.mp m.so (p-(sa+k)) (q-(sa+k)) hx hy (by lia)
      rw[e1,e2]at this;exact this
     .subst c;rw[ex]at ey;cases ey;rcases from_ _ _ ex with ⟨j,j1,j2,ej⟩|⟨j,j1,ej⟩
      .exact C.refl (hp _ (aQq ej))
      .exact C.refl (hp _ (aQq ej))
    .rw [if_neg q2]at ey;have py:=hp _ (aQq ey);rcases from_ _ _ ex with ⟨j,j1,j2,ej⟩|⟨j,j1,ej⟩
     .exact C.trans _ _ _ (hp _ (aQq ej)) pl py (h1 (sa+j) (sa+na-1) _ _ (by lia) (by lia) (by lia) ej el) (l3 (q-(sa+na)) y (by lia) (by lia) (by rw[show sa+na+(q-(sa+na))=q by lia];exact ey))
     .exact h2 (sa+na+j) q _ _ (by lia) (by lia) (by lia) ej ey
   .rw [if_neg p2]at ex;rw[if_neg (by lia)]at ey
    exact h2 p q _ _ (by lia) a2 (by lia) ex ey
end
section
variable {prog:Program}{w:World}{A:Around}{E:Value->Shared->Prop}{s:Shared}{κ:SortKind}{P:Keyed->Prop}{lt:Keyed->Keyed->Bool}
theorem JI{α:Type}{l:List α}{i:Nat}{a b:α}(h1:l[i]?=some a) (h2:l[i+1]?=some b):l=l.take i++a::b::l.drop (i+2):=by
 obtain⟨h3,e3⟩:=gSq.mp h1;obtain⟨h4,e4⟩:=gSq.mp h2
 conv=>lhs;rw[←V4 i l]
 rw[VW h3,VW h4,e3,e4]
theorem Eo{α:Type}{q r:List α}{a b c:α}:((q++a::b::r).set q.length c).eraseIdx (q.length+1)=q++c::r:=by
 rw[YM _ _ (Vu _),WA,Xk,List.eraseIdx_append_of_length_le (by lia),YB]
 rfl
theorem si(C:nS prog w A s κ P lt) {i lo:Nat}{st:SortSt}{Q:Bool->SortSt->Prop}(hp:∀x,x∈arrOf st->P x) (hk:kindOf st=κ) (hf:failedOf st=none) (hlo:lo<=(arrOf st).size) (hch:eW lt (arrOf st) 0 (pendingOf st).toList lo)
  (hi:i+1<(pendingOf st).size) (h:∀xs p g,mz (arrOf st) xs 0 lo->p.size+1=(pendingOf st).size->eW lt xs 0 p.toList lo->Q true (SortSt.mk' κ xs p g none)):wpS (model prog w) A E s (mergeAt' i) Q st:=by
 obtain⟨κ',arr,pend,g0,fl⟩:=st;have hk:κ'=κ:=hk;have hf:fl=none:=hf;subst hk hf;have hp:∀x,x∈arr->P x:=hp;have hlo:lo<=arr.size:=hlo;have hch:eW lt arr 0 pend.toList lo:=hch;have hi:i+1<pend.size:=hi;have e1:pend[i]?=some (pend[i]'(by lia)):=Vv (by lia)
 have e2:pend[i+1]?=some (pend[i+1]'(by lia)):=Vv (by lia)
 generalize pend[i]'(by lia)=a at e1
 generalize pend[i+1]'(by lia)=b at e2
 obtain⟨sa,na,pa⟩:=a;obtain⟨sb,nb,pb⟩:=b;have e1':pend.toList[i]?=some (sa,na,pa):=by rw[VR];exact e1
 have e2':pend.toList[i+1]?=some (sb,nb,pb):=by rw[VR];exact e2
 have ep:=JI e1' e2';have lq:(pend.toList.take i).length=i:=by rw[lTq,VD];lia
 generalize pend.toList.take i=q at ep lq;generalize pend.toList.drop (i+2)=r at ep;rw[ep]at hch;obtain⟨m0,c1,c2⟩:=gH.mp hch;obtain⟨x1,x2,x3,x4,x5,x6,x7⟩:=c2;have d1:sa=m0:=x1;have d2:0<na:=x2;have d3:oy lt arr m0 (m0+na):=x3;have f1:sb=m0+na:=x4;have f2:0<nb:=x5;have f3:oy lt arr (m0+na) (m0+na+nb):=x6;have f4:eW lt arr (m0+na+nb) r lo:=x7
 clear x1 x2 x3 x4 x5 x6 x7
 subst d1 f1;have hrl:sa+na+nb+r.length<=lo:=mF f4;have hql:0+q.length<=sa:=mF c1;have hz:sa+na+nb<=arr.size:=by lia
 have np:((pend.setIfInBounds i (sa,na+nb,pa)).eraseIdxIfInBounds (i+1)).toList=q++(sa,na+nb,pa)::r:=by
  rw[Array.toList_eraseIdxIfInBounds,Yn,ep,←lq];exact Eo
 have ns:((pend.setIfInBounds i (sa,na+nb,pa)).eraseIdxIfInBounds (i+1)).size+1=pend.size:=by
  rw[←VD,np,←VD,ep];simp only[lAq,lCq];lia
 have fin:∀zs g,mz arr zs sa (sa+na+nb)->oy lt zs sa (sa+na+nb)->Q true (SortSt.mk' κ' zs ((pend.setIfInBounds i (sa,na+nb,pa)).eraseIdxIfInBounds (i+1)) g none):=fun zs g b1 s1=>by
  refine h zs _ g ⟨b1.pm,fun k hk=>b1.out k (by lia)⟩ ns ?_
  rw[np];refine gH.mpr ⟨sa,jP (fun k _ k2=>b1.out k (.inl k2)) c1,rfl,by show 0<na+nb;lia,?_,?_⟩
  .show oy lt zs sa (sa+(na+nb));rw[←X7];exact s1
  .show eW lt zs (sa+(na+nb)) r lo;rw[←X7];exact jP (fun k k1 _=>b1.out k (.inr k1)) f4
 rw[AO];refine wpS_bind (wpS_get ?_);dsimp only;rw[e1,e2];dsimp only;refine wpS_bind (DW ?_);have ek:arr[sa+na]?=some (arr[sa+na]'(by lia)):=Vv (by lia)
 have el:arr[sa+na-1]?=some (arr[sa+na-1]'(by lia)):=Vv (by lia)
 have pk:=hp _ (aQq ek);have pl:=hp _ (aQq el);refine wpS_bind (bL ek ?_);refine wpS_bind (gR C d2 (by lia) hp pk rfl (C4 C (by lia) hp pk d3) fun k k1 k2 k3=>?_)
 dsimp only;have kl:∀j y,j<k->arr[sa+j]?=some y->lt (arr[sa+na]'(by lia)) y=false:=fun j y hj ey=>by
  have:=k2 j hj;rw[gK ey,if_neg (by decide)]at this
  simpa using this
 have kh:∀j y,k<=j->j<na->arr[sa+j]?=some y->lt (arr[sa+na]'(by lia)) y=true:=fun j y h1 h2 ey=>by
  have:=k3 j h1 h2;rw[gK ey,if_neg (by decide)]at this
  simpa using this
 by_cases c1':na-k=0
 .rw [if_pos (by simp[c1'])]
  refine wpS_pure (fin arr g0 (mz.refl _ _ _) fun p q x y a1 a2 a3 ex ey=>?_)
  have px:=hp _ (aQq ex);have py:=hp _ (aQq ey)
  by_cases q1:q<sa+na
  .exact d3 p q _ _ a1 a2 q1 ex ey
  .by_cases p1:p<sa+na
   .exact C.trans _ _ _ px pk py (kl (p-sa) x (by lia) (by rw[show sa+(p-sa)=p by lia];exact ex)) (f3 (sa+na) q _ _ (Vu _) (by lia) a3 ek ey)
   .exact f3 p q _ _ (by lia) a2 a3 ex ey
 rw[if_neg (by simpa using c1')]
 have ea:sa+k+(na-k)-1=sa+na-1:=by lia
 rw[ea];refine wpS_bind (bL el ?_);refine wpS_bind (gR C (by lia) (by lia) hp pl rfl (C4 C (by lia) hp pl f3) fun l l1 l2 l3=>?_)
 dsimp only;have ll:∀j y,j<l->arr[sa+na+j]?=some y->lt y (arr[sa+na-1]'(by lia))=true:=fun j y hj ey=>by
  have:=l2 j hj;rw[gK ey,if_pos rfl]at this;exact this
 have lh:∀j y,l<=j->j<nb->arr[sa+na+j]?=some y->lt y (arr[sa+na-1]'(by lia))=false:=fun j y h1 h2 ey=>by
  have:=l3 j h1 h2;rw[gK ey,if_pos rfl]at this;exact this
 by_cases c2':l=0
 .rw [if_pos (by simp[c2'])]
  refine wpS_pure (fin arr g0 (mz.refl _ _ _) fun p q x y a1 a2 a3 ex ey=>?_)
  have px:=hp _ (aQq ex);have py:=hp _ (aQq ey)
  by_cases q1:q<sa+na
  .exact d3 p q _ _ a1 a2 q1 ex ey
  .by_cases p1:p<sa+na
   .exact C.trans _ _ _ px pl py (d3 p (sa+na-1) _ _ a1 (by lia) (by lia) ex el) (lh (q-(sa+na)) y (by lia) (by lia) (by rw[show sa+na+(q-(sa+na))=q by lia];exact ey))
   .exact f3 p q _ _ (by lia) a2 a3 ex ey
 rw[if_neg (by simpa using c2')]
 have sx:kP lt (arr.extract (sa+k) (sa+na)).toList:=se fun p q x y a1 a2 a3 ex ey=>d3 p q x y (by lia) a2 a3 ex ey
 have sy:kP lt (arr.extract (sa+na) (sa+na+l)).toList:=se fun p q x y a1 a2 a3 ex ey=>f3 p q x y a1 a2 (by lia) ex ey
 have hx:∀x,x∈arr.extract (sa+k) (sa+na)->P x:=fun x hx=>by
  obtain⟨j,_,_,e⟩:=fW (Yc.mpr hx);exact hp _ (aQq e)
 have hy:∀x,x∈arr.extract (sa+na) (sa+na+l)->P x:=fun x hx=>by
  obtain⟨j,_,_,e⟩:=fW (Yc.mpr hx);exact hp _ (aQq e)
 have zx:(arr.extract (sa+k) (sa+na)).size=na-k:=by rw[XT];lia
 have zy:(arr.extract (sa+na) (sa+na+l)).size=l:=by rw[XT];lia
 have g0':(arr.extract (sa+na) (sa+na+l))[0]?=some (arr[sa+na]'(by lia)):=by
  rw[YI,if_pos (by lia),ZL]
  exact ek
 have gl':(arr.extract (sa+k) (sa+na))[na-k-1]?=some (arr[sa+na-1]'(by lia)):=by
  rw[YI,if_pos (by lia),show sa+k+(na-k-1)=sa+na-1 by lia]
  exact el
 have low:∀y∈(arr.extract (sa+k) (sa+na)).toList,lt y (arr[sa+na]'(by lia))=false:=fun y hy=>by
  obtain⟨j,j1,j2,ej⟩:=fW hy;exact C.asym _ _ pk (hp _ (aQq ej)) (kh (j-sa) y (by lia) (by lia) (by rw[show sa+(j-sa)=j by lia];exact ej))
 have high:∀x∈(arr.extract (sa+na) (sa+na+l)).toList,lt (arr[sa+na-1]'(by lia)) x=false:=fun x hx=>by
  obtain⟨j,j1,j2,ej⟩:=fW hx;exact C.asym _ _ (hp _ (aQq ej)) pl (ll (j-(sa+na)) x (by lia) (by rw[show sa+na+(j-(sa+na))=j by lia];exact ej))
 have done:∀M g,JK lt (arr.extract (sa+k) (sa+na)) (arr.extract (sa+na) (sa+na+l)) M ->
   Q true (SortSt.mk' κ' (M.toList.zipIdx.foldl (fun a x=>a.setIfInBounds (sa+k+x.snd) x.fst) arr) ((pend.setIfInBounds i (sa,na+nb,pa)).eraseIdxIfInBounds (i+1)) g none):=fun M g mg=>by
  have lM:M.toList.length=(na-k)+l:=by
   have:=mg.pm.length_eq;simp only[lAq,VD,XT]at this ⊢;lia
  have wb:=wG (sa+k) M.toList 0 arr (by lia)
  obtain⟨b1,s1⟩:=FF C hp hz k1 l1 d3 f3 ek el kl lh d2 f2 mg wb;exact fin _ g b1 s1
 by_cases c3:na-k<=l
 .rw [if_pos c3];refine wpS_bind (Af (κ:=κ') (a:=arr.extract (sa+k) (sa+na)) (b:=arr.extract (sa+na) (sa+na+l)) C hx hy rfl sx sy (by rw[zx];lia) (by rw[zy];lia) (fun x ex y hy=>?_) (fun j hj x hx y hy=>?_) fun M g mg=>?_)
  .rw [g0']at ex;cases ex;exact low y hy
  .have hj':j=na-k-1:=by lia
   subst hj';have:y=arr[sa+na-1]'(by lia):=by
    obtain⟨t,t1,t2⟩:=mJ hy;rw[zx]at t1;have t0:t=0:=by lia
    subst t0;rw[ZL,gl']at t2;exact(V2.inj t2).symm
   rw[this];exact high x hx
  .refine wpS_bind (wpS_modify ?_);refine wpS_bind (wpS_get ?_);exact wpS_pure (done M g mg)
 .rw [if_neg c3];refine wpS_bind (Al (κ:=κ') (a:=arr.extract (sa+k) (sa+na)) (b:=arr.extract (sa+na) (sa+na+l)) C hx hy rfl sx sy (by rw[zx];lia) (by rw[zy];lia) (fun x hx y hy=>?_) (fun x ex y hy=>?_) fun M g mg=>?_)
  .have:x=arr[sa+na]'(by lia):=by
    obtain⟨t,t1,t2⟩:=nh hx;have t0:t=0:=by lia
    subst t0;rw[WT,g0']at t2;exact(V2.inj t2).symm
   rw[this];exact low y hy
  .rw [zx,gl']at ex;cases ex;exact high y hy
  .refine wpS_bind (wpS_modify ?_);refine wpS_bind (wpS_get ?_);exact wpS_pure (done M g mg)
end
section
variable {prog:Program}{w:World}{A:Around}{E:Value->Shared->Prop}{s:Shared}{κ:SortKind}{P:Keyed->Prop}{lt:Keyed->Keyed->Bool}
noncomputable abbrev lB(κ:SortKind) (xs:Array Keyed) (p:Array (Nat×Nat×Nat)) (g:Nat):SortSt:=SortSt.mk' κ xs p g none
theorem uA{xs:Array Keyed}{p:Array (Nat×Nat×Nat)}{lo n:Nat}(h:eW lt xs 0 p.toList lo) (hn:0<n) (hs:oy lt xs lo (lo+n)):eW lt xs 0 (p.push (lo,n,0)).toList (lo+n):=by
 rw[Xv];exact gH.mpr ⟨lo,h,rfl,hn,hs,rfl⟩
theorem vN(p:Array (Nat×Nat×Nat)) (i pw:Nat):(p.modify i fun x=>(x.fst,x.2.fst,pw)).toList.map (fun p=>(p.1,p.2.1))=p.toList.map (fun p=>(p.1,p.2.1)):=by
 apply Yt;intro k;rw[gMq,gMq,VR,VR,Array.getElem?_modify];split
 .cases p[k]? <;> rfl
 .rfl
theorem yS(C:nS prog w A s κ P lt) {arr:Array Keyed}{g:Nat}{Q:Unit->SortSt->Prop}(hp:∀x,x∈arr->P x) (h2:2<=arr.size)
    (h:∀xs p g',xs.Perm arr->oy lt xs 0 arr.size->Q () (lB κ xs p g')):wpS (model prog w) A E s sortRuns' Q (lB κ arr #[] g):=by
  rw[sortRuns'_eq];refine wpS_bind (wpS_get ?_);dsimp only;have e0:arrOf (lB κ arr #[] g)=arr:=rfl;rw[e0];generalize minRun' arr.size arr.size 0=mr;refine wpS_bind (wpS_mono (wpS_forRange
    (I:=fun i c st'=>∃lo xs p g',c=(none,lo)/\st'=lB κ xs p g'/\xs.Perm arr/\lo<=arr.size/\eW lt xs 0 p.toList lo/\i<=lo)
    (Q:=fun c st'=>∃xs p g',c=(none,arr.size)/\st'=lB κ xs p g'/\xs.Perm arr/\eW lt xs 0 p.toList arr.size)
    ?step ?fin ⟨0,arr,#[],g,rfl,rfl,ZC.refl _,Wf _,rfl,Vu _⟩) ?post)
  case fin =>
    rintro c st' ⟨lo,xs,p,g',rfl,rfl,q1,q2,q3,q4⟩;have e:lo=arr.size:=by lia
    subst e;exact⟨xs,p,g',rfl,rfl,q1,q3⟩
  case step =>
    rintro i c st' _ hi ⟨lo,xs,p,g',rfl,rfl,q1,q2,q3,q4⟩;dsimp only;have hpx:∀x,x∈xs->P x:=fun x hx=>hp x (q1.mem_iff.mp hx)
    have hzx:xs.size=arr.size:=q1.size_eq
    by_cases c1:lo ≥ arr.size
    . rw[if_pos c1]
      have e:lo=arr.size:=by lia
      subst e;exact wpS_pure ⟨xs,p,g',rfl,rfl,q1,q3⟩
    rw[if_neg c1];refine wpS_bind (yR (st:=lB κ xs p g') C hpx rfl (by lia) (by show lo+(arr.size-lo)<=xs.size;lia) fun n ys n1 n2 b1 s1=>?_)
    dsimp only;have hb:mz xs ys lo (lo+n):=b1;show wpS _ _ _ _ _ _ (lB κ ys p g')
    by_cases c2:n<mr
    all_goals
      first
        | (rw[if_pos c2]
           refine wpS_bind (kA ?_);refine wpS_bind (Ce (st:=lB κ ys p g') (n:=min (arr.size-lo) mr) C (hb.mem hpx) rfl n1 (by lia) (by show lo+min (arr.size-lo) mr<=ys.size;have:=hb.size;lia) s1 fun zs b2 s2=>?_)
           rw[if_neg (by decide)]
           have hb2:mz xs zs lo (lo+min (arr.size-lo) mr):=(hb.mono (by lia)).trans b2
           have nn:1<=min (arr.size-lo) mr:=by lia
           have nl:lo+min (arr.size-lo) mr<=arr.size:=by lia
           show wpS _ _ _ _ _ _ (lB κ zs p g')
           clear b1 s1 hb b2
           generalize min (arr.size-lo) mr=nN at hb2 nn nl s2 ⊢)
        | (rw[if_neg c2]
           have hb2:=hb;have s2:=s1;have nn:=n1;have nl:lo+n<=arr.size:=by lia
           clear b1 s1 hb
           generalize hnN:n=nN at hb2 nn nl s2 ⊢;generalize hzs:ys=zs at hb2 s2 ⊢)
      have hpz:=hb2.mem hpx;have hzz:=hb2.size;have hcz:eW lt zs 0 p.toList lo:=jP (fun k _ k2=>hb2.out k (.inl k2)) q3
      have pz:zs.Perm arr:=hb2.pm.trans q1;refine wpS_bind (wpS_get ?_);have ep:pendingOf (lB κ zs p g')=p:=rfl;rw[ep];cases eb:p.back? with
      |none =>
        dsimp only;refine wpS_bind (wpS_modify (wpS_pure ?_));exact⟨lo+nN,zs,p.push (lo,nN,0),g',rfl,rfl,pz,nl,uA hcz nn s2,by lia⟩
      |some t =>
        obtain⟨s1',n1',pw0⟩:=t;dsimp only;refine wpS_bind (wpS_mono (wpS_forRange
          (I:=fun i c st'=>∃ys q g2,c=(none,())/\st'=lB κ ys q g2/\mz zs ys 0 lo/\eW lt ys 0 q.toList lo)
          (Q:=fun c st'=>∃ys q g2,c=(none,())/\st'=lB κ ys q g2/\mz zs ys 0 lo/\eW lt ys 0 q.toList lo)
          ?step1 (fun c st' hh=>hh) ⟨zs,p,g',rfl,rfl,mz.refl _ _ _,hcz⟩) ?post1)
        case step1 =>
          rintro j c st' _ hj ⟨ys2,q,g2,rfl,rfl,b3,ch3⟩;refine wpS_bind (wpS_get ?_);have eq:pendingOf (lB κ ys2 q g2)=q:=rfl;rw[eq]
          by_cases d1:q.size>1
          . rw[if_pos d1]
            have eo:q[q.size-2]?=some (q[q.size-2]'(by lia)):=Vv (by lia)
            rw[eo];generalize q[q.size-2]'(by lia)=o
            obtain⟨o1,o2,older⟩:=o;dsimp only;split
            . exact wpS_pure ⟨ys2,q,g2,rfl,rfl,b3,ch3⟩
            . refine wpS_bind (si (st:=lB κ ys2 q g2) C (b3.mem hpz) rfl rfl (by show lo<=ys2.size;have:=b3.size;lia) ch3 (by show q.size-2+1<q.size;lia) fun xs3 p3 g3 b4 _ ch4=>?_)
              rw[if_neg (by decide)]
              exact wpS_pure ⟨xs3,p3,g3,rfl,rfl,b3.trans b4,ch4⟩
          . rw[if_neg d1]
            exact wpS_pure ⟨ys2,q,g2,rfl,rfl,b3,ch3⟩
        case post1 =>
          rintro c st' ⟨ys2,q,g2,rfl,rfl,b3,ch3⟩;dsimp only;refine wpS_bind (wpS_modify (wpS_bind (wpS_modify (wpS_pure ?_))));have s3:oy lt ys2 lo (lo+nN):=fun a b x y a1 a2 a3 ex ey=>s2 a b x y a1 a2 a3 (by rw[←b3.out a (.inr a1)];exact ex) (by rw[←b3.out b (.inr (by lia))];exact ey)
          exact⟨lo+nN,ys2,_,g2,rfl,rfl,b3.pm.trans pz,nl,uA (qk (vN q _ _) ch3) nn s3,by lia⟩
  case post =>
    rintro c st' ⟨xs,p,g',rfl,rfl,q1,q3⟩;dsimp only;refine wpS_bind (wpS_mono (wpS_forRange
      (I:=fun i c st'=>∃ys q g2,c=(none,())/\st'=lB κ ys q g2/\ys.Perm arr/\eW lt ys 0 q.toList arr.size/\q.size+i<=arr.size)
      (Q:=fun c st'=>∃ys q g2,c=(none,())/\st'=lB κ ys q g2/\ys.Perm arr/\eW lt ys 0 q.toList arr.size/\q.size<=1)
      ?step2 ?fin2 ⟨xs,p,g',rfl,rfl,q1,q3,by have:=mF q3;rw[VD]at this;lia⟩) ?post2)
    case fin2 =>
      rintro c st' ⟨ys,q,g2,rfl,rfl,r1,r2,r3⟩;exact⟨ys,q,g2,rfl,rfl,r1,r2,by lia⟩
    case step2 =>
      rintro j c st' _ hj ⟨ys,q,g2,rfl,rfl,r1,r2,r3⟩;refine wpS_bind (wpS_get ?_);have eq:pendingOf (lB κ ys q g2)=q:=rfl;rw[eq]
      by_cases d1:q.size<=1
      . rw[if_pos d1]
        exact wpS_pure ⟨ys,q,g2,rfl,rfl,r1,r2,d1⟩
      rw[if_neg d1];have hi':∀(b:Prop) [Decidable b],(if b then q.size-2-1 else q.size-2)+1<q.size:=fun b _=>by split <;> lia
      refine wpS_bind (si (st:=lB κ ys q g2) C (fun x hx=>hp x (r1.mem_iff.mp hx)) rfl rfl (by show arr.size<=ys.size;have:=r1.size_eq;lia) r2 (hi' _) fun xs3 p3 g3 b4 ns ch4=>?_)
      rw[if_neg (by decide)]
      have ns':p3.size+1=q.size:=ns;exact wpS_pure ⟨xs3,p3,g3,rfl,rfl,b4.pm.trans r1,ch4,by lia⟩
    case post2 =>
      rintro c st' ⟨ys,q,g2,rfl,rfl,r1,r2,r3⟩;refine wpS_pure (h ys q g2 r1 ?_);rw[←VD]at r3;cases eq:q.toList with
      |nil =>
        rw[eq]at r2;have r2':0=arr.size:=r2;lia
      |cons a r =>
        rw[eq]at r2 r3;have er:r=[]:=by
          rw[lCq]at r3;exact Wo.mp (by lia)
        subst er;obtain⟨_,_,s3,e3⟩:=r2;have e3':0+a.2.1=arr.size:=e3;rw[e3']at s3;exact s3
end
end MrS
namespace Xe
open PySem
section
variable {M:Model}{A:Around}{E:Value->Shared->Prop}{s:Shared}
structure xf (fs:List Addr) (e:Addr) (oe:Obj) (T:Addr) (h h':Heap):Prop where
 keep:∀b o,b≠e->b∉fs->h.get? b=some o->h'.get? b=some o
 slot:∀b o,b≠e->h.get? b=some o->∃sl,h'.get? b=some { o with slots:=sl }
 exc:h'.get? e=some (oe.mapFields (·.setIfInBounds 1 (.ref T)))
 fresh:h.get? T=none
 ent:∃oT ts,h'.get? T=some oT/\oT.data = .fields ts/\ts[3]?=some .none
theorem wO{base:Heap}{env:Env}{outer:List Env}{L e:Addr}{oe:Obj}{vs:Array Value}{head:Value}{hadNext:Bool}{Q:Unit->Shared->Prop}
  (hfr:A.frames=some (env::outer)) (hl:s.heap.FunFrames base (env::outer)) (hf:env.frame=some L)
  (he:s.heap.get? e=some oe) (hd:oe.data = .fields vs) (hsz:1<vs.size)
  (h:∀h' T,xf ((env::outer).filterMap (·.frame)) e oe T s.heap h'->Q () { s with heap:=h' }) :
  wpAny M A (do let a ←frameOf env;let pl ←entryPlaceOf L hadNext;let b ←EntryCells.newEntry head a .none (rawInt L) .none pl;setField (.ref e) 1 b) (fun _ s'=>wpAny M A (setFlight (.ref e) none) Q E s') E s:=by
 have hene:e∉(env::outer).filterMap (·.frame):=fun hm=>by
  obtain⟨_,o,ho,hnf⟩:=hl.mem hm;rw[he]at ho;injection ho with ho;subst ho;exact hnf vs hd
 refine wpAny_bind (wpAny_frameOf_fun hfr hl hf fun h₁ hs₁=>?_)
 refine wpAny_bind (wpAny_entryPlaceOf fun pl hpl=>?_)
 unfold EntryCells.newEntry newFields;refine wpAny_bind (wpAny_newObj_type ?_ (hpl.sizeOk5 _ _ _ _ _));have he₁:h₁.get? e=some oe:=(hs₁.2.1 e hene).trans he;have he₂:=Vt (h:=h₁) { cls:=.type "traceback", dict:=none,data:=.fields ([head,.ref L,.none,rawInt L,.none]++(if pl.isEmpty then VM 6 WV else pl)).toArray } he₁
 refine wpAny_setField he₂ hd hsz ?_;have hTe:h₁.objs.size≠e:=XX (Vy he₁);have hd₃:=Obj.data_mapFields hd (·.setIfInBounds 1 (Vw h₁.objs.size));have he₃:=W5 (Obj.mapFields (·.setIfInBounds 1 (Vw h₁.objs.size))) he₂ (Obj.isFreed_of_fields hd₃);have hT₃:=(Wl (h₁.push { cls:=.type "traceback", dict:=none,data:=.fields ([head,.ref L,.none,rawInt L,.none]++(if pl.isEmpty then VM 6 WV else pl)).toArray })
  (Obj.mapFields (·.setIfInBounds 1 (Vw h₁.objs.size))) (Ne.symm hTe)).trans (Wa h₁ rfl)
 unfold setFlight;refine wpAny_bind (wpAny_field he₃ hd₃ (x:=.ref h₁.objs.size) (by simp[hsz]) ?_)
 rw[if_pos (show (Vw h₁.objs.size != WV)=true from by simp)]
 refine wpAny_setField hT₃ rfl (by simp only[VE,lAq,lCq,XQ] <;> lia) (h _ h₁.objs.size ?_)
 have keep:∀b o,b≠e->h₁.get? b=some o ->
   (((h₁.push { cls:=.type "traceback", dict:=none,data:=.fields ([head,.ref L,.none,rawInt L,.none]++(if pl.isEmpty then VM 6 WV else pl)).toArray }).update e (Obj.mapFields (·.setIfInBounds 1 (Vw h₁.objs.size)))).update h₁.objs.size
    (Obj.mapFields (·.setIfInBounds 3 ((none:Option Addr).elim WV fun f=>rawInt f)))).get? b=some o:=fun b o hbe hb=>by
  have hbT:h₁.objs.size≠b:=XX (Vy hb);rw[Wl _ _ hbT,Wl _ _ (Ne.symm hbe)];exact Vt _ hb
 refine⟨fun b o hb hbf ho=>keep b o hb ((hs₁.2.1 b hbf).trans ho),fun b o hb ho=>?_,?_,?_,?_⟩
 .obtain ⟨sl,e1⟩:=hs₁.2.2 b o ho;exact⟨sl,keep b _ hb e1⟩
 .rw [Wl _ _ hTe];exact he₃
 .exact WK (by rw[hs₁.1];exact Vu _)
 .exact ⟨_,_,W5 _ hT₃ (Obj.isFreed_of_fields (Obj.data_mapFields rfl _)),Obj.data_mapFields rfl _,by first|(simp;done)|(rcases hpl with rfl|⟨_,_,_,_,_,_,_,rfl⟩ <;> simp)⟩
def wy(h:Heap) (vs:Array Value):Prop:=vs[1]?=some .none∨∃T0 o0 ts,vs[1]?=some (.ref T0)/\h.get? T0=some o0/\o0.data = .fields ts/\ts[3]?=some .none
theorem RY{base:Heap}{env:Env}{outer:List Env}{L e:Addr}{oe:Obj}{vs:Array Value}{Q:Unit->Shared->Prop}
  (hfr:A.frames=some (env::outer)) (hl:s.heap.FunFrames base (env::outer)) (hf:env.frame=some L)
  (he:s.heap.get? e=some oe) (hd:oe.data = .fields vs) (hq:wy s.heap vs)
  (h:∀h' T,xf ((env::outer).filterMap (·.frame)) e oe T s.heap h'->Q () { s with heap:=h' }) :
  wpAny M A (noteFrame (.ref e) env) (fun _ s'=>wpAny M A (setFlight (.ref e) none) Q E s') E s:=by
 unfold noteFrame;simp only[hf];rcases hq with h1|⟨T0,o0,ts,h1,hT,hdT,h3⟩
 .refine wpAny_bind (wpAny_field he hd h1 ?_);rw[if_neg (by decide)]
  exact wO hfr hl hf he hd (VQ.mp h1).1 h
 .refine wpAny_bind (wpAny_field he hd h1 ?_);rw[if_pos (show (Vw T0 != WV)=true from by simp)]
  refine wpAny_bind (wpAny_field hT hdT h3 ?_);rw[if_neg (show ¬ ((WV == rawInt L)=true) from by simp[rawInt])]
  refine wpAny_bind (wpAny_setField hT hdT (VQ.mp h3).1 ?_);rw[Yu s.heap T0 o0 ts 3 .none hT hdT h3];exact wO hfr hl hf he hd (VQ.mp h1).1 h
theorem RK{base:Heap}{env:Env}{outer:List Env}{L e:Addr}{oe:Obj}{vs:Array Value}{Q:Unit->Shared->Prop}
  (hfr:A.frames=some (env::outer)) (hl:s.heap.FunFrames base (env::outer)) (hf:env.frame=some L)
  (he:s.heap.get? e=some oe) (hd:oe.data = .fields vs) (hq:wy s.heap vs)
  (h:∀h' T,xf ((env::outer).filterMap (·.frame)) e oe T s.heap h'->Q () { s with heap:=h' }) :
  wpAny M A (leaving env (.ref e)) Q E s:=by
 unfold leaving;exact wpAny_bind (RY hfr hl hf he hd hq h)
end
noncomputable abbrev jD:List Value:=[.type "ValueError", .type "Exception", .type "BaseException", .type "object"]
abbrev mG(C t:Addr) (dd:Option Addr):Obj:={ cls:=.ref C,dict:=dd,data:=.fields #[.ref t,.none,.none,.none,.bool false,.none] }
abbrev Lk{α:Type}(M:Model) (h:Heap) (x:Sem α) (r:α):Prop :=
 ∀(A:Around) (Q:α->Shared->Prop) (E:Value->Shared->Prop) (s:Shared),(∀b o,h.get? b=some o->s.heap.get? b=some o)->Q r s->wpAny M A x Q E s
section
variable {M:Model}{A:Around}{E:Value->Shared->Prop}{env:Env}
variable {nm q:Str}{C N:Addr}{bs bm:List Value}{hdct:Bool}{sn:List Str}{sub:List Value}{ab:Bool}{col:Option Bool}{dd:Option Addr}{k0 k1 k2 k3 k5:Option Value}{newId:String}
theorem B3{s:Shared}{x:Sem Value}{Q:Flow->Shared->Prop}(hbase:bm.contains (.type "BaseException")=true) (hh:A.handled=none)
  (h:wpAny M A x (fun v s₁=>∃e t dx,v = .ref e/\s₁.heap.get? C=some (excClassObj nm q C N bs bm hdct sn sub ab col dd k0 k1 k2 k3 k5 newId) /\
   s₁.heap.get? e=some (mG C t dx)/\E (.ref e) s₁) E s) :
  wpAny M A (raiseStmt env (some x) none) Q E s:=by
 have hcB:(Vw C::bm).contains (.type "BaseException")=true:=by rw[We,hbase,Xh]
 unfold raiseStmt;refine wpAny_bind (wpAny_mono h (fun v s₁ h₁=>?_) fun _ _ x=>x)
 obtain⟨e,t,dx,rfl,hC,he,hE⟩:=h₁;obtain⟨hp,g,d,tk,os⟩:=s₁
 repeat (first|with_reducible refine wpAny_loadPart_at he ?_|with_reducible refine wpAny_loadPart_at hC ?_|(with_reducible refine wpAny_isSubtype_exc hC ?_;rw[hcB])|wp_step)
 exact wpAny_raiseNew_none hh hE
end
section
variable {prog:Program}{w:World}{A:Around}{E:Value->Shared->Prop}{h:Heap}{g:Array GenState}{d:Drawn}{t:Nat}{os:OsState}
variable {nm q:Str}{C N:Addr}{bs bm:List Value}{hdct:Bool}{sn:List Str}{sub:List Value}{ab:Bool}{col:Option Bool}{dd:Option Addr}{k0 k1 k2 k3 k5:Option Value}
theorem uD(T:OwnTail h jD bm) {rest:List Value}{fI:Addr}{Q:Fin->Shared->Prop}
  (hC:h.get? C=some (excClassObj nm q C N bs bm hdct sn sub ab col dd k0 k1 k2 k3 k5 "ValueError.__new__"))
  (hi:Lk (model prog w) h (typeLookup (.ref C) "__init__") (some (.ref fI))) (hb:∀self,Lk (model prog w) h (bindSpecial (.ref fI) self) (.ref fI,[self]))
  (hq:∀h' e,Yl h h' e (.ref C) rest->h.objs.size<=e ->
   wpAny (model prog w) A (call (.ref fI) (.ref e::rest)) (fun r s'=>r = .none/\Q (.done (.ret (.ref e))) s') E ⟨h',g,d,t,os⟩) (hrest:rest.length<=sizeLine) :
  wpAny (model prog w) A (Builtin.«type.__call__» ⟨.ref C::rest,[]⟩) Q E ⟨h,g,d,t,os⟩:=by
 have F:=XE
 repeat (first|with_reducible refine wpAny_loadPart_at hC ?_|with_reducible refine wpAny_madeBy_exc hC ?_|wp_step)
 refine codeAny_call_builtin_code (Code.quiet_builtin _ F.quiet) (wpAny_check_new_subT F T hC ?_);refine codeAny_exc_new_subT F T hC ?_ hrest;show wpAny _ _ _ _ _ _;have hC₁:=Vt { cls:=.ref C,data:=.fields #[.ref h.objs.size,.none,.none,.none,.bool false,.none] }
  (Vt { cls:=.type "tuple", data:=.seq rest.toArray } hC)
 have hget:((h.push { cls:=.type "tuple", data:=.seq rest.toArray }).push
   { cls:=.ref C,data:=.fields #[.ref h.objs.size,.none,.none,.none,.bool false,.none] }).get? (h.objs.size+1)=some
   { cls:=.ref C,data:=.fields #[.ref h.objs.size,.none,.none,.none,.bool false,.none] }:=by heap_get
 have hcC:(Vw C::bm).contains (.ref C)=true:=by simp
 have kk:∀b o,h.get? b=some o->((h.push { cls:=.type "tuple", data:=.seq rest.toArray }).push { cls:=.ref C,data:=.fields #[.ref h.objs.size,.none,.none,.none,.bool false,.none] }).get? b=some o:=fun b o e=>Vt _ (Vt _ e)
 have T₁:=T.keeps (h':=(h.push { cls:=.type "tuple", data:=.seq rest.toArray }).push { cls:=.ref C,data:=.fields #[.ref h.objs.size,.none,.none,.none,.bool false,.none] })
  fun b o e=>Vt _ (Vt _ e)
 unfold isInstance
 repeat (first|with_reducible refine wpAny_loadPart_at hget ?_|(with_reducible refine wpAny_isSubtype_exc hC₁ ?_;rw[hcC])|wp_step)
 show wpAny _ _ (typeLookup (.ref C) _) _ _ _;refine hi _ _ _ _ kk ?_;refine wpAny_holding (wpAny_bind (hb _ _ _ _ _ kk ?_));refine(wpAny_bind (wpAny_mono (hq _ (h.objs.size+1) ⟨fun b o hb=>Vt _ (Vt _ hb),WK (WC _),h.objs.size,hget,WK (Vu _),?_⟩ (WC _)) (fun r s' hr=>?_) fun _ _ x=>x))
 .exact Vt _ (Yv rfl rfl)
 .obtain ⟨rfl,hQ⟩:=hr
  wp_walk
  exact hQ
theorem DL(T:OwnTail h jD bm) {rest:List Value}{fI:Addr}{Q:Value->Shared->Prop}
  (hC:h.get? C=some (excClassObj nm q C N bs bm hdct sn sub ab col dd k0 k1 k2 k3 k5 "ValueError.__new__"))
  (hi:Lk (model prog w) h (typeLookup (.ref C) "__init__") (some (.ref fI))) (hb:∀self,Lk (model prog w) h (bindSpecial (.ref fI) self) (.ref fI,[self]))
  (hq:∀h' e,Yl h h' e (.ref C) rest->h.objs.size<=e ->
   wpAny (model prog w) (A.under (.builtin "type.__call__" ⟨.ref C::rest,[]⟩)) (call (.ref fI) (.ref e::rest)) (fun r s'=>r = .none/\Q (.ref e) s') E ⟨h',g,d,t,os⟩) (hrest:rest.length<=sizeLine) :
  wpAny (model prog w) A (call (.ref C) rest) Q E ⟨h,g,d,t,os⟩:=by
 have f1:=tc_lookup;have f2:=tc_bind (.ref C);have hT:(⟨h,g,d,t,os⟩:Shared).TypeIs (.ref C) "type" := ⟨_,hC,rfl⟩;refine wpAny_call (codeAny_of_tree ?_);show wpAny _ _ (callAny (.ref C) _) _ _ _
 repeat (any_goals (first|assumption|with_reducible refine wpAny_loadPart_at hC ?_|wp_step))
 refine⟨rfl,?_⟩;refine codeAny_call_builtin_at (Code.quiet_builtin _ (by decide +kernel)) entry_typeCall (wpAny_check_type_call_sub hC (uD (hrest:=hrest) T hC hi hb fun h' e hm hs=>?_))
 exact hq h' e hm hs
theorem Er(T:OwnTail h jD bm) {e t0:Addr}{rest:List Value}{Q:Value->Shared->Prop}
  (hC:h.get? C=some (excClassObj nm q C N bs bm hdct sn sub ab col dd k0 k1 k2 k3 k5 "ValueError.__new__")) (he:h.get? e=some (mG C t0 none))
  (hq:∀h' t1,(∀b o,b≠e->h.get? b=some o->h'.get? b=some o)->h'.get? e=some (mG C t1 none)->Q .none ⟨h',g,d,t,os⟩) (hrest:rest.length<=sizeLine) :
  wpAny (model prog w) A (call (.builtin "ValueError.__init__") (.ref e::rest)) Q E ⟨h,g,d,t,os⟩:=by
 have F:=XE;refine wpAny_call (codeAny_call_builtin F.init.plain F.initEntry (wpAny_check_init_subT F T hC he rfl ?_))
 wp_walk
 refine hq _ h.objs.size (fun b o hb ho=>?_) ?_
 .rw [Wl _ _ (Ne.symm hb)];exact Vt _ ho
 .rw [W5 _ (Vt _ he) rfl];rfl
theorem zL(T:OwnTail h jD bm) (self:Value):refuseLoop self "__setattr__" bm=pure ():=by
 induction T with
 |base=>exact PySem.F.store_ValueError.passes self
 |own _ _ _ _ ih=>rw[refuseLoop_ref];exact ih
end
end Xe
namespace Xe
open PySem
open Builtin Builtin.ObjectAttr
section
variable {prog:Program}{w:World}{A:Around}{E:Value->Shared->Prop}{h:Heap}{g:Array GenState}{d:Drawn}{t:Nat}{os:OsState}
variable {nm q:Str}{C N:Addr}{bs bm:List Value}{sn:List Str}{sub:List Value}{ab:Bool}{col:Option Bool}{dd:Option Addr}{k0 k1 k2 k3 k5:Option Value}
theorem Ej(T:OwnTail h jD bm) {x:Addr}{o:Obj}{name:Str}{v:Value}{tk:Tok}{Q:Fin->Shared->Prop}
  (hC:h.get? C=some (excClassObj nm q C N bs bm true sn sub ab col dd k0 k1 k2 k3 k5 "ValueError.__new__")) (hx:h.get? x=some o) (hc:o.cls = .ref C) (hnc:∀c,o.data ≠ .cls c) (hdn:o.dict=none)
  (hTL:Lk (model prog w) h (typeLookup (.ref C) name) none)
  (hq:∀h' dx tk',h.objs.size<=dx->dx≠x->h'.get? x=some { cls:=o.cls,dict:=some dx,data:=o.data,slots:=o.slots }->h'.Ns1 dx (fun y=>if y=name then some v else none)->(∀b ob,b≠x->h.get? b=some ob->h'.get? b=some ob) ->
   Q (.done (.ret .none)) ⟨h',g,d,tk',os⟩) :
  wpAny (model prog w) A (Builtin.«object.__setattr__» ⟨[.ref x,.str name tk,v],[]⟩) Q E ⟨h,g,d,t,os⟩:=by
 have hpass:=zL T (.ref x);unfold Builtin.«object.__setattr__»
 repeat (first|rw[refuse_eq]|(rw[refuseLoop_ref,hpass])|(with_reducible refine wpAny_loadPart_at hx ?_;rw[hc])|with_reducible refine wpAny_mroOf_exc hC ?_|with_reducible refine hTL _ _ _ _ (fun _ _ z=>z) ?_|wp_step)
 rw[hdn,if_neg (by simp[typeHasDict])]
 split
 .rename_i hcd;cases hcd
 split
 .rename_i c hcd;exact absurd hcd (hnc c)
 .have hx₁:(h.push { cls:=.type "dict", data:=.dict #[] }).get? x=some o:=Vt _ hx;have hxs:x≠h.objs.size:=VO (Vy hx);refine wpAny_bind (wpAny_alloc' ?_);refine wpAny_bind (wpAny_update' hx₁ ?_);refine wpAny_pure ?_;have hgd:((h.push { cls:=.type "dict", data:=.dict #[] }).update x fun o=>{ cls:=o.cls,dict:=some h.objs.size,data:=o.data,slots:=o.slots }).get? h.objs.size
    = some { cls:=.type "dict", data:=.dict #[] } :=
   (Xg _ _ _ _ hxs.symm).trans (Yv rfl rfl)
  have hnd:((h.push { cls:=.type "dict", data:=.dict #[] }).update x fun o=>{ cls:=o.cls,dict:=some h.objs.size,data:=o.data,slots:=o.slots }).Ns h.objs.size (fun _=>none) :=
   ⟨_,#[],_,hgd,rfl,fun e he=>absurd he (by simp),fun _=>rfl⟩
  show wpAny _ _ (storeInDict h.objs.size (.str name tk) name v) _ _ _;unfold storeInDict newKeyGuard;refine wpAny_bind (wpAny_pure (wpAny_bind (wpAny_nsSet1 (Heap.Ns1.of_empty hnd) fun h' hn' hs=>?_)))
  obtain⟨oD,esD,epD,hoD,hdD,hcD⟩:=hn'.count (Within.cons name v Within.nil);refine wpAny_bind (wpAny_lookBehind hoD (by rw[hdD];exact pastItsLine_dict (Wi hcD (by rw[lCq,XQ,sizeLine_eq];lia))) ?_)
  wp_walk
  refine hq h' h.objs.size _ (Vu _) hxs.symm ?_ hn' (fun b ob hbx hb=>?_)
  .refine (hs.2 x hxs).trans (W5 _ hx₁ ?_);have hfr:=(Heap.get?_some_iff.mp hx).2;obtain⟨oc,od,odt,osl⟩:=o;cases odt <;> first|rfl|exact hfr
  .exact (hs.2 b (VO (Vy hb))).trans ((Xg _ _ _ _ hbx).trans (Vt _ hb))
theorem Gi{M:Model}(T:OwnTail h jD bm) {x:Addr}{o:Obj}{nameV v:Value}{Q:Unit->Shared->Prop}
  (hC:h.get? C=some (excClassObj nm q C N bs bm true sn sub ab col dd k0 k1 k2 k3 k5 "ValueError.__new__")) (hx:h.get? x=some o) (hc:o.cls = .ref C) (hq:Q () ⟨h,g,d,t,os⟩) :
  wpAny M A (checkBuiltinCall "object.__setattr__" ⟨[.ref x,nameV,v],[]⟩) Q E ⟨h,g,d,t,os⟩:=by
 have SF:=Y0;have hob:(Vw C::bm).contains (.type "object")=true:=by rw[We,T.hasType (show jD.contains (.type "object")=true by decide),Xh]
 have ha:=SF.args (.ref x) nameV v;simp only[checkBuiltinCall,SF.kind,SF.split];refine wpAny_bind ?_
 .unfold isInstance
  repeat (first|(with_reducible refine wpAny_loadPart_at hx ?_;rw[hc])|(with_reducible refine wpAny_isSubtype_exc hC ?_;rw[hob])|wp_step)
  exact hq
theorem EF(T:OwnTail h jD bm) {x t0:Addr}{name:Str}{v:Value}{Q:Unit->Shared->Prop}
  (hC:h.get? C=some (excClassObj nm q C N bs bm true sn sub ab col dd k0 k1 k2 k3 k5 "ValueError.__new__")) (hx:h.get? x=some (mG C t0 none))
  (hSA:Lk (model prog w) h (typeLookup (.ref C) "__setattr__") (some (.builtin "object.__setattr__"))) (hTL:Lk (model prog w) h (typeLookup (.ref C) name) none)
  (hq:∀h' dx tk',h.objs.size<=dx->dx≠x->h'.get? x=some (mG C t0 (some dx))->h'.Ns1 dx (fun y=>if y=name then some v else none)->(∀b ob,b≠x->h.get? b=some ob->h'.get? b=some ob) ->
   Q () ⟨h',g,d,tk',os⟩) :
  wpAny (model prog w) A (setAttr (.ref x) name v) Q E ⟨h,g,d,t,os⟩:=by
 have SF:=Y0;have f3:=SF.slot.bind (.ref x);have hob:(Vw C::bm).contains (.type "object")=true:=by rw[We,T.hasType (show jD.contains (.type "object")=true by decide),Xh]
 unfold setAttr callSpecial? specialOf
 repeat (any_goals (first|assumption|with_reducible refine wpAny_loadPart_at hx ?_|with_reducible refine hSA _ _ _ _ (fun _ _ z=>z) ?_|wp_step))
 refine codeAny_call_builtin SF.slot.plain SF.entry (Gi T hC hx rfl (Ej T hC hx rfl (fun c z=>nomatch z) rfl hTL fun h' dx tk' a1 a2 a3 a4 a5=>?_))
 repeat (any_goals (first|assumption|wp_step))
 exact hq h' dx tk' a1 a2 a3 a4 a5
end
section
variable {prog:Program}{w:World}{A:Around}{E:Value->Shared->Prop}{h:Heap}{g:Array GenState}{d:Drawn}{t:Nat}{os:OsState}
variable {nm q:Str}{C N:Addr}{bs bm:List Value}{sn:List Str}{sub:List Value}{ab:Bool}{col:Option Bool}{dd:Option Addr}{k0 k1 k2 k3 k5:Option Value}{x dx:Addr}{o:Obj}{name:Str}{v:Value}{mA:Str->Option Value}
theorem HW{tk:Tok}{Q:Fin->Shared->Prop}(hC:h.get? C=some (excClassObj nm q C N bs bm true sn sub ab col dd k0 k1 k2 k3 k5 "ValueError.__new__")) (hx:h.get? x=some o) (hc:o.cls = .ref C) (hnc:∀c,o.data ≠ .cls c) (hdx:o.dict=some dx)
  (hTL:Lk (model prog w) h (typeLookup (.ref C) name) none) (hns:h.Ns1 dx mA) (hv:mA name=some v) (hq:Q (.done (.ret v)) ⟨h,g,d,t,os⟩) :
  wpAny (model prog w) A (Builtin.«object.__getattribute__» ⟨[.ref x,.str name tk],[]⟩) Q E ⟨h,g,d,t,os⟩:=by
 unfold Builtin.«object.__getattribute__»
 repeat (first|(with_reducible refine wpAny_loadPart_at hx ?_;rw[hc])|with_reducible refine hTL _ _ _ _ (fun _ _ z=>z) ?_|wp_step)
 split
 .rename_i c hcd;exact absurd hcd (hnc c)
 unfold instanceDict
 repeat (first|(with_reducible refine wpAny_loadPart_at hx ?_;rw[hc])|with_reducible refine wpAny_loadPart_at hC ?_|wp_step)
 rw[hdx]
 repeat (first|(with_reducible refine wpAny_nsGet hns.ns ?_;rw[hv])|wp_step)
 exact hq
theorem zJ{M:Model}(T:OwnTail h jD bm) {nameV:Value}{Q:Unit->Shared->Prop}(hC:h.get? C=some (excClassObj nm q C N bs bm true sn sub ab col dd k0 k1 k2 k3 k5 "ValueError.__new__"))
  (hx:h.get? x=some o) (hc:o.cls = .ref C) (hq:Q () ⟨h,g,d,t,os⟩):wpAny M A (checkBuiltinCall "BaseException.__getattribute__" ⟨[.ref x,nameV],[]⟩) Q E ⟨h,g,d,t,os⟩:=by
 have hk:builtinKind "BaseException.__getattribute__" = some .slot:=by decide +kernel
 have hsplit:splitId "BaseException.__getattribute__" = some ("BaseException", "__getattribute__"):=by decide +kernel
 have hcB:(Vw C::bm).contains (.type "BaseException")=true:=by rw[We,T.hasType (show jD.contains (.type "BaseException")=true by decide)];rfl
 have ha:=PySem.F.args_bexc_ga (.ref x) nameV;simp only[checkBuiltinCall,hk,hsplit];refine wpAny_bind ?_
 .unfold isInstance
  repeat (first|(with_reducible refine wpAny_loadPart_at hx ?_;rw[hc])|(with_reducible refine wpAny_isSubtype_exc hC ?_;rw[hcB])|wp_step)
  exact hq
theorem Kc(T:OwnTail h jD bm) {tk:Tok}{fill expr:Bool}{Q:Value->Shared->Prop}(hC:h.get? C=some (excClassObj nm q C N bs bm true sn sub ab col dd k0 k1 k2 k3 k5 "ValueError.__new__")) (hx:h.get? x=some o) (hc:o.cls = .ref C)
  (hnc:∀c,o.data ≠ .cls c) (hdx:o.dict=some dx) (hTL:Lk (model prog w) h (typeLookup (.ref C) name) none) (hGA:Lk (model prog w) h (typeLookup (.ref C) "__getattribute__") (some (.builtin "BaseException.__getattribute__")))
  (hGT:Lk (model prog w) h (typeLookup (.ref C) "__getattr__") none) (hns:h.Ns1 dx mA) (hv:mA name=some v) (hh:handedOut v=pure v) (hq:Q v ⟨h,g,d,t,os⟩) :
  wpAny (model prog w) A (getAttrBy (.ref x) (.str name tk) fill expr) Q E ⟨h,g,d,t,os⟩:=by
 have FB:=Yo;have f3:=FB.ga.bind (.ref x);have hx0:(expr && onTheHeap (WX "BaseException.__getattribute__"))=false:=by cases expr <;> rfl
 have hx2:(WX "BaseException.__getattribute__" == WX "object.__getattribute__")=false:=by decide +kernel
 have hx1:(onTheHeap (Vw C) && WX "BaseException.__getattribute__" == WX "object.__getattribute__")=false:=by rw[hx2];rfl
 repeat (any_goals (first|assumption|(with_reducible refine wpAny_loadPart_at hx ?_;rw[hc])|with_reducible refine hGA _ _ _ _ (fun _ _ z=>z) ?_|with_reducible refine hGT _ _ _ _ (fun _ _ z=>z) ?_|wp_step))
 refine codeAny_call_builtin FB.ga.plain YN (zJ T hC hx hc (HW hC hx hc hnc hdx hTL hns hv ?_))
 repeat (any_goals (first|assumption|rw[hh]|wp_step))
theorem Ed(T:OwnTail h jD bm) {expr:Bool}{Q:Value->Shared->Prop}(hC:h.get? C=some (excClassObj nm q C N bs bm true sn sub ab col dd k0 k1 k2 k3 k5 "ValueError.__new__")) (hx:h.get? x=some o) (hc:o.cls = .ref C)
  (hnc:∀c,o.data ≠ .cls c) (hdx:o.dict=some dx) (hTL:Lk (model prog w) h (typeLookup (.ref C) name) none) (hGA:Lk (model prog w) h (typeLookup (.ref C) "__getattribute__") (some (.builtin "BaseException.__getattribute__")))
  (hGT:Lk (model prog w) h (typeLookup (.ref C) "__getattr__") none) (hns:h.Ns1 dx mA) (hv:mA name=some v) (hh:handedOut v=pure v) (hq:Q v ⟨h,g,d,t+1,os⟩) :
  wpAny (model prog w) A (getAttr (.ref x) name expr) Q E ⟨h,g,d,t,os⟩:=by
 unfold getAttr
 repeat (any_goals (first|assumption|with_reducible apply Kc T hC hx hc hnc hdx hTL hGA hGT hns hv hh|wp_step))
theorem Ff(T:OwnTail h jD bm) {R:Result->Shared->Prop}(hC:h.get? C=some (excClassObj nm q C N bs bm true sn sub ab col dd k0 k1 k2 k3 k5 "ValueError.__new__")) (hx:h.get? x=some o) (hc:o.cls = .ref C)
  (hq:R (.ok (.ret (.ref C))) ⟨h,g,d,t,os⟩) :
  codeAny (model prog w) A (.call (.builtin "getset_descriptor.__get__") ⟨[.builtin "object.__class__", .ref x,.ref C],[]⟩) R ⟨h,g,d,t,os⟩:=by
 have hT5:(⟨h,g,d,t,os⟩:Shared).TypeIs (.builtin "object.__class__") "getset_descriptor" := XA;have hcB:(Vw C::bm).contains (.type (".".intercalate ("object.__class__".cutAt '.').dropLast))=true:=by
  rw[PySem.F.owner_object_class,We,T.hasType (show jD.contains (.type "object")=true by decide)];rfl
 refine codeAny_call_builtin Yk.plain PySem.F.entry_gs_get (Yk.check _ _ _ _ _ _ _ _ hT5 (PySem.F.args_gs_get _ _ _) ?_)
 repeat (any_goals (first|assumption|(with_reducible refine wpAny_loadPart_at hx ?_;rw[hc])|(with_reducible refine wpAny_isSubtype_exc hC ?_;rw[hcB])|wp_step))
 refine⟨Code.quiet_builtin _ (by decide +kernel),codeAny_builtin PySem.F.entry_object_class ?_⟩
 repeat (any_goals (first|assumption|(with_reducible refine wpAny_loadPart_at hx ?_;rw[hc])|wp_step))
theorem Eg(T:OwnTail h jD bm) {tk:Tok}{Q:Fin->Shared->Prop}(hC:h.get? C=some (excClassObj nm q C N bs bm true sn sub ab col dd k0 k1 k2 k3 k5 "ValueError.__new__")) (hx:h.get? x=some o) (hc:o.cls = .ref C)
  (hTL:Lk (model prog w) h (typeLookup (.ref C) "__class__") (some (.builtin "object.__class__"))) (hq:Q (.done (.ret (.ref C))) ⟨h,g,d,t,os⟩) :
  wpAny (model prog w) A (Builtin.«object.__getattribute__» ⟨[.ref x,.str "__class__" tk],[]⟩) Q E ⟨h,g,d,t,os⟩:=by
 have hT5:(⟨h,g,d,t,os⟩:Shared).TypeIs (.builtin "object.__class__") "getset_descriptor" := XA;have f5:=XA;have f6:=Yk.lookup;have f7:=PySem.F.slot_gs_set.lookup
 repeat (any_goals (first|assumption|(with_reducible refine wpAny_loadPart_at hx ?_;rw[hc])|with_reducible refine hTL _ _ _ _ (fun _ _ z=>z) ?_|wp_step))
 refine Ff T hC hx hc ?_
 repeat (any_goals (first|assumption|wp_step))
theorem Jz(T:OwnTail h jD bm) {tk:Tok}{Q:Value->Shared->Prop}(hC:h.get? C=some (excClassObj nm q C N bs bm true sn sub ab col dd k0 k1 k2 k3 k5 "ValueError.__new__")) (hx:h.get? x=some o) (hc:o.cls = .ref C)
  (hTL:Lk (model prog w) h (typeLookup (.ref C) "__class__") (some (.builtin "object.__class__"))) (hGA:Lk (model prog w) h (typeLookup (.ref C) "__getattribute__") (some (.builtin "BaseException.__getattribute__")))
  (hGT:Lk (model prog w) h (typeLookup (.ref C) "__getattr__") none) (hq:Q (.ref C) ⟨h,g,d,t,os⟩):wpAny (model prog w) A (getAttrBy (.ref x) (.str "__class__" tk) false) Q E ⟨h,g,d,t,os⟩:=by
 have FB:=Yo;have f3:=FB.ga.bind (.ref x);have hx2:(WX "BaseException.__getattribute__" == WX "object.__getattribute__")=false:=by decide +kernel
 have hx1:(onTheHeap (Vw C) && WX "BaseException.__getattribute__" == WX "object.__getattribute__")=false:=by rw[hx2];rfl
 repeat (any_goals (first|assumption|(with_reducible refine wpAny_loadPart_at hx ?_;rw[hc])|with_reducible refine hGA _ _ _ _ (fun _ _ z=>z) ?_|with_reducible refine hGT _ _ _ _ (fun _ _ z=>z) ?_|wp_step))
 refine codeAny_call_builtin FB.ga.plain YN (zJ T hC hx hc (Eg T hC hx hc hTL ?_))
 repeat (any_goals (first|assumption|wp_step))
theorem BB(T:OwnTail h jD bm) {Q:Option Value->Shared->Prop}(hC:h.get? C=some (excClassObj nm q C N bs bm true sn sub ab col dd k0 k1 k2 k3 k5 "ValueError.__new__")) (hx:h.get? x=some o) (hc:o.cls = .ref C)
  (hTL:Lk (model prog w) h (typeLookup (.ref C) "__class__") (some (.builtin "object.__class__"))) (hGA:Lk (model prog w) h (typeLookup (.ref C) "__getattribute__") (some (.builtin "BaseException.__getattribute__")))
  (hGT:Lk (model prog w) h (typeLookup (.ref C) "__getattr__") none) (hq:Q (some (.ref C)) ⟨h,g,d,t+1,os⟩):wpAny (model prog w) A (getAttr? (.ref x) "__class__") Q E ⟨h,g,d,t,os⟩:=by
 unfold getAttr? getAttrBy?
 repeat (any_goals (first|assumption|with_reducible apply Jz T hC hx hc hTL hGA hGT|wp_step))
end
section
variable {M:Model}{A:Around}{E:Value->Shared->Prop}{h:Heap}{g:Array GenState}{d:Drawn}{t:Nat}{os:OsState}
variable {nm q nm' q':Str}{C N C' N':Addr}{bs bm bs' bm':List Value}{hdct hdct':Bool}{sn sn':List Str}{sub sub':List Value}{ab ab':Bool}{col col':Option Bool}{dd dd':Option Addr}{k0 k1 k2 k3 k5 k0' k1' k2' k3' k5':Option Value}{newId newId':String}
theorem AG{e:Addr}{oe:Obj}{Q:Bool->Shared->Prop}(hC:h.get? C=some (excClassObj nm q C N bs bm hdct sn sub ab col dd k0 k1 k2 k3 k5 newId))
  (hC':h.get? C'=some (excClassObj nm' q' C' N' bs' bm' hdct' sn' sub' ab' col' dd' k0' k1' k2' k3' k5' newId')) (hb:bm'.contains (.type "BaseException")=true)
  (he:h.get? e=some oe) (hcls:oe.cls = .ref C) (hq:Q ((Vw C::bm).contains (.ref C')) ⟨h,g,d,t,os⟩):wpAny M A (excMatches (.ref e) (.ref C')) Q E ⟨h,g,d,t,os⟩:=by
 have hcB:(Vw C'::bm').contains (.type "BaseException")=true:=by rw[We,hb,Xh]
 have f:=tc_notTuple;unfold excMatches;cases hv:(Vw C::bm).contains (.ref C') with
 |true =>
  rw[hv]at hq
  repeat (first|(with_reducible refine wpAny_loadPart_at he ?_;rw[hcls])|with_reducible refine wpAny_loadPart_at hC' ?_|(with_reducible refine wpAny_isSubtype_exc hC' ?_;rw[hcB])|(with_reducible refine wpAny_isSubtype_exc hC ?_;rw[hv])|wp_step)
  exact hq
 |false =>
  rw[hv]at hq
  repeat (first|(with_reducible refine wpAny_loadPart_at he ?_;rw[hcls])|with_reducible refine wpAny_loadPart_at hC' ?_|(with_reducible refine wpAny_isSubtype_exc hC' ?_;rw[hcB])|(with_reducible refine wpAny_isSubtype_exc hC ?_;rw[hv])|wp_step)
  exact hq
end
section
variable {prog:Program}{w:World}{A:Around}{E:Value->Shared->Prop}{s:Shared}{env:Env}{e:Addr}{c0:Value}{t:Expr}{n:Str}{b₀:Stmt}{suite:List Stmt}{pos:Pos}{rest:List ExceptHandler}{Q:Flow->Shared->Prop}
abbrev Mt(M:Model) (e:Addr) (c0:Value) (b:Bool) (s:Shared):Prop:=∀(A:Around) (Q:Bool->Shared->Prop) (E:Value->Shared->Prop),Q b s->wpAny M A (excMatches (.ref e) c0) Q E s
theorem Jg(hm:Mt (model prog w) e c0 true s) (hv:∀Q':Value->Shared->Prop,Q' c0 s->wpAny (model prog w) (A.mark (some (.ref e))) (eval t env) Q' (fun _ _=>False) s)
  (k:wpAny (model prog w) (A.mark (some (.ref e))) (setFlight (.ref e) none) (fun _ s₂=>wpAny (model prog w) (A.mark (some (.ref e))) (storeName env n (.ref e)) (fun _ s₃ =>
   wpAny (model prog w) (A.mark (some (.ref e))) (execs (b₀::suite) env) (fun f s₄=>wpAny (model prog w) A (do bindName env n .none;unbindBehindTheSuite env n pos) (fun _ s₅=>Q f s₅) E s₄) (fun _ _=>False) s₃) (fun _ _=>False) s₂) (fun _ _=>False) s) :
  wpAny (model prog w) A (handleBy (.ref e) env (.ExceptHandler (some t) (some n) (b₀::suite) pos::rest)) Q E s:=by
 refine wpAny_handleBy_cons (codeAny_handlers_test (wpAny_mono (hv _ ?_) (fun c s₁ h₁=>h₁) fun _ _ x=>x.elim)) (by intro q;cases q)
 refine hm _ _ _ (codeAny_handlers_suite_as ?_);exact wpAny_mono k (fun _ s₂ h₂=>wpAny_mono h₂ (fun _ s₃ h₃=>wpAny_mono h₃ (fun _ _ z=>z) fun _ _ z=>z.elim) fun _ _ z=>z.elim) fun _ _ z=>z.elim
theorem RB{n':Option Str}(hm:Mt (model prog w) e c0 false s) (hv:∀Q':Value->Shared->Prop,Q' c0 s->wpAny (model prog w) (A.mark (some (.ref e))) (eval t env) Q' (fun _ _=>False) s)
  (k:wpAny (model prog w) A (handleBy (.ref e) env rest) Q E s):wpAny (model prog w) A (handleBy (.ref e) env (.ExceptHandler (some t) n' (b₀::suite) pos::rest)) Q E s:=by
 refine wpAny_handleBy_cons (codeAny_handlers_test (wpAny_mono (hv _ ?_) (fun c s₁ h₁=>h₁) fun _ _ x=>x.elim)) (by intro q;cases q)
 exact hm _ _ _ k
end
end Xe
namespace Mr
abbrev St:=L2.St
open PySem PySem.Spec PyProof.Rows L2
section
variable {X:Cx}{ae:List (Addr×Obj)}{σ:List (Option V)}{H H':Hp}{s:Shared}{h':Heap}
theorem FW{t':Nat}{fp:List Addr}{T:Addr}{o:HO}(I:Inv X ae σ H s) (k:∀b u,b∉fp->s.heap.get? b=some u->h'.get? b=some u)
  (hf:∀b∈fp,sO X ae H b) (hT:s.heap.objs.size<=T) (new:cx X.prog X.w (bW H T o) h' T o):Inv X ae σ (bW H T o) { s with heap:=h',toks:=t' }:=by
 have hn:H T=none:=I.hok.fresh hT;have nf:∀b u,H b=some u->b∉fp:=fun b u e z=>by rw[(hf b z).1]at e;cases e
 refine I.step (g':=s.gens) (d':=s.drawn) (ch:=fp) (fun b hb=>?_) (fun b u _ _ hc e _=>k b u hc e) (fun b u _ _ hc e _=>⟨u.slots,k b u hc e⟩)
  (fun b u _ e n=>by rw[ax (VO (VN (Vy e) hT))];exact n) (fun b u hc e=>⟨u,k b u hc e⟩)
  (fun b xs e=>by rw[ax (cP e hn)];exact e) (fun b u xs e=>by rw[ax (cP e hn)];exact e) (fun b ps e=>⟨#[],by rw[ax (cP e hn),e];simp⟩) (fun m hm=>?_) (fun b u e=>?_) I.bare
 .obtain ⟨_,f1,_,f3,f4,f5⟩:=hf b hb;exact⟨f3,f1,f4,f5⟩
 .obtain ⟨u,es,ep,ho,r⟩:=hm;exact⟨u,es,ep,k _ u (fun z=>(hf _ z).2.1 rfl) ho,r⟩
 .by_cases hb:b=T
  .subst hb;rw[aL]at e;cases e;exact new
  .rw [ax hb]at e;refine(I.hok b u e).stay (fun c v hc q=>k c v ?_ q) (fun c q=>by rw[ax (cP q hn)];exact q) fun c xs q=>by rw[ax (cP q hn)];exact q
   rcases hc with rfl|hc
   .exact nf _ u e
   .exact nf c _ hc
theorem Mj{t':Nat}{fp:List Addr}(I:Inv X ae σ H s) (k:∀b u,b∉fp->s.heap.get? b=some u->h'.get? b=some u)
  (hf:∀b∈fp,sO X ae H b):Inv X ae σ H { s with heap:=h',toks:=t' }:=by
 have nf:∀b u,H b=some u->b∉fp:=fun b u e z=>by rw[(hf b z).1]at e;cases e
 refine I.step (g':=s.gens) (d':=s.drawn) (ch:=fp) (fun b hb=>?_) (fun b u _ _ hc e _=>k b u hc e) (fun b u _ _ hc e _=>⟨u.slots,k b u hc e⟩)
  (fun _ _ _ _ n=>n) (fun b u hc e=>⟨u,k b u hc e⟩) (fun _ _ e=>e) (fun _ _ _ e=>e) (fun b ps e=>⟨#[],by rw[e];simp⟩) (fun m hm=>?_) (fun b u e=>?_) I.bare
 .obtain ⟨_,f1,_,f3,f4,f5⟩:=hf b hb;exact⟨f3,f1,f4,f5⟩
 .obtain ⟨u,es,ep,ho,r⟩:=hm;exact⟨u,es,ep,k _ u (fun z=>(hf _ z).2.1 rfl) ho,r⟩
 .refine (I.hok b u e).stay (fun c v hc q=>k c v ?_ q) (fun _ q=>q) fun _ _ q=>q
  rcases hc with rfl|hc
  .exact nf _ u e
  .exact nf c _ hc
theorem ye{a b:Addr}{xs:List V}(I:Inv X ae σ H s) (h:dJ X.K H a xs) (f:sO X ae H b):a≠b:=by
 intro e;subst e;obtain⟨f0,_,_,f3,_⟩:=f;rcases h with (h|⟨o,h⟩)|⟨o,its,n,hk,_⟩
 .rw [f0]at h;cases h
 .rw [f0]at h;cases h
 .have hb:=I.mod.kin a o hk;rcases f3 with z|z
  .exact I.ok.noex a o hb z
  .exact absurd (VN (Vy (I.ok.bs a o hb).1) z) (WW _)
end
def RE(K:W.Frag) (a b:Addr):It :=
  ⟨fun i H=>∃xs ys x y,dJ K H a xs/\dJ K H b ys/\xs[i]?=some x/\ys[i]?=some y,
   fun i H v H'=>∃T x y,H T=none/\v = .ref T/\H'=bW H T (.tup [x,y])/\(∀xs,dJ K H a xs->xs[i]?=some x)/\∀ys,dJ K H b ys->ys[i]?=some y,
   fun i H=>∃xs ys,dJ K H a xs/\dJ K H b ys/\(xs.length<=i∨ys.length<=i)⟩
structure Z5 (z TI TO i1 i2:Addr):Prop where
 a:TI≠z
 b:TO≠z
 c:i1≠z
 d:i2≠z
 e:TI≠TO
 f:TI≠i1
 g:TI≠i2
 h:TO≠i1
 i:TO≠i2
 j:i1≠i2
theorem Ro(n:Nat):Z5 (n+4) (n+2) (n+3) n (n+1) where
 a:=fun(q:n+2=n+4)=>by lia
 b:=fun(q:n+3=n+4)=>by lia
 c:=fun(q:n=n+4)=>by lia
 d:=fun(q:n+1=n+4)=>by lia
 e:=fun(q:n+2=n+3)=>by lia
 f:=fun(q:n+2=n)=>by lia
 g:=fun(q:n+2=n+1)=>by lia
 h:=fun(q:n+3=n)=>by lia
 i:=fun(q:n+3=n+1)=>by lia
 j:=fun(q:n=n+1)=>by lia
theorem Ja{P:Program}{w:World}{K:W.Frag}{elts:List Expr}{k:Nat}{pos:Pos}(l1 l2 z TI TO i1 i2:Addr) (d:Z5 z TI TO i1 i2) :
  Fu P w K (.Tuple elts k pos) (RE K l1 l2) [z,TI,TO,i1,i2] z
   (fun i h=>IsZip h z TI TO .none/\IsPair h TI (.ref i1) (.ref i2)/\(∃a b,IsPair h TO a b)/\h.IsListIter i1 l1 i/\h.IsListIter i2 l2 i) where
 mem:=by simp
 obj:=fun i h st b hb=>by
  obtain⟨hz,hTI,⟨a,c,hTO⟩,⟨o1,q1,_,d1⟩,⟨o2,q2,_,d2⟩⟩:=st;simp only[VB,Yy,or_false]at hb;rcases hb with rfl|rfl|rfl|rfl|rfl
  .exact ⟨_,hz,fun v x=>by
    have x':Data.fields _=Data.cell v:=x;cases x'⟩
  .exact ⟨_,hTI,fun v x=>by
    have x':Data.seq _ _=Data.cell v:=x;cases x'⟩
  .exact ⟨_,hTO,fun v x=>by
    have x':Data.seq _ _=Data.cell v:=x;cases x'⟩
  .exact ⟨o1,q1,fun v x=>by rw[d1]at x;cases x⟩
  .exact ⟨o2,q2,fun v x=>by rw[d2]at x;cases x⟩
 keep:=fun i h h' st kp=>by
  obtain⟨hz,hTI,⟨a,c,hTO⟩,h1,h2⟩:=st;exact⟨kp z (by simp) _ hz,kp TI (by simp) _ hTI,⟨a,c,kp TO (by simp) _ hTO⟩,h1.at fun o q=>kp i1 (by simp) o q,h2.at fun o q=>kp i2 (by simp) o q⟩
 item:=by
  intro X hP hw hK hc i ae s σ H E I hf st hg;subst hP hw hK;obtain⟨xs,ys,x,y,hq1,hq2,hx,hy⟩:=hg;obtain⟨its1,rv1,p1,_⟩:=I.list hq1;obtain⟨its2,rv2,p2,_⟩:=I.list hq2;obtain⟨u1,hu1,ru1⟩:=rv1.get hx;obtain⟨u2,hu2,ru2⟩:=rv2.get hy;obtain⟨hz,hTI,⟨a,c,hTO⟩,h1,h2⟩:=st;have n1:∀b∈[z,TI,TO,i1,i2],l1≠b:=fun b hb=>ye I hq1 (hf b hb)
  have n2:∀b∈[z,TI,TO,i1,i2],l2≠b:=fun b hb=>ye I hq2 (hf b hb)
  have D:ZipApart z TI TO i1 i2 l1 l2:=⟨d.a,d.b,d.c,d.d,d.e,d.f,d.g,d.h,d.i,d.j,n1 z (by simp),n1 TO (by simp),n1 i1 (by simp),n1 i2 (by simp),n2 z (by simp),n2 TO (by simp),n2 i1 (by simp),n2 i2 (by simp)⟩
  have hzl:z<s.heap.objs.size:=Vy hz;refine wpAny_pyNext_zip_item D hz hTI hTO h1 h2 p1.isList p2.isList (x:=u1) (y:=u2) (by simpa using hu1) (by simpa using hu2) fun g1 hz1 hTO1 g11 g12 hT1 hsz1 hk1=>⟨_,rfl,?_⟩
  refine wpAny_letOwnedTupleGo_zip hz1 fun g2 hz2 hs2=>?_
  replace hs2:XW z g1 g2:=hs2;have hn:H s.heap.objs.size=none:=I.hok.fresh (Vu _);refine⟨.ref s.heap.objs.size,bW H s.heap.objs.size (.tup [x,y]),?_,rfl,⟨_,x,y,hn,rfl,rfl,fun ws hw=>by rw[I.list_inj hw hq1];exact hx,fun ws hw=>by rw[I.list_inj hw hq2];exact hy⟩,
   ⟨hz2,hs2.extBut _ _ d.a (hk1 _ _ d.a d.e d.f d.g hTI),⟨_,_,hs2.extBut _ _ d.b hTO1⟩,g11.extBut hs2.extBut d.c,g12.extBut hs2.extBut d.d⟩,fun b hb=>?_⟩
  .show L2.Inv X ae σ _ { s with heap:=g2,toks:=s.toks }
   refine FW (s:=s) (fp:=[z,TI,TO,i1,i2]) I (fun b o hb q=>?_) hf (Vu _) ⟨by simp only[lCq,XQ];rw[sizeLine_eq];decide,[u1,u2],.cons ru1 (.cons ru2 .nil),_,hs2.extBut _ _ (XX hzl) hT1,rfl,_,rfl⟩
   have b1:b≠z:=fun e=>hb (by simp[e])
   exact hs2.extBut b o b1 (hk1 b o b1 (fun e=>hb (by simp[e])) (fun e=>hb (by simp[e])) (fun e=>hb (by simp[e])) q)
  .have hb2:b<s.heap.objs.size:=by
    have hb':=hb;simp only[VB,Yy,or_false]at hb';rcases hb' with rfl|rfl|rfl|rfl|rfl
    .exact hzl
    .exact Vy hTI
    .exact Vy hTO
    .obtain ⟨_,q,_⟩:=h1;exact Vy q
    .obtain ⟨_,q,_⟩:=h2;exact Vy q
   rw[ax (VO hb2)];exact(hf b hb).1
 done:=by
  intro X hP hw hK hc i ae s σ H E I hf st hg;subst hP hw hK;obtain⟨xs,ys,hq1,hq2,hx⟩:=hg;obtain⟨its1,rv1,p1,_⟩:=I.list hq1;obtain⟨its2,rv2,p2,_⟩:=I.list hq2;obtain⟨hz,hTI,⟨a,c,hTO⟩,h1,h2⟩:=st;have n1:∀b∈[z,TI,TO,i1,i2],l1≠b:=fun b hb=>ye I hq1 (hf b hb)
  have n2:∀b∈[z,TI,TO,i1,i2],l2≠b:=fun b hb=>ye I hq2 (hf b hb)
  have D:ZipApart z TI TO i1 i2 l1 l2:=⟨d.a,d.b,d.c,d.d,d.e,d.f,d.g,d.h,d.i,d.j,n1 z (by simp),n1 TO (by simp),n1 i1 (by simp),n1 i2 (by simp),n2 z (by simp),n2 TO (by simp),n2 i1 (by simp),n2 i2 (by simp)⟩
  have e1:=rv1.length;have e2:=rv2.length;refine wpAny_pyNext_zip_end (I.ok.hd hc) D hz hTI hTO h1 h2 p1.isList p2.isList ?_ fun g1 eb=>⟨rfl,Mj (t':=s.toks) (fp:=[z,TI,TO,i1,i2]) I (fun b o hb q=>eb b o (fun e=>hb (by simp[e])) (fun e=>hb (by simp[e])) (fun e=>hb (by simp[e])) (fun e=>hb (by simp[e])) q) hf⟩
  rcases hx with hx|hx
  .exact .inl (by simp;lia)
  .exact .inr (by simp;lia)
 self:=fun _ _ _ _ _ st h=>wpAny_pyIter_zip st.1 h
section
variable {X:Cx}{elts:List Expr}{kk:Nat}{tpos:Pos}
def Rr(K:W.Frag) (ta:TA):TI:=fun σ H R=>ta σ H fun vs H1=>∃a b,vs=[.ref a,.ref b]/\(∃xs,dJ K H1 a xs)/\(∃ys,dJ K H1 b ys)/\R (RE K a b) H1
theorem OF{e f:Expr}{ta:TA}{p pos:Pos}(hg:Gl X "zip") (hm:X.mg "zip" = none) (ha:PA X [e,f] ta) (hs:starEach [e,f] X.env=[(false,eval e X.env),(false,eval f X.env)]:=by rfl) (hs2:starEach [f] X.env=[(false,eval f X.env)]:=by rfl) :
  PI X (.Tuple elts kk tpos) (.Call (.Name "zip" p) [e,f] [] pos) (Rr X.K ta):=by
 intro ae s σ H R I h;refine Call_ (uf I hg hm boot_zip (Xy (dB (ha pos ae s σ H _ I h) fun us s1 ⟨vs,H1,I1,r1,q1⟩=>?_) (by rw[hs,hs2]) (by rw[hs2];rfl)))
 obtain⟨a,b,e1,⟨xs,hq1⟩,⟨ys,hq2⟩,q⟩:=q1;subst e1;obtain⟨u,v,rfl,ru,rv⟩:=CT r1;cases ru;cases rv;obtain⟨its1,_,p1,_⟩:=I1.list hq1;obtain⟨its2,_,p2,_⟩:=I1.list hq2;refine call_zip_2 p1.isList p2.isList fun g hz hTI hTO h1 h2 hsz hk=>wpAny_pyIter_zip hz ?_
 refine⟨s1.heap.objs.size+4,[s1.heap.objs.size+4,s1.heap.objs.size+2,s1.heap.objs.size+3,s1.heap.objs.size,s1.heap.objs.size+1],_,_,H1,rfl,I1.kept (t':=s1.toks) hk,
  Ja a b _ _ _ _ _ (Ro s1.heap.objs.size),⟨hz,hTI,⟨_,_,hTO⟩,h1,h2⟩,fun c hc=>?_,q⟩
 have hb2:s1.heap.objs.size<=c:=by
  simp only[VB,Yy,or_false]at hc;rcases hc with rfl|rfl|rfl|rfl|rfl
  .exact X8 _ _
  .exact X8 _ _
  .exact X8 _ _
  .exact Vu _
  .exact X8 _ _
 exact I1.fpOk hb2 (I1.hok.fresh hb2)
end
theorem Kx{K:W.Frag}{a b:Addr}{xs ys:List V}{i1 i2:Nat}{tb:TS}{D:ja}{σ:St}{H:Hp}(Pv:Nat->St->Hp->Prop) (h0:Pv 0 σ H) (hlen:xs.length=ys.length)
  (hl:∀i σ H,i<=xs.length->Pv i σ H->dJ K H a xs/\dJ K H b ys)
  (hs:∀i x y σ H T,xs[i]?=some x->ys[i]?=some y->Pv i σ H->H T=none->tb { D with nx:=Pv (i+1),ct:=Pv (i+1),bk:=D.nx } ((σ.set i1 (some x)).set i2 (some y)) (bW H T (.tup [x,y]))) (hd:∀σ H,Pv xs.length σ H->D.nx σ H) :
  ∃W:Nat->Nat->St->Hp->Prop,(∃m,W 0 m σ H)/\∀i m σ H,W i m σ H ->
   ((RE K a b).stop i H/\D.nx σ H)∨((RE K a b).go i H/\∃N:St->Hp->Prop,(∀σ' H',N σ' H'->∃m',m'<m/\W (i+1) m' σ' H')/\∀x H',(RE K a b).yld i H x H'->J9 K 2 (um (gI i1) (um (gI i2) Lq)) x σ H' fun σ2 H2=>tb { D with nx:=N,ct:=N,bk:=D.nx } σ2 H2):=by
 refine⟨fun i m σ H=>m=xs.length-i/\i<=xs.length/\Pv i σ H,⟨xs.length,by simp,Wf _,h0⟩,?_⟩
 rintro i m σ H ⟨rfl,hi,p⟩;obtain⟨q1,q2⟩:=hl i σ H hi p
 by_cases hlt:i<xs.length
 .refine .inr ⟨⟨xs,ys,xs[i],ys[i],q1,q2,by simp[hlt],by simp[hlen ▸ hlt]⟩,Pv (i+1),fun σ' H' p'=>⟨xs.length-(i+1),by lia,rfl,hlt,p'⟩,fun v H' y=>?_⟩
  obtain⟨T,x,y,hT,rfl,rfl,hx,hy⟩:=y;exact⟨T,_,rfl,vH.of aL,rfl,_,_,rfl,_,_,rfl,rfl,hs i x y σ H T (hx xs q1) (hy ys q2) p hT⟩
 .have e:i=xs.length:=by lia
  subst e;exact .inl ⟨⟨xs,ys,q1,q2,.inl (Vu _)⟩,hd σ H p⟩
section
variable {X:Cx}
theorem mP{ae:List (Addr×Obj)}{σ:St}{H:Hp}{s:Shared}{a:Addr}{ns:List Int}(I:Inv X ae σ H s) (h:dJ X.K H a (ns.map V.int)) :
  ∃vs:List Value,s.heap.IsList a vs.toArray/\IntsAre vs ns/\ns.length<=sizeLine:=by
 obtain⟨its,r,p,z⟩:=I.list h;rw[lMq]at z;exact⟨its,p.isList,oO r,z⟩
theorem wL(hc:X.calm=true):eG X (.builtin "min") (fun xs H Q=>∃(a:Addr) (ns:List Int),xs=[.ref a]/\dJ X.K H a (ns.map V.int)/\0<ns.length/\∀M,M∈ns->(∀x,x∈ns->M<=x)->Q (.int M) H):=by
 intro ae s σ H xs us Q I r h;obtain⟨a,ns,rfl,hS,hne,q⟩:=h;obtain⟨u,rfl,ru⟩:=uz r;cases ru;obtain⟨vs,hl,hi,_⟩:=mP I hS;obtain⟨xs,e⟩:=hi.allInts.items;have hns:ns=xs.toList.map (·.1):=by
  rw[←hi.numsOf,←nums_intItems,←e]
 have hsz:0<xs.size:=by
  have h3:=hne;rw[hns,lMq,VD]at h3;exact h3
 rw[e]at hl;refine min_intList (I.ok.hd hc) hl hsz fun v h' tk hv hk=>?_
 obtain⟨t,rfl⟩:=intItems_at hv;obtain⟨h1,h2⟩:=argBest_lt (numAt xs) (xs.size-1);refine⟨.int _,H,I.kept hk,⟨t,rfl⟩,q _ ?_ fun x hx=>?_⟩
 .rw [hns,numAt_eq];exact PySem.getD_mem (by rw[lMq,VD];lia)
 .rw [hns]at hx;obtain⟨j,hj,rfl⟩:=PySem.mem_getD hx;rw[lMq,VD]at hj;rw[←numAt_eq];exact h2 j (by lia)
def HA(K:W.Frag):V->List V->Hp->VK->Prop:=fun x vs H Q=>∃(a:Addr) (ns:List Int) (k:Int),x = .ref a/\vs=[.int k]/\dJ K H a (ns.map V.int)/\k∈ns/\Q (.int (ns.idxOf k:Nat)) H
theorem qj:Qu X "list.index" (HA X.K):=by
 intro ae s σ H x xs v us Q I rx r h;obtain⟨a,ns,k,rfl,rfl,hS,hk,q⟩:=h;cases rx;obtain⟨u,rfl,t,rfl⟩:=uz r;obtain⟨its,rv,⟨o,n,ho,hc,hd0,hd⟩,hz⟩:=I.list hS;have hi:=oO rv;obtain⟨cls,dd,data,sl⟩:=o;simp only at hc hd0 hd;subst hc hd0 hd;have hlen:=hi.length;have hj:ns.idxOf k<ns.length:=Yw.mpr hk;have hs:sizeLine=16777216:=sizeLine_eq;rw[lMq]at hz;refine call_meets WU ⟨_,ho,rfl⟩ PySem.F.entry_list_index (PySem.F.args_list_index_2 _ _)
  (SeqAt.list_indexAt a its.toArray n none sl (.int k t) (isInt k) (ns.idxOf k) (by simpa [hlen] using hj) (by lia) ?_ ?_) ⟨ho,fun y hy=>(eq_isInt k t hi y (by simpa using hy)).at _ _,?_⟩
 .show isInt k its[ns.idxOf k]=true;rw[isInt_at k hi _ (by lia) hj]
  simpa using Zd hj
 .intro j hjs hlt;show isInt k its[j]=false;rw[isInt_at k hi j (by simpa using hjs) (by lia)]
  exact ne_of_lt_idxOf hlt _
 .exact ⟨.int _,H,I.tok _,⟨_,rfl⟩,q⟩
def O3(K:W.Frag) (x:V) (H:Hp) (T:String) (b:Bool):Prop :=
 match x with
 | .int _=>(T = "int" /\ b=true)∨(T = "bool" /\ b=false)
 | .bl _=>(T = "bool" /\ b=true)∨(T = "int" /\ b=true)
 | .str _=>T = "str" /\ b=true
 | .ref p=>(T = "list" /\ b=true/\∃xs,dJ K H p xs)∨(T = "dict" /\ b=true/\∃az,H p=some (.dK az))∨(T = "tuple" /\ b=true/\∃xs,vH K H p xs)
 |_=>False
theorem fK:eG X (.builtin "isinstance") (fun xs H Q=>∃x T b,xs=[x,.ty T]/\O3 X.K x H T b/\Q (.bl b) H):=by
 intro ae s σ H xs us Q I r h;obtain⟨x,T,b,rfl,e,q⟩:=h;obtain⟨u,v,rfl,rx,rT⟩:=CT r;cases rT;cases x with
 |int i =>
  obtain⟨t,rfl⟩:=rx;rcases e with ⟨rfl,rfl⟩|⟨rfl,rfl⟩
  .exact call_isinstance (isinstance_true (Tx := "int") F.isi_meta_int F.sub_int_int) ⟨(show s.TypeIs (.int i t) "int" from rfl),⟨.bl true,H,I,rfl,q⟩⟩
  .exact call_isinstance (isinstance_false_int (by decide +kernel) F.isi_meta_bool F.sub_int_bool) (show EP X ae σ Q (.bool false) { s with toks:=s.toks+1 } from ⟨.bl false,H,I.tok _,rfl,q⟩)
 |bl i =>
  cases rx;rcases e with ⟨rfl,rfl⟩|⟨rfl,rfl⟩
  .exact call_isinstance (isinstance_true (Tx := "bool") F.isi_meta_bool F.sub_bool_bool) ⟨(show s.TypeIs (.bool i) "bool" from rfl),⟨.bl true,H,I,rfl,q⟩⟩
  .exact call_isinstance (isinstance_true (Tx := "bool") F.isi_meta_int F.sub_bool_int) ⟨(show s.TypeIs (.bool i) "bool" from rfl),⟨.bl true,H,I,rfl,q⟩⟩
 |str i =>
  obtain⟨t,rfl⟩:=rx;obtain⟨rfl,rfl⟩:=e;exact call_isinstance (isinstance_true (Tx := "str") F.isi_meta_str F.sub_str_str) ⟨(show s.TypeIs (.str i t) "str" from rfl),⟨.bl true,H,I,rfl,q⟩⟩
 |ref p =>
  cases rx;rcases e with ⟨rfl,rfl,xs,hS⟩|⟨rfl,rfl,az,hp⟩|⟨rfl,rfl,xs,hS⟩
  .obtain ⟨its,rv,pl,hz⟩:=I.list hS;exact call_isinstance (isinstance_true (Tx := "list") F.isi_meta_list (by rw[isSubtype_type];kernel_rfl)) ⟨pl.isList.typeIs,⟨.bl true,H,I,rfl,q⟩⟩
  .have ty:s.TypeIs (.ref p) "dict" := (N5 I (.inl ⟨az,.inl hp⟩)).1;exact call_isinstance (isinstance_true (Tx := "dict") F.isi_meta_dict (by rw[isSubtype_type];kernel_rfl)) ⟨ty,⟨.bl true,H,I,rfl,q⟩⟩
  .obtain ⟨its,rv,⟨o,ho,hc,_⟩,hz⟩:=I.tuple hS;exact call_isinstance (isinstance_true (Tx := "tuple") F.isi_meta_tuple (by rw[isSubtype_type];kernel_rfl)) ⟨⟨o,ho,hc⟩,⟨.bl true,H,I,rfl,q⟩⟩
 |_=>exact(show False from e).elim
end
end Mr
namespace Mr
open PySem L2
structure fU (K:W.Frag) (mg:Str->Option Value) (x:Str) (st:Stmt) (ps:List Str) (f:Addr) (fd:FuncData):Prop where
 F:yU K x x st f fd
 m:mg x=some (.ref f)
 b:dY K fd ps []
theorem cX{H:Hp}{p:Addr}{o:HO}(h:H p=none):bB H (bW H p o):=fun b u e=>by
 rw[ax (cP e h)];exact e
end Mr
namespace Mr
open PySem PySem.Spec PyProof.Rows L2
theorem zS{prog:Program}{w:World}{A:Around}{R:Result->Shared->Prop}{s:Shared}{elt target iu:Expr}{ifs:List Expr}{scope:Scope}{pos:Pos}{it acc:Value}{env:Env}(I:Nat->Shared->Prop)
  (turn:∀n s,I n s->wpAny (model prog w) A (pyNext it) (fun r s₁=>match r with
   |none=>R (.ok .next) s₁
   |some v=>wpAny (model prog w) A (letOwnedTupleGo target it v) (fun _ s₂=>wpAny (model prog w) A (assign target env v) (fun _ s₃ =>
     wpAny (model prog w) A (forIn ifs true fun c r=>if r=true then do let ok ←isTrue c env (eval c env);pure (ForInStep.yield ok) else pure (ForInStep.yield r)) (fun ok s₄ =>
      if ok=true then wpAny (model prog w) A (eval elt env) (fun x s₅ =>
       wpAny (model prog w) A (call (.builtin "list.append") [acc,x]) (fun _ s₆=>∃m,m<n/\I m s₆) (fun _ _=>False) s₅) (fun _ _=>False) s₄
      else ∃m,m<n/\I m s₄) (fun _ _=>False) s₃) (fun _ _=>False) s₂) (fun _ _=>False) s₁) (fun _ _=>False) s)
  (n:Nat) (h:I n s):codeAny (model prog w) A (.compLoop (.ListComp elt [⟨target,iu,ifs,0⟩] scope pos) 0 it acc env) R s:=by
 refine codeAny_loop rfl I (fun n s hI=>?_) n h
 show wpAny _ A ((compTurn (.ListComp elt [⟨target,iu,ifs,0⟩] scope pos) 0 it acc env).onRaise (fun x=>do noteFrame x env;theTreesLotGoes x)) _ _ s
 refine wpAny_noted ?_;rw[compTurn_list];refine wpAny_bind (wpAny_standAt (wpAny_bind (wpAny_mono (turn n s hI) (fun r s₁ h₁=>?_) fun _ _ z=>z.elim)))
 cases r with
 |none=>exact wpAny_pure h₁
 |some v =>
  refine wpAny_bind (wpAny_mono h₁ (fun _ s₂ h₂=>?_) fun _ _ z=>z.elim)
  refine wpAny_bind (wpAny_mono h₂ (fun _ s₃ h₃=>?_) fun _ _ z=>z.elim)
  refine wpAny_bind (wpAny_mono h₃ (fun ok s₄ h₄=>?_) fun _ _ z=>z.elim)
  cases ok with
  |false=>exact wpAny_pure ⟨rfl,h₄⟩
  |true=>exact wpAny_bind (wpAny_bind (wpAny_mono h₄ (fun x s₅ h₅=>wpAny_bind (wpAny_mono h₅ (fun _ s₆ h₆=>wpAny_pure (wpAny_pure ⟨rfl,h₆⟩)) fun _ _ z=>z.elim)) fun _ _ z=>z.elim))
abbrev fB(X:Cx) (scope:Scope) (cl:List (Str×Addr)) (N:List Str) (C:Addr) (s:Shared) (H:Hp) (fp:List Addr):Cx where
 prog:=X.prog
 w:=X.w
 K:=X.K
 mg:=X.mg
 base:=X.base
 A:=X.A
 N:=N
 s₀:=s
 H₀:=H
 env:=compEnvC scope cl C X.env
 outer:=X.stack
 stack:=X.stack
 ex:=fp
 fn:=fun _=>false
 calm:=X.calm
 pn:=[]
 xe:=fun _ _=>False
def PF(X:Cx) (ifs:List Expr) (t:TT):Prop :=
 ∀(ae:List (Addr×Obj)) (s:Shared) (σ:St) (H:Hp) (Q:Bool->Hp->Prop),Inv X ae σ H s->t σ H Q ->
  wpAny (model X.prog X.w) X.A (forIn ifs true fun c r=>if r=true then do let ok ←isTrue c X.env (eval c X.env);pure (ForInStep.yield ok) else pure (ForInStep.yield r)) (TP X ae σ Q) X.xe s
def QE:TT:=fun _ H Q=>Q true H
theorem qL{X:Cx}:PF X [] QE:=fun _ _ _ H _ I h=>wpAny_tests_nil ⟨H,I,h⟩
theorem om{X:Cx}{c:Expr}{t:TT}(h:PT X c t):PF X [c] t:=fun ae s σ H Q I q=>wpAny_tests_one (h ae s σ H Q I q)
structure gd (X:Cx) (scope:Scope) (cl:List (Str×Addr)) (x:Str) (N:List Str) (fr:List Nat):Prop where
 names:N.Nodup
 own:N[0]?=some x
 len:N.length=fr.length+1
 sub:∀y c,cl.lookup y=some c->X.env.cells.lookup y=some c
 has:∀y,((relabel scope X.env).names.lookup y=some .cell∨(relabel scope X.env).names.lookup y=some .free)->∃c,cl.lookup y=some c
 get:∀(k j:Nat) (y:Str),fr[k]?=some j->N[k+1]?=some y->X.N[j]?=some y/\X.env.scope.names.lookup y=some .cell/\(relabel scope X.env).names.lookup y=some .cell
theorem gd.none{X:Cx}{scope:Scope}{x:Str}(h:∀p∈scope.names,p.2 ≠ .cell/\p.2 ≠ .free):gd X scope [] x [x] [] where
 names:=by simp
 own:=rfl
 len:=rfl
 sub:=fun y c e=>by cases e
 has:=fun y e=>by
  exfalso;have key:∀p∈(relabel scope X.env).names,p.2 ≠ .cell/\p.2 ≠ .free:=by
   intro p hp;obtain⟨q,hq,rfl⟩:=mMq.mp hp;obtain⟨n,k⟩:=q;obtain⟨h1,h2⟩:=h _ hq;have hk:(k == NameKind.free)=false:=by simpa using h2
   simp only[hk,YU];exact⟨h1,h2⟩
  rcases e with e|e
  .exact (key _ (PySem.mem_of_lookup e)).1 rfl
  .exact (key _ (PySem.mem_of_lookup e)).2 rfl
 get:=fun k j y e _=>by cases e
def slots(σ:St) (fr:List Nat):St:=fr.map fun j=>(σ[j]?).join
def Cz(wi:TI) (fr:List Nat) (tf:TT) (te:TE):TE:=fun σ H Q=>wi σ H fun J H1=>∀acc,H1 acc=none->∃W:Nat->Nat->Hp->Prop,(∃m,W 0 m (bW H1 acc (.lst [])))/\∀i m H,W i m H ->
 (J.stop i H/\Q (.ref acc) H) ∨
 (J.go i H/\∃N:Hp->Prop,(∀H',N H'->∃m',m'<m/\W (i+1) m' H')/\∀x H',J.yld i H x H'->tf (some x::slots σ fr) H' fun b H2 =>
  if b=true then te (some x::slots σ fr) H2 fun y H3=>∃ys,H3 acc=some (.lst ys)/\ys.length<sizeLine/\N (bW H3 acc (.lst (ys++[y]))) else N H2)
section
variable {X:Cx}{scope:Scope}{cl:List (Str×Addr)}{N:List Str}{fr:List Nat}{x:Str}{px pos:Pos}{elt iu:Expr}{ifs:List Expr}{tf:TT}{te:TE}
theorem vq{ae:List (Addr×Obj)}{σ:St}{H:Hp}{s:Shared}{E:Value->Shared->Prop}{J:It}{fp:List Addr}{it:Addr}{tn:Nat->Heap->Prop}{RR:Value->Addr->Result->Shared->Prop}{Q:VK}
  (hc:X.calm=true) (hcell:∀y∈scope.names,y.2 ≠ .cell) (hkind:scope.kind = .function) (hx:scope.names.lookup x=some .local) (hF:gd X scope cl x N fr)
  (hf:∀C s H fp,PF (fB X scope cl N C s H fp) ifs tf) (he:∀C s H fp,PE (fB X scope cl N C s H fp) elt te)
  (I:Inv X ae σ H s) (T:Fu X.prog X.w X.K (.Name x px) J fp it tn) (st:tn 0 s.heap) (fpo:∀b∈fp,sO X ae H b)
  (h:∀acc,H acc=none->∃W:Nat->Nat->Hp->Prop,(∃m,W 0 m (bW H acc (.lst [])))/\∀i m H,W i m H ->
   (J.stop i H/\Q (.ref acc) H) ∨
   (J.go i H/\∃N:Hp->Prop,(∀H',N H'->∃m',m'<m/\W (i+1) m' H')/\∀x H',J.yld i H x H'->tf (some x::slots σ fr) H' fun b H2 =>
    if b=true then te (some x::slots σ fr) H2 fun y H3=>∃ys,H3 acc=some (.lst ys)/\ys.length<sizeLine/\N (bW H3 acc (.lst (ys++[y]))) else N H2))
  (fin:∀acc C s' Hf m,Inv X ae σ Hf s'->s'.heap.Ns C m->sO X ae Hf C->Q (.ref acc) Hf->RR (.ref acc) C (.ok .next) s') :
  wpAny (model X.prog X.w) X.A (newList []) (fun acc s₃=>wpAny (model X.prog X.w) X.A (newFunctionEnv scope X.env.globals cl [] X.env.qual none .none (some X.env)) (fun cenv s₄ =>
   codeAny (model X.prog X.w) X.A (.compStart (.ListComp elt [⟨.Name x px,iu,ifs,0⟩] scope pos) 0 (.ref it) acc { cenv with scope:=relabel scope X.env }) (RR acc cenv.locals) s₄) E s₃) E s:=by
 refine wpAny_newObj_type (wpAny_newFunctionEnv hcell (by intro y hy;simp at hy) (fun h₁ hns₁ hsb₁=>?_) hkind)
 dsimp only at hns₁ hsb₁ ⊢;generalize hG:s.heap.push { cls:=.type "list", dict:=none,data:=.seq ([]:List Value).toArray }=G at hns₁ hsb₁ ⊢;have hC:G.objs.size=s.heap.objs.size+1:=by rw[←hG,X1]
 have hCle:s.heap.objs.size<=G.objs.size:=by rw[hC];exact WC _
 have hDC:s.heap.objs.size≠G.objs.size:=by rw[hC];exact VO (WY _)
 have below:∀b,b<s.heap.objs.size->b≠G.objs.size:=fun b hb=>by rw[hC];exact VO (WO hb)
 have old:∀b o,s.heap.get? b=some o->h₁.get? b=some o:=fun b o e=>hsb₁.extBut b o (below b (Vy e)) (Vt _ (hG ▸ Vt _ e))
 have hacc:h₁.get? s.heap.objs.size=some { cls:=.type "list", data:=.seq ([]:List Value).toArray }:=hsb₁.extBut _ _ hDC (Vt _ (hG ▸ Wa _ rfl));have hn:H s.heap.objs.size=none:=I.hok.fresh (Vu _);have hnC:H G.objs.size=none:=I.hok.fresh hCle;have fpl:∀b∈fp,b<s.heap.objs.size:=fun b hb=>by
  obtain⟨o,q,_⟩:=T.obj 0 _ st b hb;exact Vy q
 obtain⟨W,⟨m0,w0⟩,turn⟩:=h _ hn;have ok':(fB X scope cl N G.objs.size s H fp).Ok:=by
  refine⟨I.ok.mod,by show (relabel scope X.env).kind = .function;exact hkind,I.ok.glob,I.ok.blt,hCle,fun y z c h1 h2=>I.ok.inj y z c (hF.sub y c h1) (hF.sub z c h2),hF.has,fun _ _ z _=>(by cases z),I.ok.hd,I.ok.frames,.inl rfl,
   fun b hb=>⟨below b (fpl b hb),fun y c e=>(fpo b hb).2.2.2.2.1 y c (hF.sub y c e)⟩,fun b o e=>⟨(I.bs b o e).1,(I.bs b o e).2⟩,Wi I.ok.bsz I.sz,fun b o e hb=>?_,fun b hb z=>?_,I.stack,I.stkFree⟩
  .rcases (fpo b hb).2.2.2.1 with q|q
   .exact I.ok.noex b o e q
   .exact absurd (VN (Vy (I.ok.bs b o e).1) q) (WW _)
  .rcases VB.mp (I.stkSub b z) with q|q
   .exact (fpo b hb).2.1 q
   .exact (fpo b hb).2.2.1 q
 have I0:Inv (fB X scope cl N G.objs.size s H fp) [] (none::slots σ fr) (bW H s.heap.objs.size (.lst [])) { s with heap:=h₁,toks:=s.toks+([]:List (Str×Value)).length }:=by
  have hok1:mC X.prog X.w (bW H s.heap.objs.size (.lst [])) h₁:=I.hok.laid old (Vu _) ⟨Wf _,[],0,.nil,hacc⟩;refine⟨ok',rfl,I.bare,Un.laid old (Vu _) hn,⟨_,hns₁,fun k y v e1 e2 e3=>?_⟩,fun y c e=>?_,?_,fun y c e=>?_,fun p hp=>absurd (show p∈([]:List (Addr×Obj)) from hp) (by simp),hok1,?_⟩
  .cases k with
   |zero=>cases e2
   |succ k =>
    have e2':(slots σ fr)[k]?=some (some v):=e2;unfold slots at e2';rw[gMq]at e2';cases ej:fr[k]? with
    |none=>rw[ej]at e2';cases e2'
    |some j =>
     rw[ej]at e2';have e2j:(σ[j]?).join=some v:=V2.inj e2';have e2s:σ[j]?=some (some v):=by
      cases q:σ[j]? with
      |none=>rw[q]at e2j;cases e2j
      |some z=>rw[q]at e2j;exact congrArg some e2j
     obtain⟨g1,g2,g3⟩:=hF.get k j y ej e1;obtain⟨m,_,hl⟩:=I.loc;obtain⟨u,r,l⟩:=hl j y v g1 e2s (.inr (.inl g2));refine⟨u,r,.inr ⟨.inl g3,?_⟩⟩;obtain⟨c,e⟩:=hF.has y (.inl g3);have e':=hF.sub y c e;rcases l with ⟨l1,_⟩|⟨_,c',ec,hcell'⟩
     .have l1':X.env.scope.names.lookup y=some .local:=l1;rw[g2]at l1';cases l1'
     .rw [e']at ec;cases ec;obtain⟨o,ho,hd⟩:=hcell';exact⟨c,e,o,old c o ho,hd⟩
  .obtain ⟨v,o,ho,hd⟩:=I.cell y c (hF.sub y c e);exact⟨v,o,old c o ho,hd⟩
  .show bW H s.heap.objs.size (.lst []) G.objs.size=none;rw[ax (Ne.symm hDC)];exact hnC
  .obtain ⟨v,o,ho,hd⟩:=I.cell y c (hF.sub y c e);rw[ax (VO (Vy ho))];exact I.freeC y c (hF.sub y c e)
  .show (none::slots σ fr).length=N.length;rw[hF.len,lCq];unfold slots;rw[lMq]
 have st1:tn 0 h₁:=T.keep 0 _ _ st fun b _ o e=>old b o e
 have nd:N.Nodup:=hF.names;have nf0:∀b∈fp,bW H s.heap.objs.size (.lst []) b=none:=fun b hb=>by
  rw[ax (VO (fpl b hb))];exact(fpo b hb).1
 have stat:∀{H':Hp},(∀b∈fp,H' b=none)->∀b∈fp,sO (fB X scope cl N G.objs.size s H fp) [] H' b:=fun hn' b hb =>
  ⟨hn' b hb,below b (fpl b hb),ok'.exfs b hb,.inl hb,fun y c e=>(ok'.exf b hb).2 y c e,fun p hp=>absurd (show p∈([]:List (Addr×Obj)) from hp) (by simp)⟩
 have loop:∀s₃:Shared,s₃={ s with heap:=h₁,toks:=s.toks+([]:List (Str×Value)).length } ->
   codeAny (model X.prog X.w) X.A (.compLoop (.ListComp elt [⟨.Name x px,iu,ifs,0⟩] scope pos) 0 (.ref it) (.ref s.heap.objs.size) (compEnvC scope cl G.objs.size X.env)) (RR (.ref s.heap.objs.size) G.objs.size) s₃:=by
  rintro s₃ rfl;refine zS (fun n s'=>∃i v0 H',Inv (fB X scope cl N G.objs.size s H fp) [] (v0::slots σ fr) H' s'/\tn i s'.heap/\(∀b∈fp,H' b=none)/\W i n H') ?_ m0 ⟨0,none,_,I0,st1,nf0,w0⟩
  rintro n s4 ⟨i,v0,H4,I4,st4,nf4,w4⟩;rcases turn i n H4 w4 with ⟨stop,q⟩|⟨go,Nx,hNx,step⟩
  .refine dB (T.done (fB X scope cl N G.objs.size s H fp) rfl rfl rfl hc i [] s4 (v0::slots σ fr) H4 (fun _ _=>False) I4 (stat nf4) st4 stop) fun r s5 ⟨hr,I5⟩=>?_
   subst hr;obtain⟨m,hm,_⟩:=I5.loc;have I6:Inv X ae σ H4 s5:=I.call' (ch:=fp) I5.os I5.base I5.hok I5.bare fun b hb=>⟨(fpo b hb).2.2.2.1,(fpo b hb).2.1,(fpo b hb).2.2.2.2.1,(fpo b hb).2.2.2.2.2⟩
   exact fin _ _ s5 H4 m I6 hm (I.fpOk hCle I5.free) q
  .refine dB (T.item (fB X scope cl N G.objs.size s H fp) rfl rfl rfl hc i [] s4 (v0::slots σ fr) H4 (fun _ _=>False) I4 (stat nf4) st4 go) fun r s5 ⟨u,hr,h5⟩=>?_
   subst hr;refine dB h5 fun _ s6 ⟨y,H6,I6,r6,y6,st6,nf6⟩=>?_
   have I6':=I6.pinned (stat nf6) (T.obj _ _ st6);have pg:PG (fB X scope cl N G.objs.size s H fp) (.Name x px) (gI 0):=ft nd hF.own (.inl (lookup_relabel_local hx)) (.inr (lookup_relabel_local hx));refine dB (pg _ s6 (v0::slots σ fr) H6 y u (fun σ2 H2=>σ2=some y::slots σ fr/\H2=H6) I6' r6 ⟨rfl,rfl⟩) fun _ s7 ⟨σ7,H7,I7,e7,e8⟩=>?_
   subst e7 e8;refine dB (hf _ _ _ _ _ s7 _ _ _ I7 (step y _ y6)) fun b s8 ⟨H8,I8,q8⟩=>?_
   have again:∀{s9:Shared}{H9:Hp},Inv (fB X scope cl N G.objs.size s H fp) ([]++va fp s6.heap) (some y::slots σ fr) H9 s9->Nx H9->∃m,m<n/\∃i v0 H',Inv (fB X scope cl N G.objs.size s H fp) [] (v0::slots σ fr) H' s9/\tn i s9.heap/\(∀b∈fp,H' b=none)/\W i m H':=fun {s9 H9} I9 n9=>by
    obtain⟨m',hm,w9⟩:=hNx H9 n9;refine⟨m',hm,i+1,some y,H9,I9.unpinned,T.keep _ _ _ st6 fun b hb o e=>(I9.pin (b,o) (VH _ (VH _ (lQ hb e)))).1,fun b hb=>?_,w9⟩
    obtain⟨o,e,d⟩:=T.obj _ _ st6 b hb;exact(I9.pin (b,o) (VH _ (VH _ (lQ hb e)))).2.1
   cases b with
   |false=>exact again I8 q8
   |true =>
    refine dB (he _ _ _ _ _ s8 _ _ _ I8 q8) fun z s9 ⟨zv,H9,I9,r9,ys,a9,l9,n9⟩=>?_
    refine dB (cE (X:=fB X scope cl N G.objs.size s H fp) _ s9 _ H9 (.ref s.heap.objs.size) [zv] (.ref s.heap.objs.size) [z] (fun _ H'=>H'=bW H9 s.heap.objs.size (.lst (ys++[zv]))) I9 rfl (.cons r9 .nil) ⟨_,ys,zv,rfl,rfl,a9,l9,rfl⟩) fun _ s10 ⟨_,H10,I10,_,e10⟩=>?_
    subst e10;exact again I10 n9
 exact codeAny_compStart_list (loop _ rfl) (T.self X.A 0 _ _ _ st1 (loop _ rfl))
theorem gD{wi:TI}(hc:X.calm=true) (hclos:closureFor scope X.env=pure cl) (hcell:∀y∈scope.names,y.2 ≠ .cell) (hkind:scope.kind = .function) (hnames:∀y∈scope.names,y.2 = .local->scope.names.lookup y.1=some .local)
  (hx:scope.names.lookup x=some .local) (hF:gd X scope cl x N fr) (hi:PI X (.Name x px) iu wi) (hf:∀C s H fp,PF (fB X scope cl N C s H fp) ifs tf) (he:∀C s H fp,PE (fB X scope cl N C s H fp) elt te)
  (hs:∀x,foldedSetIterable iu X.env x=pure x:=by intro _;rfl):PE X (.ListComp elt [⟨.Name x px,iu,ifs,0⟩] scope pos) (Cz wi fr tf te):=by
 intro ae s σ H Q I h;rw[eval_ListComp];refine wpAny_comprehension_free (use:=none) rfl hs hclos hkind hnames (dB (hi ae s σ H _ I h) fun v s1 h1=>dB h1 fun itv s2 h2=>?_)
 obtain⟨it,fp,tn,J,H2,e,I2,T,st2,f2,q2⟩:=h2;subst e;refine vq (RR:=fun acc C=>compPost (model X.prog X.w) X.A X.xe none (EP X ae σ Q) acc C) hc hcell hkind hx hF hf he I2 T st2 f2 q2 ?_
 intro acc C s' Hf m I' hm fC q;refine⟨m,hm,fun h' sb=>⟨.ref acc,Hf,?_,rfl,q⟩⟩
 exact I'.turned (t':=s'.toks) (fun b o hb e=>(sb.2 b hb).trans e) fC.1 fC.2.1 fC.2.2.2.1 fC.2.2.2.2.1 fC.2.2.2.2.2
theorem CP{wi:TI}{y:Str}{i:Nat}{py spos:Pos}(hc:X.calm=true) (hN:X.N.Nodup) (Sf:X.N[i]?=some y) (hy:P8 X.env.scope y) (hclos:closureFor scope X.env=pure cl) (hcell:∀y∈scope.names,y.2 ≠ .cell) (hkind:scope.kind = .function)
  (hnames:∀y∈scope.names,y.2 = .local->scope.names.lookup y.1=some .local)
  (hx:scope.names.lookup x=some .local) (hF:gd X scope cl x N fr) (hi:PI X (.Name x px) iu wi) (hf:∀C s H fp,PF (fB X scope cl N C s H fp) ifs tf) (he:∀C s H fp,PE (fB X scope cl N C s H fp) elt te)
  (hsw:swapsWith (.ListComp elt [⟨.Name x px,iu,ifs,0⟩] scope pos) (some (.Name y py)) spos.line X.env=pure true:=by rfl) (hs:∀x,foldedSetIterable iu X.env x=pure x:=by intro _;rfl)
  (hfn:X.fn y=true∨X.env.scope.names.lookup y=some .local:=by first|exact .inl rfl|exact .inr rfl|assumption) :
  PS X (.Assign [.Name y py] (.ListComp elt [⟨.Name x px,iu,ifs,0⟩] scope pos) spos) (IZ (Cz wi fr tf te) (gI i)):=by
 intro ae s σ H D I h;rw[exec_Assign_Name_used _ _ _ _ hsw];refine wpAny_bind (wpAny_standAt (wpAny_bind ?_));show wpAny _ X.A (do let _ ←comprehension (.ListComp elt [⟨.Name x px,iu,ifs,0⟩] scope pos) scope X.env _ (newList []) false (eval iu X.env) (some (assign (.Name y py) X.env))) _ _ s
 refine wpAny_bind (wpAny_mono (wpAny_comprehension_free (use:=some (assign (.Name y py) X.env)) (Q:=fun _ s'=>SP X ae D .next s') rfl hs hclos hkind hnames
  (dB (hi ae s σ H _ I h) fun v s1 h1=>dB h1 fun itv s2 h2=>?_)) (fun _ s' hq=>wpAny_pure (wpAny_pure hq)) fun _ _ e=>e)
 obtain⟨it,fp,tn,J,H2,e,I2,T,st2,f2,q2⟩:=h2;subst e;refine vq (RR:=fun acc C=>compPost (model X.prog X.w) X.A X.xe (some (assign (.Name y py) X.env)) (fun _ s'=>SP X ae D .next s') acc C) (Q:=fun v H'=>D.nx (σ.set i (some v)) H') hc hcell hkind hx hF hf he I2 T st2 f2 q2 ?_
 intro acc C s' Hf m I' hm fC q;obtain⟨o,es,ep,ho,hd,r⟩:=id hm;have I1:Inv X (ae++[(C,o)]) σ Hf s':=I'.pins_of fun p hp=>(mAq.mp hp).elim (fun z=>I'.pin p (VH _ z)) fun z=>by
  have e:p=(C,o):=by simpa using z
  subst e;exact⟨ho,fC.1,fC.2.1,fC.2.2.1,fun v z=>by rw[hd]at z;cases z⟩
 refine dB (ft (X:=X) (i:=i) (pos:=py) hN Sf hy hfn _ s' σ Hf (.ref acc) (.ref acc) _ I1 rfl q) fun _ s2 ⟨σ2,H2,I2,q2⟩=>?_
 have pC:=I2.pin (C,o) (VH _ (VH _ (by simp)))
 refine⟨m,⟨o,es,ep,pC.1,hd,r⟩,fun h' sb=>⟨σ2,H2,?_,q2⟩⟩
 exact I2.unpinned.turned (t':=s2.toks) (fun b u hb e=>(sb.2 b hb).trans e) pC.2.1 fC.2.1 fC.2.2.2.1 fC.2.2.2.2.1 fC.2.2.2.2.2
end
end Mr
namespace MrS
open PySem PyProof.Rows
section
variable {prog:Program}{w:World}{A:Around}{E:Value->Shared->Prop}{s:Shared}{Pk:Keyed->Prop}{lt:Keyed->Keyed->Bool}
noncomputable abbrev jY(h:Heap) (a:Addr) (vs:List Value):Heap:=((h.update a (Obj.mapSeq fun _=>#[])).push (seqObj "tuple" vs.toArray 0)).push (seqObj "list" #[] 0)
theorem vY{a:Addr}{vs:List Value}{n:Nat}{P:PySem.Fin->Shared->Prop}(ho:s.heap.get? a=some (seqObj "list" vs.toArray n)) (hs:vs.length<=sizeLine)
  (hkk:2<=vs.length->∀Q:SortKind->Shared->Prop,Q oneType' { s with heap:=jY s.heap a vs }->wpAny (model prog w) A (keyKind' vs.toArray) Q E { s with heap:=jY s.heap a vs })
  (C:nS prog w A { s with heap:=jY s.heap a vs } oneType' Pk lt) (hp:∀x,x∈pairsOf vs->Pk x)
  (h:∀xs:Array Keyed,xs.Perm (pairsOf vs)->oy lt xs 0 (pairsOf vs).size->P (.done (.ret .none)) { s with heap:=sortedHeap s.heap a vs (xs.map (·.2)) }) :
  wpAny (model prog w) A (Builtin.«list.sort» ⟨[.ref a],[]⟩) P E s:=by
 rw[list_sort_plain];have ha:a<s.heap.objs.size:=Vy ho;refine wpAny_bind (listItems_at ho rfl ?_);refine wpAny_bind (listUpdate_at ho rfl ?_ (hsz:=by simpa using hs))
 obtain⟨e1,ho1⟩:∃e1,(s.heap.update a (Obj.mapSeq fun _=>#[])).get? a=some (seqObj "list" #[] e1):=⟨_,get?_update_seq ho (fun _=>#[])⟩
 refine wpAny_bind (seqEpoch_at ho1 rfl ?_);refine wpAny_bind (wpAny_newTuple ?_);refine wpAny_bind (wpAny_newList ?_);refine wpAny_holding ?_;have ho6:(jY s.heap a vs).get? a=some (seqObj "list" #[] e1):=by
  rw[X3 _ _ _ (by rw[size_push',XF];exact VO (WO ha)),X3 _ _ _ (by rw[XF];exact VO ha)]
  exact ho1
 show wpAny (model prog w) A _ P E { s with heap:=jY s.heap a vs }
 dsimp only;have hsz:vs.toArray.size=vs.length:=by simp
 have hs':sizeLine=16777216:=sizeLine_eq
 by_cases h2:vs.toArray.size<2
 .rw [if_pos h2,if_pos h2];refine wpAny_bind (wpAny_pure ?_);rw[StateT.run_pure];refine wpAny_bind (wpAny_pure ?_);dsimp only;refine wpAny_bind (seqEpoch_at ho6 rfl ?_);refine wpAny_bind (listUpdate_at ho6 rfl ?_ (hsz2:=by rw[ZE];show (pairsOf vs).size<=_;rw[pairsOf_size,sizeLine_eq];lia))
  simp only[bne_self_eq_false,W3,if_false];refine wpAny_pure (h _ (ZC.refl _) ?_);intro i j x y _ hij hj ex ey;have:i=j:=by rw[pairsOf_size]at hj;lia
  subst this;rw[ex]at ey;cases ey;exact C.refl (hp x (aQq ex))
 .rw [if_neg h2,if_neg h2];refine wpAny_bind (hkk (by lia) _ ?_)
  refine wpAny_bind (wpAny_mono (yS C (arr:=pairsOf vs) (g:=7) (E:=E)
   (Q:=fun _ st'=>∃xs p g',st'=lB oneType' xs p g'/\xs.Perm (pairsOf vs)/\oy lt xs 0 (pairsOf vs).size) hp (by rw[pairsOf_size];lia) fun xs p g' a1 a2=>⟨xs,p,g',rfl,a1,a2⟩) ?_ fun _ _ e=>e)
  rintro⟨⟨⟩,st'⟩ s' ⟨rfl,xs,p,g',rfl,hpm,hsg⟩;dsimp only;refine wpAny_bind (seqEpoch_at ho6 rfl ?_);refine wpAny_bind (listUpdate_at ho6 rfl ?_ (hsz2:=by refine Wi (XY ((ZE ..).trans (hpm.size_eq.trans (pairsOf_size _)))) ?_;lia))
  simp only[bne_self_eq_false,W3,if_false];exact wpAny_pure (h xs hpm hsg)
theorem Kq{h:Heap}{a:Addr}{xs:Array Value}{n:Nat}(vs:List Value) (ho:h.get? a=some (seqObj "list" xs n)):∃e1,(jY h a vs).get? a=some (seqObj "list" #[] e1):=by
 have ha:a<h.objs.size:=Vy ho;obtain⟨e1,ho1⟩:∃e1,(h.update a (Obj.mapSeq fun _=>#[])).get? a=some (seqObj "list" #[] e1):=⟨_,get?_update_seq ho (fun _=>#[])⟩
 refine⟨e1,?_⟩;rw[X3 _ _ _ (by rw[size_push',XF];exact VO (WO ha)),X3 _ _ _ (by rw[XF];exact VO ha)]
 exact ho1
theorem Li{h:Heap}{a:Addr}{xs:Array Value}{n:Nat}(ys:Array Value) (ho:h.get? a=some (seqObj "list" xs n)):∃n1,(h.update a (Obj.mapSeq fun _=>ys)).get? a=some (seqObj "list" ys n1):=⟨_,get?_update_seq ho (fun _=>ys)⟩
theorem mY{vs:List Value}{x:Keyed}(h:x∈pairsOf vs):x.1∈vs/\x.2=x.1:=by
 obtain⟨i,hi,e⟩:=Array.mem_iff_getElem.mp h;have hi':i<vs.length:=by rw[pairsOf_size]at hi;exact hi
 have:x=(vs[i],vs[i]):=by
  rw[←e];simp[pairsOf]
 rw[this];exact⟨gRq hi',rfl⟩
theorem yY{vs:List Value}{xs:Array Keyed}(hp:xs.Perm (pairsOf vs)) (hs:oy lt xs 0 (pairsOf vs).size) :
  (xs.map (·.2)).toList.Perm vs/\(xs.map (·.2)).toList.Pairwise (fun x y=>lt (y,y) (x,x)=false):=by
 constructor
 .have:=hp.toList.map (·.2);have e:(pairsOf vs).toList.map (·.2)=vs:=by
   have:(pairsOf vs).toList=vs.zip vs:=by simp[pairsOf]
   rw[this];apply List.ext_getElem
   .simp
   .intro i h1 h2;simp
  rw[e]at this;rw[Array.toList_map];exact this
 .rw [WH];intro i j hi hj hij;have hi':i<xs.size:=by simpa using hi
  have hj':j<xs.size:=by simpa using hj
  have z:=hs i j xs[i] xs[j] (Wf _) (Wu hij) (by rw[←hp.size_eq];exact hj') (by simp[hi']) (by simp[hj'])
  have m1:=mY (hp.mem_iff.mp (V5 hi'));have m2:=mY (hp.mem_iff.mp (V5 hj'));have e1:xs[i]=(xs[i].2,xs[i].2):=ZP m1.2.symm rfl;have e2:xs[j]=(xs[j].2,xs[j].2):=ZP m2.2.symm rfl;rw[e1,e2]at z;simpa using z
theorem vy{l:Addr}{vs:List Value}{Q:Value->Shared->Prop}(hl:s.heap.IsList l vs.toArray) (hs:vs.length<=sizeLine)
  (hC:∀s':Shared,(∀b o,s.heap.get? b=some o->s'.heap.get? b=some o)->(2<=vs.length->∀Q:SortKind->Shared->Prop,Q oneType' s'->wpAny (model prog w) A.in1.in1 (keyKind' vs.toArray) Q E s')/\nS prog w A.in1.in1 s' oneType' Pk lt)
  (hp:∀v∈vs,Pk (v,v))
  (h:∀(out:List Value) (h':Heap) (n':Nat),out.Perm vs->out.Pairwise (fun x y=>lt (y,y) (x,x)=false)->(∀b o,s.heap.get? b=some o->h'.get? b=some o) ->
   h'.get? (s.heap.objs.size+1)=some (seqObj "list" out.toArray n')->Q (.ref (s.heap.objs.size+1)) { s with heap:=h' }) :
  wpAny (model prog w) A (call (.builtin "sorted") [.ref l]) Q E s:=by
 refine Calls.call_function_entry kind_sorted plain_sorted entry_sorted (args_sorted1 _) ?_;unfold Builtin.«sorted»;refine wpAny_bind (m:=checkCount "sorted" 1 1 _) (wpAny_pure ?_);refine wpAny_bind (collect_list hl ?_ hs);refine wpAny_bind (wpAny_newList ?_);have hsz:((s.heap.push (seqObj "list" #[] 0)).update s.heap.objs.size (Obj.mapSeq (· ++ vs.toArray))).objs.size=s.heap.objs.size+1:=by
  rw[XF,size_push']
 have hoL:(((s.heap.push (seqObj "list" #[] 0)).update s.heap.objs.size (Obj.mapSeq (· ++ vs.toArray))).push (seqObj "list" vs.toArray 0)).get? (s.heap.objs.size+1)=some (seqObj "list" vs.toArray 0):=by
  rw[←hsz];exact Wa _ rfl
 show wpAny _ _ _ _ _ { s with heap:=((s.heap.push (seqObj "list" #[] 0)).update s.heap.objs.size (Obj.mapSeq (· ++ vs.toArray))).push (seqObj "list" vs.toArray 0) }
 rw[hsz];generalize hG:((s.heap.push (seqObj "list" #[] 0)).update s.heap.objs.size (Obj.mapSeq (· ++ vs.toArray))).push (seqObj "list" vs.toArray 0)=G at hoL ⊢;have k1:∀b o,s.heap.get? b=some o->G.get? b=some o:=fun b o e=>by
  rw[←hG];refine Vt _ ?_;rw[Xg _ _ _ _ (VO (Vy e))];exact Vt _ e
 have k2:∀b o,s.heap.get? b=some o->(jY G (s.heap.objs.size+1) vs).get? b=some o:=fun b o e=>by
  refine Vt _ (Vt _ ?_);rw[Xg _ _ _ _ (VO (WO (Vy e)))];exact k1 b o e
 obtain⟨q1,q2⟩:=hC { s with heap:=jY G (s.heap.objs.size+1) vs } k2
 refine wpAny_bind (wpAny_holding (wpAny_call_entry slot_list_sort ⟨_,hoL,rfl⟩ entry_list_sort (vY (Pk:=Pk) (lt:=lt) hoL hs q1 q2 (fun x hx=>?_) fun xs a1 a2=>⟨_,rfl,?_⟩) (args_list_sort _)))
 .obtain ⟨m1,m2⟩:=mY hx;have:x=(x.1,x.1):=ZP rfl m2;rw[this];exact hp _ m1
 .obtain ⟨v1,v2⟩:=yY a1 a2;obtain⟨e1,ho1⟩:=Kq vs hoL;obtain⟨n1,g1⟩:=Li (xs.map (·.2)) ho1;refine wpAny_pure ⟨_,rfl,h _ (sortedHeap G (s.heap.objs.size+1) vs (xs.map (·.2))) n1 v1 v2 (fun b o e=>?_) ?_⟩
  .unfold sortedHeap;rw[Xg _ _ _ _ (VO (WO (Vy e)))];exact k2 b o e
  .rw [show (xs.map (·.2)).toList.toArray=xs.map (·.2) from Array.toArray_toList]
   exact g1
end
end MrS
namespace HT
open PySem PyProof.Rows
section
open PySem.SeqAt
open PySem.AutoSeq1 (wpAny_loadPart')
open PySem.MeetsSeq PySem.MeetsSeq2 PySem.MeetsSeq3 PySem.SeqRoads2
theorem AI{vs:List Value}{ns:List Int}(h:IntsAre vs ns):∀{i:Nat}(hi:i<vs.length),∃(z:Int) (t:Tok),vs[i] = .int z t/\ns.drop i=z::ns.drop (i+1):=by
 induction h with
 |nil=>intro i hi;exact absurd hi (Xo _)
 |cons a t _ ih =>
  intro i hi;cases i with
  |zero=>exact⟨a,t,rfl,rfl⟩
  |succ i=>exact ih (i:=i) (by simpa using hi)
theorem xT(l b:Addr) (items items2:Array Value) (n n2:Nat) (dd dd2:Option Addr) (sl sl2:Array (Option Value)) (ns ms:List Int) (hi:IntsAre items.toList ns) (hj:IntsAre items2.toList ms) (k:Nat) :
  ∀i:Nat,min items.size items2.size-i=k->i<=items.size->i<=items2.size->Meets (Builtin.«list.__eq__.loop» ⟨[.ref l,.ref b,rawInt i,rawInt 0],[]⟩)
   (fun _ R s=>s.heap.get? l=some { cls:=.type "list", dict:=dd,data:=.seq items n,slots:=sl }/\s.heap.get? b=some { cls:=.type "list", dict:=dd2,data:=.seq items2 n2,slots:=sl2 } /\
    R (.ok (.ret (.bool (fi (ns.drop i) (ms.drop i))))) s):=by
 have z1:ns.length=items.size:=by rw[←hi.length];simp
 have z2:ms.length=items2.size:=by rw[←hj.length];simp
 induction k with
 |zero =>
  intro i hk h1 h2 prog w A R s h;obtain⟨hp,g,d,tk,os⟩:=s;obtain⟨hl,hb,h⟩:=h
  wp_walk using wpAny_loadPart' hl,wpAny_loadPart' hb
  have fin:fi (ns.drop i) (ms.drop i)=decide (items.size<items2.size):=by
   by_cases c:i=items.size
   .have e1:ns.drop i=[]:=WE (by lia)
    rw[e1]
    by_cases c2:i<items2.size
    .rw [VW (by lia:i<ms.length),uI]
     exact(decide_eq_true (by lia)).symm
    .rw [WE (by lia:ms.length<=i),vV]
     exact(decide_eq_false (by lia)).symm
   .have c2:i=items2.size:=by lia
    rw[VW (by lia:i<ns.length),WE (by lia:ms.length<=i),uc]
    exact(decide_eq_false (by lia)).symm
  rw[fin]at h
  by_cases c:i=items.size
  .have JL:items[((i:Nat):Int).toNat]?=none:=by simp;lia
   rw[JL]
   wp_walk using wpAny_loadPart' hl,wpAny_loadPart' hb
   exact h
  .have c2:i=items2.size:=by lia
   have JL:items[((i:Nat):Int).toNat]?=some (items[i]'(by lia)):=by simp
   have hi2:items2[((i:Nat):Int).toNat]?=none:=by simp;lia
   rw[JL,hi2]
   wp_walk using wpAny_loadPart' hl,wpAny_loadPart' hb
   exact h
 |succ k ih =>
  intro i hk h1 h2 prog w A R s h;obtain⟨hp,g,d,tk,os⟩:=s;obtain⟨hl,hb,h⟩:=h
  wp_walk using wpAny_loadPart' hl,wpAny_loadPart' hb
  have hlt:i<items.size:=by lia
  have hlt2:i<items2.size:=by lia
  obtain⟨x,t,ex,dx⟩:=AI hi (i:=i) (by simpa using hlt)
  obtain⟨y,u,ey,dy⟩:=AI hj (i:=i) (by simpa using hlt2)
  have JL:items[((i:Nat):Int).toNat]?=some (.int x t):=by
   rw[←ex];simp[hlt]
  have hi2:items2[((i:Nat):Int).toNat]?=some (.int y u):=by
   rw[←ey];simp[hlt2]
  have hc:((i:Int)+1)=((i+1:Nat):Int):=by push_cast;rfl
  rw[dx,dy,lJ]at h;rw[JL,hi2];obtain⟨e,he,hiff⟩:=GZ A.in1 ⟨hp,g,d,tk,os⟩ x t y u;refine wpAny_bind (he prog w _ _ ?_);cases e with
  |true =>
   rw[if_pos (hiff.mp rfl)]at h
   wp_walk
   rw[hc];exact⟨plainId_quiet plain_eq_loop _,codeAny_builtin entry_eq_loop (by
    rw[Around.under_plainId plain_eq_loop _];exact ih (i+1) (by lia) (by lia) (by lia) prog w A R _ ⟨hl,hb,h⟩)⟩
  |false =>
   rw[if_neg (fun q=>absurd (hiff.mpr q) VF)]at h
   have hri:=FZ A.in1 ⟨hp,g,d,tk,os⟩ x t y u prog w
   wp_walk using wpAny_loadPart' hl,wpAny_loadPart' hb
   rw[JL,hi2]
   wp_walk using hri
   exact h
theorem xU(l b:Addr) (items items2:Array Value) (n n2:Nat) (dd dd2:Option Addr) (sl sl2:Array (Option Value)) (ns ms:List Int) (hi:IntsAre items.toList ns) (hj:IntsAre items2.toList ms) :
  Meets (Builtin.«list.__lt__» ⟨[.ref l,.ref b],[]⟩)
   (fun _ R s=>s.heap.get? l=some { cls:=.type "list", dict:=dd,data:=.seq items n,slots:=sl }/\s.heap.get? b=some { cls:=.type "list", dict:=dd2,data:=.seq items2 n2,slots:=sl2 } /\
    R (.ok (.ret (.bool (fi ns ms)))) s):=by
 intro prog w A R s h;obtain⟨hp,g,d,tk,os⟩:=s;obtain⟨hl,hb,h⟩:=h;have f3:=AutoSeq1.sub_list_list
 wp_walk using wpAny_loadPart' hl,wpAny_loadPart' hb
 exact⟨plainId_quiet plain_eq_loop _,codeAny_builtin entry_eq_loop (by
  rw[Around.under_plainId plain_eq_loop _];exact xT l b items items2 n n2 dd dd2 sl sl2 ns ms hi hj _ 0 rfl (Wf _) (Wf _) prog w A R _ ⟨hl,hb,h⟩)⟩
end
end HT
namespace Mr
open PySem PySem.Spec PyProof.Rows L2
section
open HT
theorem uK:∀xs ys:List Int,fi xs ys=true->fi ys xs=false
 | [],[],_=>rfl
 | [],_::_,_=>rfl
 |_::_,[],h=>by cases h
 |x::xs,y::ys,h=>by
  rw[lJ]at h ⊢
  by_cases e:x=y
  .rw [if_pos e]at h;rw[if_pos e.symm];exact uK xs ys h
  .rw [if_neg e]at h;rw[if_neg (Ne.symm e)];have h':x<y:=of_decide_eq_true h;exact decide_eq_false (by lia)
theorem qW:∀xs ys zs:List Int,fi ys xs=false->fi zs ys=false->fi zs xs=false
 | [],[],[],_,_=>rfl
 | [],[],_::_,_,h=>by exact h
 | [],_::_,[],_,h=>by cases h
 | [],_::_,_::_,_,_=>rfl
 |_::_,[],_,h,_=>by cases h
 |_::_,_::_,[],_,h=>by cases h
 |x::xs,y::ys,z::zs,h1,h2=>by
  rw[lJ]at h1 h2 ⊢
  by_cases e1:y=x
  .rw [if_pos e1]at h1;subst e1
   by_cases e2:z=y
   .rw [if_pos e2]at h2 ⊢;exact qW xs ys zs h1 h2
   .rw [if_neg e2]at h2 ⊢;exact h2
  .rw [if_neg e1]at h1;have h1':¬ y<x:=of_decide_eq_false h1
   by_cases e2:z=y
   .rw [if_neg (by lia)]
    exact decide_eq_false (by lia)
   .rw [if_neg e2]at h2;have h2':¬ z<y:=of_decide_eq_false h2;rw[if_neg (by lia)]
    exact decide_eq_false (by lia)
theorem zf:∀xs ys:List Int,fi xs ys=false->fi ys xs=false->xs=ys
 | [],[],_,_=>rfl
 | [],_::_,h,_=>by cases h
 |_::_,[],_,h=>by cases h
 |x::xs,y::ys,h1,h2=>by
  rw[lJ]at h1 h2
  by_cases e:x=y
  .rw [if_pos e]at h1;rw[if_pos e.symm]at h2;rw[e,zf xs ys h1 h2]
  .rw [if_neg e]at h1;rw[if_neg (Ne.symm e)]at h2;have h1':¬ x<y:=of_decide_eq_false h1;have h2':¬ y<x:=of_decide_eq_false h2;lia
def Lw(x y:List Int):Bool:=!HT.fi y x
theorem EH(x y z:List Int) (h1:Lw x y=true) (h2:Lw y z=true):Lw x z=true:=by
 unfold Lw at *;simp only[Zn]at *;exact qW x y z h1 h2
theorem EJ(x y:List Int):(Lw x y || Lw y x)=true:=by
 unfold Lw;cases h:HT.fi y x with
 |false=>rfl
 |true=>rw[uK y x h];rfl
def mw(rs:List (List Int)):List (List Int):=rs.mergeSort Lw
theorem fk(rs:List (List Int)):(mw rs).Perm rs:=Y7 _ _
theorem uP(rs:List (List Int)):(mw rs).Pairwise (fun x y=>HT.fi y x=false):=by
 refine(YC EH EJ rs).imp fun {a b} h=>?_
 unfold Lw at h;simpa using h
theorem vS:∀{xs ys:List (List Int)},xs.Perm ys->xs.Pairwise (fun x y=>HT.fi y x=false)->ys.Pairwise (fun x y=>HT.fi y x=false)->xs=ys
 |xs,ys,hp,h1,h2=>Wx.eq_of_pairwise (fun a b _ _ e1 e2=>(zf b a e1 e2).symm) h1 h2 hp
theorem IJ{xs rs:List (List Int)}(hp:xs.Perm rs) (h:xs.Pairwise (fun x y=>HT.fi y x=false)):xs=mw rs :=
 vS (hp.trans (fk rs).symm) h (uP rs)
theorem Et{rs ts:List (List Int)}(hp:rs.Perm ts):mw rs=mw ts:=IJ ((fk rs).trans hp) (uP rs)
theorem lD(rs:List (List Int)):(mw rs).length=rs.length:=(fk rs).length_eq
noncomputable def nQ(ns:List Int):List Int:=ns.mergeSort (fun x y=>decide (x<=y))
theorem qV(ns:List Int):(nQ ns).Perm ns:=Y7 _ _
theorem zP(ns:List Int):(nQ ns).Pairwise (·<=·):=by
 refine(YC (le:=fun x y=>decide (x<=y)) (fun a b c h1 h2=>?_) (fun a b=>?_) ns).imp fun {a b} h=>by simpa using h
 .simp only [decide_eq_true_eq]at *;lia
 .simp only [Bool.or_eq_true,decide_eq_true_eq];lia
theorem Ks{xs ns:List Int}(hp:xs.Perm ns) (h:xs.Pairwise (·<=·)):xs=nQ ns :=
 Wx.eq_of_pairwise (fun a b _ _ e1 e2=>Int.le_antisymm e1 e2) h (zP ns) (hp.trans (qV ns).symm)
end
def dq(H:Hp) (ps:List Addr) (rs:List (List Int)):Prop:=ps.map H=rs.map (fun r=>some (HO.lst (r.map V.int)))
theorem dq.nil{H:Hp}:dq H [] []:=rfl
theorem dq.length{H:Hp}{ps:List Addr}{rs:List (List Int)}(h:dq H ps rs):ps.length=rs.length:=by
 have:=congrArg WR h;simpa using this
theorem dq.cons_iff{H:Hp}{ps:List Addr}{rs:List (List Int)}{p:Addr}{r:List Int}:dq H (p::ps) (r::rs)↔H p=some (.lst (r.map V.int))/\dq H ps rs:=by
 unfold dq;rw[VG,VG,Zm.injEq]
theorem dq.get{H:Hp}{ps:List Addr}{rs:List (List Int)}(h:dq H ps rs) {i:Nat}{p:Addr}(e:ps[i]?=some p):∃r,rs[i]?=some r/\H p=some (.lst (r.map V.int)):=by
 have:=congrArg (fun l=>l[i]?) h
 simp only[gMq,e,W6]at this;cases er:rs[i]? with
 |none=>rw[er]at this;cases this
 |some r=>rw[er]at this;exact⟨r,rfl,V2.inj this⟩
theorem dq.mem{H:Hp}{ps:List Addr}{rs:List (List Int)}(h:dq H ps rs) {p:Addr}(hp:p∈ps):∃r,r∈rs/\H p=some (.lst (r.map V.int)):=by
 obtain⟨i,hi⟩:=List.getElem?_of_mem hp;obtain⟨r,er,e⟩:=h.get hi;exact⟨r,mGq er,e⟩
theorem dq.keep{H H':Hp}{ps:List Addr}{rs:List (List Int)}(h:dq H ps rs) (k:∀p∈ps,H' p=H p):dq H' ps rs:=by
 unfold dq at *;rw[←h];exact mCq k
theorem dq.same{H H':Hp}{ps:List Addr}{rs:List (List Int)}(h:dq H ps rs) (s:bB H H'):dq H' ps rs :=
 h.keep fun p hp=>by
  obtain⟨r,_,e⟩:=h.mem hp;rw[s _ _ e,e]
noncomputable def U9:V->Int
 | .int i=>i
 |_=>0
def lX(H:Hp) (p:Addr):List Int:=match H p with
 |some (.lst xs)=>xs.map U9
 |_=>[]
theorem AA{H:Hp}{p:Addr}{r:List Int}(h:H p=some (.lst (r.map V.int))):lX H p=r:=by
 unfold lX;rw[h];simp only[mPq];exact List.map_id'' (fun _=>rfl) r
theorem dq.fn{H:Hp}{ps:List Addr}{rs:List (List Int)}(h:dq H ps rs):rs=ps.map (lX H):=by
 induction rs generalizing ps with
 |nil =>
  have:=h.length;have:ps=[]:=Wo.mp this;rw[this];rfl
 |cons r rs ih =>
  cases ps with
  |nil=>have:=h.length;simp at this
  |cons p ps =>
   obtain⟨h1,h2⟩:=dq.cons_iff.mp h;rw[VG,←ih h2,AA h1]
theorem dq.fn_row{H:Hp}{ps:List Addr}{rs:List (List Int)}(h:dq H ps rs) {p:Addr}(hp:p∈ps):H p=some (.lst ((lX H p).map V.int)):=by
 obtain⟨r,_,e⟩:=h.mem hp;rw[AA e];exact e
theorem dq.of_fn{H:Hp}{ps:List Addr}(h:∀p∈ps,H p=some (.lst ((lX H p).map V.int))):dq H ps (ps.map (lX H)):=by
 unfold dq;rw[mPq];exact mCq h
theorem dq.perm{H:Hp}{ps qs:List Addr}{rs:List (List Int)}(h:dq H ps rs) (hp:qs.Perm ps):∃ts,dq H qs ts/\ts.Perm rs/\ts=qs.map (lX H) :=
 ⟨_,dq.of_fn fun p m=>h.fn_row (hp.mem_iff.mp m),by rw[h.fn];exact hp.map _,rfl⟩
theorem dq.free{H H':Hp}{ps:List Addr}{rs:List (List Int)}(h:dq H' ps rs) {q:Addr}(n:H' q=none):q∉ps:=fun m=>by
 obtain⟨r,_,e⟩:=h.mem m;rw[n]at e;cases e
theorem qO:∀{ps:List Addr}{vs:List Value},bq (ps.map V.ref) vs->vs=ps.map Vw
 | [],vs,r=>by cases r;rfl
 |p::ps,vs,r=>by
  rw[VG]at r;cases r with
  |cons h1 h2 =>
   have e:_=Vw p:=h1;rw[e,qO h2];rfl
theorem wD:∀(ps:List Addr),bq (ps.map V.ref) (ps.map Vw)
 | []=>.nil
 |p::ps=>.cons rfl (wD ps)
def mS:Value->Addr
 | .ref p=>p
 |_=>0
def intOf:Value->Int
 | .int i _=>i
 |_=>0
theorem Lv{vs:List Value}{ns:List Int}(h:IntsAre vs ns):ns=vs.map intOf/\∀v∈vs,∃a t,v = .int a t:=by
 induction h with
 |nil=>exact⟨rfl,fun v hv=>by cases hv⟩
 |cons a t _ ih =>
  refine⟨by rw[VG,←ih.1];rfl,fun v hv=>?_⟩
  rcases VB.mp hv with rfl|hv
  .exact ⟨a,t,rfl⟩
  .exact ih.2 v hv
theorem vals_ints:∀{vs:List Value},(∀v∈vs,∃a t,v = .int a t)->bq ((vs.map intOf).map V.int) vs
 | [],_=>.nil
 |v::vs,h=>by
  obtain⟨a,t,rfl⟩:=h _ (V0 ..);exact .cons ⟨t,rfl⟩ (vals_ints fun v hv=>h v (mCo _ hv))
theorem Lj{M:Model}{A:Around}{E:Value->Shared->Prop}{s:Shared}{vs:List Value}{T:String}{Q:SortKind->Shared->Prop}(h2:2<=vs.length) (hT:∀v∈vs,W.Looks M s.heap (typeOf v) (.type T)) (hT1:(Xd T != Xd "tuple")=true) (hT2:(Xd T == Xd T)=true) (h:Q oneType' s) :
  wpAny M A (keyKind' vs.toArray) Q E s:=W.kas_kind h2 hT hT1 hT2 h
noncomputable def Uu(x y:Keyed):Bool:=match x.1,y.1 with
 | .int a _,.int b _=>decide (a<b)
 |_,_=>false
theorem SC(prog:Program) (w:World) (A:Around) (s:Shared):MrS.nS prog w A s oneType' (fun x=>∃a t,x.1 = .int a t) Uu where
 ask:=by
  rintro⟨_,x⟩ ⟨_,y⟩ ⟨a,t,e1⟩ ⟨b,u,e2⟩ E Q q;dsimp only at e1 e2;subst e1 e2;rw[keyLt'_oneType];exact oneLt_int q
 asym:=by
  rintro⟨_,x⟩ ⟨_,y⟩ ⟨a,t,e1⟩ ⟨b,u,e2⟩ h;dsimp only at e1 e2;subst e1 e2;have h':a<b:=of_decide_eq_true h;exact decide_eq_false (by lia)
 trans:=by
  rintro⟨_,x⟩ ⟨_,y⟩ ⟨_,z⟩ ⟨a,t,e1⟩ ⟨b,u,e2⟩ ⟨c,v,e3⟩ h1 h2;dsimp only at e1 e2 e3;subst e1 e2 e3;have h1':¬ b<a:=of_decide_eq_false h1;have h2':¬ c<b:=of_decide_eq_false h2;exact decide_eq_false (by lia)
def Uz(r:Addr->List Int) (x y:Keyed):Bool:=match x.1,y.1 with
 | .ref p,.ref q=>HT.fi (r p) (r q)
 |_,_=>false
theorem T3{prog:Program}{w:World}{A:Around}{s:Shared}{ps:List Addr}{r:Addr->List Int}(hu:A.units<cLine)
  (h:∀p∈ps,∃vs:List Value,PlainL s.heap p vs.toArray/\IntsAre vs (r p)):MrS.nS prog w A s oneType' (fun x=>∃p,x.1 = .ref p/\p∈ps) (Uz r) where
 ask:=by
  rintro⟨_,x⟩ ⟨_,y⟩ ⟨p,e1,hp⟩ ⟨q,e2,hq⟩ E Q k;dsimp only at e1 e2;subst e1 e2;obtain⟨vs,⟨o,n,ho,hc,hd0,hd⟩,hi⟩:=h p hp;obtain⟨ws,⟨o2,n2,ho2,hc2,hd02,hd2⟩,hj⟩:=h q hq;obtain⟨cls,dd,data,sl⟩:=o;obtain⟨cls2,dd2,data2,sl2⟩:=o2;simp only at hc hd0 hd hc2 hd02 hd2;subst hc hd0 hd hc2 hd02 hd2;rw[keyLt'_oneType,oneLt'_eq];simp only[if_true];refine wpAny_bind (wpAny_cRoomFor hu ?_);refine wpAny_bind (wpAny_callSpecialIfBound?_slot ⟨_,ho,rfl⟩ F.slot_list_lt (call_meets F.slot_list_lt ⟨_,ho,rfl⟩ F.entry_list_lt (F.args_list_lt_2 _ _)
   (HT.xU p q vs.toArray ws.toArray n n2 none none sl sl2 (r p) (r q) (by simpa using hi) (by simpa using hj)) ⟨ho,ho2,?_⟩))
  exact wpAny_truthy_bool k
 asym:=by
  rintro⟨_,x⟩ ⟨_,y⟩ ⟨a,e1,_⟩ ⟨b,e2,_⟩ h;dsimp only at e1 e2;subst e1 e2;exact uK _ _ h
 trans:=by
  rintro⟨_,x⟩ ⟨_,y⟩ ⟨_,z⟩ ⟨a,e1,_⟩ ⟨b,e2,_⟩ ⟨c,e3,_⟩ h1 h2;dsimp only at e1 e2 e3;subst e1 e2 e3;exact qW _ _ _ h1 h2
section
variable {X:Cx}
theorem yg:eG X (.builtin "sorted") (fun xs H Q=>∃(a:Addr) (ns:List Int),xs=[.ref a]/\dJ X.K H a (ns.map V.int)/\∀p,H p=none->Q (.ref p) (bW H p (.lst ((nQ ns).map V.int)))):=by
 intro ae s σ H xs us Q I r h;obtain⟨a,ns,rfl,hS,q⟩:=h;obtain⟨u,rfl,ru⟩:=uz r;cases ru;obtain⟨vs,hl,hi,hz⟩:=mP I hS;obtain⟨en,hv⟩:=Lv hi;have hlen:=hi.length;refine MrS.vy (Pk:=fun x=>∃a t,x.1 = .int a t) (lt:=Uu) hl (by lia) (fun s' _=>⟨fun h2 Q q=>?_,SC _ _ _ _⟩) (fun v m=>hv v m) fun out h' n' o1 o2 o3 o4=>?_
 .match vs,hi,h2 with
  | [],_,h2=>simp at h2
  | [_],_,h2=>simp at h2
  |v₁::v₂::rest,hi,_ =>
   rw[keyKind_ints hi];exact wpAny_pure q
 .have ho:∀v∈out,∃a t,v = .int a t:=fun v m=>hv v (o1.mem_iff.mp m)
  have e:out.map intOf=nQ ns:=by
   refine Ks (by rw[en];exact o1.map _) ?_
   rw[Wt];refine o2.imp_of_mem fun {x y} mx my h=>?_
   obtain⟨a,t,rfl⟩:=ho x mx;obtain⟨b,u,rfl⟩:=ho y my;have h':¬ b<a:=of_decide_eq_false h;show a<=b;lia
  have hp:H (s.heap.objs.size+1)=none:=I.hok.fresh (WC _);refine⟨.ref (s.heap.objs.size+1),_,I.laid (t':=s.toks) o3 (WC _) (show cx X.prog X.w _ h' _ (.lst ((nQ ns).map V.int)) from ⟨?_,out,n',?_,o4⟩),rfl,q _ hp⟩
  .rw [lMq,(qV ns).length_eq];exact hz
  .rw [←e];exact vals_ints ho
theorem pI(hu:X.A.units+64<cLine):eG X (.builtin "sorted") (fun xs H Q=>∃(a:Addr) (ps:List Addr) (rs:List (List Int)),xs=[.ref a]/\dJ X.K H a (ps.map V.ref)/\dq H ps rs /\
  ∀p qs,H p=none->qs.Perm ps->dq (bW H p (.lst (qs.map V.ref))) qs (mw rs)->Q (.ref p) (bW H p (.lst (qs.map V.ref)))):=by
 intro ae s σ H xs us Q I r h;obtain⟨a,ps,rs,rfl,hS,hE,q⟩:=h;obtain⟨u,rfl,ru⟩:=uz r;cases ru;obtain⟨its,rv,hl,hz⟩:=I.list hS;have ei:=qO rv;subst ei;have hrow:∀p∈ps,∃vs:List Value,PlainL s.heap p vs.toArray/\IntsAre vs (lX H p):=fun p hp=>by
  obtain⟨its,rv,pl,_⟩:=I.list (dJ.of (hE.fn_row hp));exact⟨its,pl,oO rv⟩
 have keepL:∀(s':Shared),(∀b o,s.heap.get? b=some o->s'.heap.get? b=some o)->∀p∈ps,∃vs:List Value,PlainL s'.heap p vs.toArray/\IntsAre vs (lX H p):=fun s' k p hp=>by
  obtain⟨vs,⟨o,n,ho,rest⟩,hi⟩:=hrow p hp;exact⟨vs,⟨o,n,k _ _ ho,rest⟩,hi⟩
 refine MrS.vy (Pk:=fun x=>∃p,x.1 = .ref p/\p∈ps) (lt:=Uz (lX H)) hl.isList (by simpa using hz) (fun s' k=>⟨fun h2 Q q=>?_,T3 (by show X.A.units+1+1<cLine;lia) (keepL s' k)⟩) (fun v m=>?_) fun out h' n' o1 o2 o3 o4=>?_
 .refine Lj (T := "list") h2 (fun v hv=>?_) (by rfl) (by rfl) q
  obtain⟨p,hp,rfl⟩:=mMq.mp hv;obtain⟨vs,pl,_⟩:=keepL s' k p hp;intro A Q E s2 k2 q2;obtain⟨o,ho,hc,_⟩:=pl.isList;exact wpAny_typeOf (T := "list") ⟨o,k2 _ _ ho,hc⟩ q2
 .obtain ⟨p,hp,rfl⟩:=mMq.mp m;exact⟨p,rfl,hp⟩
 .have ho:∀v∈out,∃p∈ps,v = .ref p:=fun v m=>by
   obtain⟨p,hp,rfl⟩:=mMq.mp (o1.mem_iff.mp m);exact⟨p,hp,rfl⟩
  have eo:out=(out.map mS).map Vw:=by
   rw[mPq];have e:=mCq (l:=out) (f:=id) (g:=Vw∘mS) fun v hv=>by
    obtain⟨p,_,rfl⟩:=ho v hv;rfl
   rw[←e,Zv]
  have hq:(out.map mS).Perm ps:=by
   have:=o1.map mS;rw[mPq,show mS∘Vw=id from rfl,Zv]at this
   exact this
  have hp:H (s.heap.objs.size+1)=none:=I.hok.fresh (WC _);generalize out.map mS=qs at eo hq;obtain⟨ts,e1,e2,e3⟩:=hE.perm hq;have es:ts=mw rs:=by
   refine IJ e2 ?_;rw[e3,Wt];rw[eo,Wt]at o2;exact o2
  refine⟨.ref (s.heap.objs.size+1),_,I.laid (t':=s.toks) o3 (WC _) (show cx X.prog X.w _ h' _ (.lst (qs.map V.ref)) from ⟨?_,out,n',?_,o4⟩),rfl,q _ qs hp hq (by rw[←es];exact e1.same (cX hp))⟩
  .rw [lMq,hq.length_eq];simpa using hz
  .rw [eo];exact wD qs
noncomputable def jN(r:List Int):PyData:=.list (r.map PyData.int)
def qg(rs:List (List Int)):PyData:=.list (rs.map jN)
theorem EK{ae:List (Addr×Obj)}{σ:St}{H:Hp}{s:Shared}{p:Addr}{r:List Int}(I:Inv X ae σ H s) (h:H p=some (.lst (r.map V.int))):Reads s.heap (.ref p) (jN r) [p]:=by
 obtain⟨vs,hl,hi,_⟩:=mP I (dJ.of h);exact W.reads_of_ints hl hi
theorem rY:∀rs:List (List Int),PyData.canLayAll0 (rs.map jN)=true
 | []=>by simp[PyData.canLayAll0]
 |r::rs=>by simp[PyData.canLayAll0,jN,PyData.canLay0,W.canLayAll0_ints r,rY rs]
theorem tU:∀rs:List (List Int),PyData.depthAll (rs.map jN)<=3
 | []=>by simp[PyData.depthAll]
 |r::rs=>by
  have h1:=tU rs;have h2:=W.depthAll_ints r;simp only[VG,PyData.depthAll,jN,PyData.depth];lia
theorem rW(rs:List (List Int)):SeqAt.shaped (qg rs)=true:=by
 have h1:=tU rs;have h2:PyData.depth (qg rs)<=64:=by simp only[qg,PyData.depth];lia
 show (PyData.canLay0 (qg rs) && decide (PyData.depth (qg rs)<=64))=true;rw[WZ];exact⟨by simp only[qg,PyData.canLay0];exact rY rs,decide_eq_true h2⟩
theorem uo:∀rs ts:List (List Int),SeqAt.noMixAll (rs.map jN) (ts.map jN)=true
 | [],[]=>by simp[SeqAt.noMixAll]
 | [],_::_=>by simp[SeqAt.noMixAll]
 |_::_,[]=>by simp[SeqAt.noMixAll]
 |r::rs,t::ts=>by simp[SeqAt.noMixAll,jN,SeqAt.noMix,W.noMix_ints r t,uo rs ts]
theorem wt:∀rs ts:List (List Int),PySem.Spec.sameAll (rs.map jN) (ts.map jN)=decide (rs=ts)
 | [],[]=>by simp[PySem.Spec.sameAll]
 | [],_::_=>by simp[PySem.Spec.sameAll]
 |_::_,[]=>by simp[PySem.Spec.sameAll]
 |r::rs,t::ts=>by
  simp only[VG,PySem.Spec.sameAll,jN,PySem.Spec.same,W.same_ints r t];rw[wt rs ts]
  by_cases h:r=t <;> simp[h]
def Gz:V->List V->Hp->VK->Prop:=fun x vs H Q=>∃(a b:Addr) (ps:List Addr) (rs:List (List Int)) (r:List Int),x = .ref a/\vs=[.ref b]/\H a=some (.lst (ps.map V.ref))/\dq H ps rs/\H b=some (.lst (r.map V.int))/\b∉ps/\Q (.int (rs.countP (·=r):Nat)) H
theorem G7(hu:X.A.units+65<cLine):Qu X "list.count" Gz:=by
 intro ae s σ H x xs v us Q I rx r h;obtain⟨a,b,ps,rs,row,rfl,rfl,h1,e1,h2,nb,q⟩:=h;cases rx;obtain⟨u,rfl,ru⟩:=uz r;cases ru;obtain⟨its,rv,⟨o,n,ho,hc,hd0,hd⟩,hz⟩:=I.list (dJ.of h1);have ei:=qO rv;subst ei;obtain⟨cls,dd,data,sl⟩:=o;simp only at hc hd0 hd;subst hc hd0 hd;have hr:=EK I h2;refine call_meets YD ⟨_,ho,rfl⟩ PySem.F.entry_list_count (PySem.F.args_list_count_2 _ _)
  (SeqAt.list_countAt a (ps.map Vw).toArray n none sl (.ref b) (fun y=>decide (lX H (mS y)=row))) ⟨ho,fun y hy=>?_,?_⟩
 .obtain ⟨p,hp,rfl⟩:=mMq.mp (show y∈ps.map Vw by simpa using hy)
  refine SeqAt.EqAt.of_refs (fun e=>nb (e ▸ hp)) fun prog w E Q hq=>?_
  obtain⟨vs,hl,hi,_⟩:=mP I (dJ.of (e1.fn_row hp));obtain⟨ws,hl2,hi2,_⟩:=mP I (dJ.of h2);exact W.eq_intsK (prog:=prog) (w:=w) (A:=X.A.in1) hl hi hl2 hi2 (by show X.A.units+1+64<cLine;lia) hq
 .refine ⟨.int _,H,I.tok _,⟨_,rfl⟩,?_⟩;have e:(ps.map Vw).toArray.toList.countP (fun y=>decide (lX H (mS y)=row))=rs.countP (·=row):=by
   rw[List.toList_toArray,e1.fn,ZA,ZA];rfl
  rw[e];exact q
end
end Mr
namespace Mr
open PySem L2
structure Bt (mg:Str->Option Value):Prop where
 len:mg "len" = none
 min:mg "min" = none
 max:mg "max" = none
 abs:mg "abs" = none
 all:mg "all" = none
 sorted:mg "sorted" = none
 isi:mg "isinstance" = none
 list:mg "list" = none
 int:mg "int" = none
 bool:mg "bool" = none
 str:mg "str" = none
 dict:mg "dict" = none
 zip:mg "zip" = none
 enum:mg "enumerate" = none
 range:mg "range" = none
 reversed:mg "reversed" = none
structure Fn (P:Program) (w:World) (K:W.Frag) (mg:Str->Option Value) (base:Heap) (k:Nat) (x:Str) (st:Stmt) (ps:List Str) (sp:Sp) (f:Addr) (fd:FuncData):Prop where
 D:fU K mg x st ps f fd
 ok:jx P w K mg base Fx k f fd ps sp
theorem dX.units65{k:Nat}{A:Around}(r:dX k A):A.units+65<cLine:=by have:=r.un;lia
section
variable {X:Cx}{k:Nat}{f:Addr}{fd:FuncData}{ps:List Str}{sp:Sp}{x:Str}{p pos:Pos}{e:Expr}{es:List Expr}{t:TA}{st:Stmt}
theorem bQ(G:Fn X.prog X.w X.K X.mg X.base k x st ps sp f fd) (hr:dX k X.A) (ha:PA X (e::es) t) (hg:Gl X x:=by rfl) (hdb:(x == ("__debug__" : Str))=false:=by decide)
  (he:starEach (e::es) X.env=(false,eval e X.env)::starEach es X.env:=by rfl) (hpl:(backTo pos (starEach es X.env)).any (·.1)=false:=by rfl) :
  PE X (.Call (.Name x p) (e::es) [] pos) (jR sp [] E0 t):=Cv G.ok hr hg G.D.m G.D.F.kp G.D.b .nil Da ha hdb he hpl
end
section
variable (K:W.Frag)
noncomputable def Dc:Sp:=fun vs H Q _=>∃(a:Addr) (ns:List Int),vs=[.ref a]/\dJ K H a (ns.map V.int)/\ns.length<=63/\∀H',Q (.bl true) H'
end
theorem gk{α:Type}{l:List α}{i:Nat}{x:α}(h:l[i]?=some x):l.take (i+1)=l.take i++[x]:=by
 rw[W8,h];rfl
end Mr
namespace Xe
open PySem PySem.Spec PySem.W PyProof.Rows L2 Mr
abbrev St:=L2.St
abbrev Ov(K:Frag) (C:Addr):Bool:=findIn K (.ref C) "__setattr__" == some (some (.builtin "object.__setattr__")) && findIn K (.ref C) "__getattribute__" == some (some (.builtin "BaseException.__getattribute__")) &&
 findIn K (.ref C) "__getattr__" == some none && findIn K (.ref C) "__class__" == some (some (.builtin "object.__class__"))
def kc(K:Frag) (c:Str) (C:Addr) (bm:List Value):Bool:=match K.lookup C with
 |some ⟨.type "type", _,.cls cd,sl⟩=>(match sl.toList with
  | [_,_,_,_,some (.builtin n),_]=>cd.name == c && cd.mro == .ref C::bm && n == "ValueError.__new__" && !cd.hasDel && cd.hasDict && tailIn K jD bm
  |_=>false)
 |_=>false
structure XC (K:Frag) (c:Str) (C:Addr) (bm:List Value):Prop where
 obj:∃N q bs sn sub ab col dd k0 k1 k2 k3 k5,K.lookup C=some (excClassObj c q C N bs bm true sn sub ab col dd k0 k1 k2 k3 k5 "ValueError.__new__")
 cls:∃cd,clsIn K C=some cd/\cd.mro = .ref C::bm/\cd.name=c
 tail:∀h:Heap,K.In h->OwnTail h jD bm
theorem jo{K:Frag}{c:Str}{C:Addr}{bm:List Value}(e:kc K c C bm=true):XC K c C bm:=by
 unfold kc at e;split at e
 .rename_i dd cd sl ho;split at e
  .rename_i k0 k1 k2 k3 n k5 hs;simp only[WZ,beq_iff_eq,Zn]at e;obtain⟨⟨⟨⟨⟨e1,e2⟩,e3⟩,hdel⟩,hdc⟩,ht⟩:=e;have hc:clsIn K C=some cd:=by unfold clsIn;rw[ho]
   obtain⟨nm,bs,mro,ns,qn,hd,sn,sub,ab,col,del⟩:=cd;dsimp only at e1 e2 hdel hdc;subst e1 e2 e3 hdel hdc;have hsl:sl=#[k0,k1,k2,k3,some (.builtin "ValueError.__new__"),k5]:=by
    obtain⟨l⟩:=sl;simp only at hs;rw[hs]
   subst hsl;exact⟨⟨ns,qn,bs,sn,sub,ab,col,dd,k0,k1,k2,k3,k5,ho⟩,⟨_,hc,rfl,rfl⟩,fun h X=>tail_of_in X ht⟩
  .cases e
 .cases e
theorem CQ{K:Frag}{c c':Str}{C:Addr}{bm bm':List Value}(e:kc K c C bm=true) (e':kc K c' C bm'=true):c=c'/\bm=bm':=by
 obtain⟨_,⟨cd,h1,h2,h3⟩,_⟩:=jo e;obtain⟨_,⟨cd',h1',h2',h3'⟩,_⟩:=jo e';rw[h1]at h1';cases h1';rw[h2]at h2';exact⟨h3.symm.trans h3',by injection h2'⟩
structure lF (K:Frag) (c:Str) (C M:Addr):Prop where
 nm:nsIn K mainGlobals c=some (some (.ref C))
 nmM:nsIn K mainGlobals "MapError" = some (some (.ref M))
 xc:kc K c C (.ref M::jD)=true
 xm:kc K "MapError" M jD=true
 lk:Ov K C=true
def MM(K:Frag) (c:Str) (C:Addr):Prop:=nsIn K mainGlobals c=some (some (.ref C))/\((∃M,lF K c C M)∨(c = "MapError" /\ kc K "MapError" C jD=true))
theorem lF.one{K:Frag}{c:Str}{C M C' M':Addr}(a:lF K c C M) (b:lF K c C' M'):C=C'/\M=M':=by
 have e1:=a.nm.symm.trans b.nm;have e2:=a.nmM.symm.trans b.nmM;simp at e1 e2;exact⟨e1,e2⟩
structure lF.Lks (K:Frag) (M:Model) (h:Heap) (C:Addr):Prop where
 sa:Lk M h (typeLookup (.ref C) "__setattr__") (some (.builtin "object.__setattr__"))
 ga:Lk M h (typeLookup (.ref C) "__getattribute__") (some (.builtin "BaseException.__getattribute__"))
 gt:Lk M h (typeLookup (.ref C) "__getattr__") none
 cl:Lk M h (typeLookup (.ref C) "__class__") (some (.builtin "object.__class__"))
theorem lF.lks{K:Frag}{c:Str}{C M:Addr}{Mo:Model}{h:Heap}(r:lF K c C M) (X:K.In h):lF.Lks K Mo h C:=by
 have e:=r.lk;simp only[Ov,WZ,beq_iff_eq]at e;obtain⟨⟨⟨e1,e2⟩,e3⟩,e4⟩:=e;exact⟨looks_findIn X e1,looks_findIn X e2,looks_findIn X e3,looks_findIn X e4⟩
def uv(e C:Addr) (od:Option Addr):HO:=.ext fun h=>∃o vs,h.get? e=some o/\o.cls = .ref C/\o.dict=od/\o.data = .fields vs
def BQ(e C:Addr) (od:Option Addr):HO:=.ext fun h=>∃t,h.get? e=some (mG C t od)
section
variable {P:Program}{w:World}{H:Hp}{h:Heap}{e C:Addr}{od:Option Addr}
theorem Ol{o:Obj}{vs:Array Value}(h1:h.get? e=some o) (h2:o.cls = .ref C) (h3:o.dict=od) (h4:o.data = .fields vs):cx P w H h e (uv e C od) :=
 ⟨⟨o,vs,h1,h2,h3,h4⟩,⟨o,h1⟩,fun g1 g2 ⟨o',vs',a,b⟩ k=>⟨o',vs',k _ a,b⟩⟩
theorem yy{t:Addr}(h1:h.get? e=some (mG C t od)):cx P w H h e (BQ e C od):=⟨⟨t,h1⟩,⟨_,h1⟩,fun g1 g2 ⟨t',a⟩ k=>⟨t',k _ a⟩⟩
theorem yn(ok:mC P w H h) (q:H e=some (BQ e C od)):∃t,h.get? e=some (mG C t od):=(show cx P w H h e (BQ e C od) from ok e _ q).1
theorem pZ(ok:mC P w H h) (q:H e=some (uv e C od)):∃o vs,h.get? e=some o/\o.cls = .ref C/\o.dict=od/\o.data = .fields vs:=(show cx P w H h e (uv e C od) from ok e _ q).1
theorem uU{o:HO}(q:H e=some o):bW H e o=H:=by
 funext b
 by_cases hb:b=e
 .subst hb;rw[aL,q]
 .rw [ax hb]
end
section
variable {X:Cx}{ae:List (Addr×Obj)}{σ:St}{H:Hp}{s:Shared}
def Ui(K:Frag) (t:TA):TE:=fun σ H Q=>t σ H fun vs H1=>∃e v c C M,vs=[.ref e,v]/\H1 e=some (BQ e C none)/\lF K c C M/\Q .non H1
theorem Q8{M:Addr}{x:Str}{p ap pos:Pos}{a1 a2:Expr}{t:TA}{pl:Sem Bool}(hg:Gl X x) (hm:X.mg x=some (.ref M)) (hr:readsIn X.K M (.type "type")=true)
  (hs:specialIn X.K (.ref M) "__getattribute__" = some (some (.builtin "type.__getattribute__"))) (hf:findCls X.K (.ref M) (.type "type") "__init__" = some (.val (.builtin "ValueError.__init__")))
  (ha:PA X [a1,a2] t) (hdb:(x == ("__debug__" : Str))=false:=by decide)
  (he:starEach [a1,a2] X.env=(false,eval a1 X.env)::starEach [a2] X.env:=by rfl) (hpl:(backTo pos (starEach [a2] X.env)).any (·.1)=false:=by rfl)
  (ht:eval (.Call (.Attribute (.Name x p) "__init__" ap) [a1,a2] [] pos) X.env=(do
   let ov ←eval (.Name x p) X.env
   standAt ap.atName
   let (f,first) ←holding [ov] (getMethod ov "__init__" pl)
   callWith pos f first (backTo pos (starEach [a1,a2] X.env)) (backToKw pos (keywordEach [] X.env))):=by rfl):PE X (.Call (.Attribute (.Name x p) "__init__" ap) [a1,a2] [] pos) (Ui X.K t):=by
 intro ae s σ H Q I h;refine W.methodCall_KW (pl:=pl) (jT I hg hm ?_ hdb) ht;refine method_cls I.kIn hs (cls_value I.kIn hr hf (by decide +kernel) ?_)
 refine Yb (dB (ha pos ae _ σ H _ (I.tok _) h) fun us s1 ⟨vs,H1,I1,r1,e,v,c,C,Mc,ev,he1,rf,q⟩=>?_) he hpl
 subst ev;cases r1 with
 |cons r2 r3 =>
  cases r3 with
  |cons r4 r5 =>
   cases r5;cases r2;obtain⟨t0,hx⟩:=yn I1.hok he1;obtain⟨⟨N,q',bs,sn,sub,ab,col,dd,k0,k1,k2,k3,k5,hC⟩,_,T⟩:=jo rf.xc;obtain⟨hh,g,d,tk,os⟩:=s1;refine Er (T _ I1.kIn) (I1.kIn _ _ hC) hx (fun h' t1 hk hx'=>?_) (by rw[sizeLine_eq];simp)
   refine⟨.non,H1,?_,rfl,q⟩;have J:=I1.write (x:=e) (e:=e) (o:=BQ e C none) (t':=tk) (by rw[he1];trivial) (.inl rfl) (fun b u hb hu=>hk b u hb hu) ⟨_,hx'⟩ (yy hx')
   rw[uU he1]at J;exact J
def Us(K:Frag) (ta tv:TE) (f:Str):TS:=fun D σ H=>tv σ H fun y H1=>ta σ H1 fun x H2=>∃e c C M,x = .ref e/\H2 e=some (BQ e C none)/\lF K c C M/\findIn K (.ref C) f=some none /\
 ∀dx,H2 dx=none->dx≠e->D.nx σ (bW (bW H2 dx (.xd [(f,y)])) e (BQ e C (some dx)))
theorem Qz{o value:Expr}{f:Str}{pos pos':Pos}{ta tv:TE}(ha:PE X o ta) (hv:PE X value tv) (hs:swapsWith value (some (.Attribute o f pos')) pos.line X.env=pure false):PS X (.Assign [.Attribute o f pos'] value pos) (Us X.K ta tv f):=by
 intro ae s σ H D I h;refine plainObj_wpAny_Assign_Attribute (dB (hv ae s σ H _ I h) fun u s1 ⟨y,H1,I1,ry,q⟩=>dB (ha ae s1 σ H1 _ I1 q) fun ov s2 ⟨x,H2,I2,rx,e,c,C,M,ex,he,rf,nf,q2⟩=>?_) hs
 subst ex;obtain rfl:ov=Vw e:=rx;obtain⟨t0,hx⟩:=yn I2.hok he;obtain⟨⟨N,q',bs,sn,sub,ab,col,dd,k0,k1,k2,k3,k5,hC⟩,_,T⟩:=jo rf.xc;have L:=rf.lks (Mo:=model X.prog X.w) I2.kIn;have LN:=looks_findIn (M:=model X.prog X.w) I2.kIn nf;obtain⟨hh,g,d,tk,os⟩:=s2;refine EF (T _ I2.kIn) (I2.kIn _ _ hC) hx L.sa LN fun h' dx tk' n1 n2 hx' hns hk=>?_
 have nd:H2 dx=none:=I2.hok.fresh n1;refine⟨σ,_,?_,q2 dx nd n2⟩;have ne:∀b ob,H2 b=none->hh.get? b=some ob->b≠e:=fun b ob z _=>fun q=>by rw[q,he]at z;cases z
 have nx:∀b ob,hh.get? b=some ob->b≠dx:=fun b ob z=>VO (VN (Vy z) n1)
 have nt:∀b ob,H2 b=some ob->b≠dx:=fun b ob z q=>by rw[q,nd]at z;cases z
 have nE:∀(b:Addr) (ob:HO),H2 b=some ob->(∀φ,ob ≠ .ext φ)->b≠e:=fun b ob z k q=>by rw[q,he]at z;cases z;exact k _ rfl
 refine I2.un (t':=tk') ⟨fun b ob z n _ _=>hk b ob (ne b ob n z) z,fun b ob z n _ _=>⟨ob.slots,hk b ob (ne b ob n z) z⟩,fun b ob z n _=>by rw[ax (ne b ob n z),ax (nx b ob z)];exact n,fun b ob z _=>?_,
  fun b xs z=>by rw[ax (nE b _ z fun φ w=>by cases w),ax (nt b _ z)];exact z,fun b o' u' z=>by rw[ax (nE b _ z fun φ w=>by cases w),ax (nt b _ z)];exact z,
  fun b ps z=>⟨#[],by rw[ax (nE b _ z fun φ w=>by cases w),ax (nt b _ z),z];simp⟩⟩ fun b u z=>?_
 .by_cases hb:b=e
  .subst hb;exact⟨_,hx'⟩
  .exact ⟨ob,hk b ob hb z⟩
 .by_cases hb:b=e
  .subst hb;rw[aL]at z;cases z;exact yy hx'
  .rw [ax hb]at z
   by_cases hb2:b=dx
   .subst hb2;rw[aL]at z;cases z;refine⟨_,hns,fun g=>?_⟩
    by_cases hg:g=f
    .subst hg;simpa [WB,mq] using ry
    .have:(g == f)=false:=by simpa using hg
     simp[WB,this,hg,mq]
   .rw [ax hb2]at z;refine(I2.hok b u z).stay (fun c' v' hc r=>hk c' v' ?_ r) (fun c' r=>?_) fun c' xs r=>?_
    .rcases hc with rfl|hc
     .exact hb
     .exact nE c' _ hc fun φ w=>by cases w
    .rw [ax (nE c' _ r fun φ w=>by cases w),ax (nt c' _ r)];exact r
    .rw [ax (nE c' _ r fun φ w=>by cases w),ax (nt c' _ r)];exact r
end
def Ia(K:Frag) (c fld:Str):Sp:=fun vs H Q _=>∃e v C M,vs=[.ref e,v]/\H e=some (BQ e C none)/\lF K c C M/\findIn K (.ref C) fld=some none /\
 ∀dx,H dx=none->dx≠e->Q .non (bW (bW H dx (.xd [(fld,v)])) e (BQ e C (some dx)))
def QZ(K:Frag) (c fld:Str) (t:TA):TE:=fun σ H Q=>t σ H fun vs H1=>∃v C M,vs=[v]/\lF K c C M/\findIn K (.ref C) fld=some none /\
 ∀e dx,H1 e=none->H1 dx=none->dx≠e->Q (.ref e) (bW (bW H1 dx (.xd [(fld,v)])) e (BQ e C (some dx)))
structure Tb (P:Program) (w:World) (K:Frag) (mg:Str->Option Value) (base:Heap) (k:Nat) (c fld prm:Str) (C M f:Addr) (fd:FuncData):Prop where
 rf:lF K c C M
 ini:findIn K (.ref C) "__init__" = some (some (.ref f))
 fn:isFn K (.ref f)=true
 kp:keepIn K (.ref C)=true
 nf:findIn K (.ref C) fld=some none
 m:mg c=some (.ref C)
 b:dY K fd ["self", prm] []
 ok:jx P w K mg base Fx k f fd ["self", prm] (Ia K c fld)
theorem J7{H:Hp}{e dx:Addr}{a b c:HO}:bW (bW (bW H e a) dx b) e c=bW (bW H dx b) e c:=by
 funext x;unfold bW;split
 .rfl
 .rename_i h;split
  .rfl
  .first|rfl|rw[if_neg h]
section
variable {X:Cx}{k:Nat}{c fld prm:Str}{C M f:Addr}{fd:FuncData}{p pos:Pos}{a:Expr}{t:TA}
theorem LA{ae:List (Addr×Obj)}{σ:St}{H1:Hp}{s1:Shared}{Q:VK}{u:Value}{v:V}(G:Tb X.prog X.w X.K X.mg X.base k c fld prm C M f fd) (hr:dX (k+1) X.A) (I1:Inv X ae σ H1 s1) (ru:bO v u)
  (q:∀e dx,H1 e=none->H1 dx=none->dx≠e->Q (.ref e) (bW (bW H1 dx (.xd [(fld,v)])) e (BQ e C (some dx)))):wpAny (model X.prog X.w) X.A (call (.ref C) [u]) (EP X ae σ Q) X.xe s1:=by
 obtain⟨⟨N,q',bs,sn,sub,ab,col,dd,k0,k1,k2,k3,k5,hC⟩,_,T⟩:=jo G.rf.xc;obtain⟨hh,g,d,tk,os⟩:=s1;refine DL (T _ I1.kIn) (I1.kIn _ _ hC) (looks_findIn I1.kIn G.ini) (fun self=>bind_fn I1.kIn self (beq_iff_eq.mp G.fn)) (fun h' e hm hs=>?_) (by rw[sizeLine_eq];simp)
 have nE:H1 e=none:=I1.hok.fresh hs;obtain⟨t0,hx,_,_⟩:=hm.there;have I2:Inv X ae σ (bW H1 e (BQ e C none)) ⟨h',g,d,tk,os⟩:=I1.laid (t':=tk) hm.keeps hs (yy hx);have hsp:Ia X.K c fld [.ref e,v] (bW H1 e (BQ e C none)) (fun v' H2=>v' = .non/\Q (.ref e) H2) E0:=by
  refine⟨e,v,C,M,rfl,aL,G.rf,G.nf,fun dx nd ne=>⟨rfl,?_⟩⟩
  rw[J7];rw[ax ne]at nd;exact q e dx nE nd ne
 refine wpAny_call (codeAny_mono (G.ok.run _ X.stack _ _ ⟨[.ref e,u],[]⟩ [.ref e,u] [.ref e,v] _ E0 (hr.make C [u] []) (I2.env0.make C [u] []) (G.b _ [.ref e,u] I2.kIn rfl) (.cons rfl (.cons ru .nil)) hsp) fun r s' hq'=>?_)
 cases r with
 |error e=>exact False.elim hq'
 |ok fl =>
  cases fl with
  |ret u =>
   obtain⟨v',H',I3,rv,ev,q3⟩:=I2.after hq';subst ev;exact⟨rv,⟨V.ref e,H',I3,rfl,q3⟩⟩
  |next=>exact False.elim hq'
  |brk=>exact False.elim hq'
  |cont=>exact False.elim hq'
theorem Pu(G:Tb X.prog X.w X.K X.mg X.base k c fld prm C M f fd) (hr:dX (k+1) X.A) (ha:PA X [a] t) (hg:Gl X c:=by rfl) (hdb:(c == ("__debug__" : Str))=false:=by decide)
  (he:starEach [a] X.env=(false,eval a X.env)::starEach [] X.env:=by rfl) (hpl:(backTo pos (starEach [] X.env)).any (·.1)=false:=by rfl) :
  PE X (.Call (.Name c p) [a] [] pos) (QZ X.K c fld t):=by
 intro ae s σ H Q I h;refine wpAny_Call_Name_kw (jT I hg G.m ?_ hdb);refine W.callWith_K (h₀:=X.base) I.ok.mod.kin G.kp (dB (ha pos ae s σ H _ I h) fun us s1 ⟨vs,H1,I1,r,v,C',M',ev,rf',nf',q⟩=>⟨I1.kIn,?_⟩) he hpl
 obtain⟨rfl,rfl⟩:=G.rf.one rf';subst ev;cases r with
 |cons ru r2 =>
  cases r2;exact LA G hr I1 ru q
end
def JQ(P:Program) (w:World):zU:=fun outer H s E ev s'=>∃e C od H' o vs,ev = .ref e/\s'.os=s.os/\AllBare s'.gens/\Un (BS outer) [] H H' s.heap s'.heap/\mC P w H' s'.heap/\H' e=some (uv e C od) /\
 s'.heap.get? e=some o/\o.data = .fields vs/\wy s'.heap vs/\E (.ref e) od H'
def GV(X:Cx) (E:XK):Prop:=∀(ae:List (Addr×Obj)) (σ:St) (H:Hp) (s:Shared) (e C:Addr) (od:Option Addr) (o:Obj) (vs:Array Value) (φ:Heap->Prop),Inv X ae σ H s->H e=some (.ext φ)->s.heap.get? e=some o ->
 o.cls = .ref C->o.dict=od->o.data = .fields vs->wy s.heap vs->E (.ref e) od (bW H e (uv e C od))->X.xe (.ref e) s
section
variable {P:Program}{w:World}{H:Hp}{h h':Heap}{e C T:Addr}{od:Option Addr}{o:Obj}{vs:Array Value}{fs:List Addr}{φ:Heap->Prop}
theorem zg(N:xf fs e o T h h') (hE:H e=some (.ext φ)):Un fs [] H (bW H e (uv e C od)) h h':=by
 have ne:∀b,H b=none->b≠e:=fun b z q=>by rw[q,hE]at z;cases z
 have nE:∀(b:Addr) (ob:HO),H b=some ob->(∀φ,ob ≠ .ext φ)->b≠e:=fun b ob z k q=>by rw[q,hE]at z;cases z;exact k _ rfl
 refine⟨fun b ob z n hb _=>N.keep b ob (ne b n) hb z,fun b ob z n _ _=>N.slot b ob (ne b n) z,fun b ob z n _=>by rw[ax (ne b n)];exact n,fun b ob z _=>?_,
  fun b xs z=>by rw[ax (nE b _ z fun φ w=>by cases w)];exact z,fun b o' u' z=>by rw[ax (nE b _ z fun φ w=>by cases w)];exact z,
  fun b ps z=>⟨#[],by rw[ax (nE b _ z fun φ w=>by cases w),z];simp⟩⟩
 by_cases hb:b=e
 .subst hb;exact⟨_,N.exc⟩
 .obtain ⟨sl,q⟩:=N.slot b ob hb z;exact⟨_,q⟩
theorem AX(N:xf fs e o T h h') (hE:H e=some (.ext φ)) (ok:mC P w H h) (hf:∀b∈fs,H b=none) (hc:o.cls = .ref C) (hd:o.dict=od) (hdat:o.data = .fields vs):mC P w (bW H e (uv e C od)) h':=by
 have nE:∀(b:Addr) (ob:HO),H b=some ob->(∀φ,ob ≠ .ext φ)->b≠e:=fun b ob z k q=>by rw[q,hE]at z;cases z;exact k _ rfl
 have nf:∀b ob,H b=some ob->b∉fs:=fun b ob z q=>by rw[hf b q]at z;cases z
 intro b u z
 by_cases hb:b=e
 .subst hb;rw[aL]at z;cases z;refine Ol N.exc ?_ ?_ (Obj.data_mapFields hdat _)
  .rw [Obj.cls_mapFields];exact hc
  .obtain ⟨_,_,dt,_⟩:=o;cases dt <;> exact hd
 .rw [ax hb]at z;refine(ok b u z).stay (fun c' v' hc r=>N.keep c' v' ?_ ?_ r) (fun c' r=>?_) fun c' xs r=>?_
  .rcases hc with rfl|hc
   .exact hb
   .exact nE c' _ hc fun φ w=>by cases w
  .rcases hc with rfl|hc
   .exact nf _ _ z
   .exact nf _ _ hc
  .rw [ax (nE c' _ r fun φ w=>by cases w)];exact r
  .rw [ax (nE c' _ r fun φ w=>by cases w)];exact r
theorem rO(N:xf fs e o T h h') (hdat:o.data = .fields vs) (hz:1<vs.size):∃o' vs',h'.get? e=some o'/\o'.data = .fields vs'/\vs'[1]?=some (.ref T)/\wy h' vs':=by
 obtain⟨oT,ts,h1,h2,h3⟩:=N.ent;have q:(vs.setIfInBounds 1 (Vw T))[1]?=some (.ref T):=by simp[hz]
 exact⟨_,_,N.exc,Obj.data_mapFields hdat _,q,.inr ⟨T,oT,ts,q,h1,h2,h3⟩⟩
theorem uG(q:wy h vs):1<vs.size:=by
 rcases q with q|⟨_,_,_,q,_⟩ <;> exact(VQ.mp q).1
end
section
variable {P:Program}{w:World}{K:Frag}{mg:Str->Option Value}{base:Heap}{N:List Str}{qual:Str}{scope:Scope}{f:Addr}{cd:Value}{A:Around}{outer:List Env}{s:Shared}{H:Hp}{E:XK}
theorem nI:GV (xK (JQ P w) P w K mg base N qual scope f cd A outer s H E) E:=by
 intro ae σ H1 s1 e C od o vs φ I hE ho hc hd hdat hq he;show wpAny (model P w) (A.deeper (envOfC qual scope s.heap.objs.size f cd)) (leaving (envOfC qual scope s.heap.objs.size f cd) (.ref e)) _ _ s1;have fr:(A.deeper (envOfC qual scope s.heap.objs.size f cd)).frames=some (envOfC qual scope s.heap.objs.size f cd::outer):=I.ok.frames;have st:s1.heap.FunFrames base (envOfC qual scope s.heap.objs.size f cd::outer):=I.stack;refine RK fr st rfl ho hdat hq fun h' T Nt=>?_
 have free:∀b∈(envOfC qual scope s.heap.objs.size f cd::outer).filterMap (·.frame),H1 b=none:=I.stkFree;have un:=zg (C:=C) (od:=od) Nt hE;have ok:=AX (P:=P) (w:=w) Nt hE I.hok free hc hd hdat;obtain⟨o',vs',g1,g2,g3,g4⟩:=rO Nt hdat (uG hq);have B:Un (BS outer) [] H H1 s.heap s1.heap:=I.base;have nL:∀b ob,s.heap.get? b=some ob->b∉BS outer->b∉(envOfC qual scope s.heap.objs.size f cd::outer).filterMap (·.frame):=fun b ob z nb m=>by
  rcases VB.mp (show b∈s.heap.objs.size::BS outer from m) with q|q
  .rw [q]at z;exact absurd (Vy z) (WW _)
  .exact nb q
 refine⟨e,C,od,bW H1 e (uv e C od),o',vs',rfl,I.os,I.bare,⟨fun b ob z n hb hx=>un.keep b ob (B.keep b ob z n hb hx) (B.free b ob z n hx) (nL b ob z hb) hx,fun b ob z n hb hx=>?_,fun b ob z n hx=>?_,fun b ob z hx=>?_,fun b xs z=>un.tups b xs (B.tups b xs z),fun b o1 u1 z=>un.frzs b o1 u1 (B.frzs b o1 u1 z),fun b ps z=>?_⟩,ok,aL,g1,g2,g4,he⟩
 .obtain ⟨sl,q⟩:=B.slot b ob z n hb hx;obtain⟨sl',q'⟩:=un.any q (B.free b ob z n hx) hx;exact⟨sl',q'⟩
 .obtain ⟨o1,q⟩:=B.there b ob z hx;exact un.free b o1 q (B.free b ob z n hx) hx
 .obtain ⟨o1,q⟩:=B.there b ob z hx;exact un.there b o1 q hx
 .obtain ⟨m1,e1⟩:=B.tbls b ps z;obtain⟨m2,e2⟩:=un.tbls b _ e1;exact⟨m1++m2,by rw[e2,Zb]⟩
theorem fu:iK (JQ P w) (xK (JQ P w) P w K mg base N qual scope f cd A outer s H E) E:=by
 intro ae σ H1 s1 ev s2 I h;obtain⟨e,C,od,H',o,vs,rfl,os,bare,un,hok,hA,ho,hd,hq,hE⟩:=h;have I':=I.call' os un hok bare (fun b z=>nomatch z)
 obtain⟨o',vs',a1,a2,a3,a4⟩:=pZ hok hA;rw[ho]at a1;cases a1;exact nI ae σ H' s2 e C od o vs _ I' hA ho a2 a3 hd hq (by rw[uU hA];exact hE)
theorem okX{x:Str}{st:Stmt}{fd:FuncData}{ps:List Str}{k:Nat}{sp:Sp}(F:yU K x qual st f fd) (S:aR N ps (aj st)) (len:∀vs H Q E,sp vs H Q E->vs.length=ps.length)
  (hbody:∀(ee:Value) (A:Around) (outer:List Env) (s:Shared) (H:Hp) (vs:List V) (Q:VK) (E:XK),dX k (A.deeper (envOfC qual (aj st) s.heap.objs.size f ee))->sp vs H Q E ->
   ∃t,Au (xK (JQ P w) P w K mg base N qual (aj st) f ee A outer s H E) (aO st) t/\t { nx:=fun _ H'=>Q .non H',rt:=Q } (eQ N vs) H):jx P w K mg base (JQ P w) (k+1) f fd ps sp:=by
 obtain⟨oc,od,kV,doc,pm,an,ee,ct,osl,rfl,lk,hcd⟩:=F.ex;exact M0 lk hcd S len fun A outer s H vs Q E hr hsp=>hbody ee A outer s H vs Q E hr hsp
end
section
variable {X:Cx}{E:XK}{c:Str}{C M:Addr}{e:Expr}{te:TE}{pos:Pos}
def S7(E:XK) (C:Addr) (te:TE):TS:=fun _ σ H=>te σ H fun v H1=>∃e od,v = .ref e/\H1 e=some (BQ e C od)/\E (.ref e) od (bW H1 e (uv e C od))
theorem ur(rf:lF X.K c C M) (hl:GV X E) (hc:X.calm=true) (he:PE X e te):PS X (.Raise (some e) none pos) (S7 E C te):=by
 intro ae s σ H D I h;obtain⟨⟨N,q',bs,sn,sub,ab,col,dd,k0,k1,k2,k3,k5,hC⟩,_,T⟩:=jo rf.xc;rw[arm_exec_Raise];simp only[evalOpt,Option.map];refine wpAny_bind (wpAny_standAt (B3 (C:=C) (nm:=c) (q:=q') (N:=N) (bs:=bs) (bm:=.ref M::jD) (hdct:=true) (sn:=sn) (sub:=sub) (ab:=ab) (col:=col) (dd:=dd) (k0:=k0) (k1:=k1) (k2:=k2) (k3:=k3) (k5:=k5) (newId := "ValueError.__new__") (by rw[We,show jD.contains (Xd "BaseException")=true by decide,Xh]) (I.ok.hd hc)
  (wpAny_bind (wpAny_mono (he ae s σ H _ I h) (fun v s3 h3=>wpAny_bind (wpAny_standAt (wpAny_pure ?_))) fun _ _ x=>x))))
 obtain⟨v',H1,I1,r,ev,od,rfl,hx,hE⟩:=h3;obtain rfl:v=Vw ev:=r;obtain⟨t0,ho⟩:=yn I1.hok hx;exact⟨ev,t0,od,rfl,I1.kIn _ _ hC,ho,hl ae σ H1 s3 ev C od _ _ _ I1 hx ho rfl rfl rfl (.inl rfl) hE⟩
end
structure EW (P:Program) (w:World) (K:Frag) (mg:Str->Option Value) (base:Heap) (k:Nat) (x:Str) (st:Stmt) (ps:List Str) (sp:Sp) (f:Addr) (fd:FuncData):Prop where
 D:fU K mg x st ps f fd
 ok:jx P w K mg base (JQ P w) k f fd ps sp
noncomputable abbrev Fe(X:Cx) (e:Addr):Cx:={ X with A:=X.A.mark (some (.ref e)),calm:=false,xe:=fun _ _=>False }
section
variable {X:Cx}{ae:List (Addr×Obj)}{σ:St}{H:Hp}{s:Shared}{e:Addr}
theorem Di(I:Inv X ae σ H s):Inv (Fe X e) ae σ H s :=
 ⟨⟨I.ok.mod,I.ok.kind,I.ok.glob,I.ok.blt,I.ok.above,I.ok.inj,I.ok.has,I.ok.cab,fun z=>Zw z,I.ok.frames,I.ok.stk,I.ok.exf,I.ok.bs,I.ok.bsz,I.ok.noex,I.ok.exfs,I.ok.funs,I.ok.frf⟩,I.os,I.bare,I.base,I.loc,I.cell,I.free,I.freeC,I.pin,I.hok,I.len⟩
theorem GO(ok:X.Ok) (I:Inv (Fe X e) ae σ H s):Inv X ae σ H s:=⟨ok,I.os,I.bare,I.base,I.loc,I.cell,I.free,I.freeC,I.pin,I.hok,I.len⟩
theorem Inv.gone{i:Nat}{n:Str}{v:Option Value}{h':Heap}{t':Nat}{m:Str->Option Value}(I:Inv X ae σ H s) (hN:X.N.Nodup) (hi:X.N[i]?=some n)
  (hm:∀(j:Nat) (y:Str) (v':V),X.N[j]?=some y->σ[j]?=some (some v')->R8 X.env.scope y->∃u,bO v' u/\Rv X.env s.heap m y u)
  (hn':h'.Ns X.env.locals (fun x=>if x=n then v else m x)) (hs:XW X.env.locals s.heap h') (hn:s.heap.Ns X.env.locals m):Inv X ae (σ.set i none) H { s with heap:=h',toks:=t' }:=by
 have hiσ:i<σ.length:=by rw[I.len];exact(gSq.mp hi).1
 have cne:=I.cne;obtain⟨oL,_,_,hoL,_⟩:=id hn;refine⟨I.ok,I.os,I.bare,⟨fun b o e n hb hx=>?_,fun b o e n hb hx=>?_,I.base.free,fun b o e hx=>?_,I.base.tups,I.base.frzs,I.base.tbls⟩,⟨_,hn',fun j y v' e1 e2 e3=>?_⟩,fun y c e=>?_,I.free,I.freeC,fun p hp=>?_,fun b ob e=>?_,by simpa using I.len⟩
 .exact (hs.2 b (VO (VN (Vy e) I.ok.above))).trans (I.base.keep b o e n hb hx)
 .obtain ⟨sl,e1⟩:=I.base.slot b o e n hb hx;exact⟨sl,(hs.2 b (VO (VN (Vy e) I.ok.above))).trans e1⟩
 .obtain ⟨o',e1⟩:=I.base.there b o e hx;exact⟨o',(hs.2 b (VO (VN (Vy e) I.ok.above))).trans e1⟩
 .by_cases hj:j=i
  .subst hj;rw[VS hiσ]at e2;cases e2
  .rw [VA (Ne.symm hj)]at e2;obtain⟨u',r',q⟩:=hm j y v' e1 e2 e3;refine⟨u',r',?_⟩;rcases q with ⟨k,e⟩|⟨k,c,e,z⟩
   .refine .inl ⟨k,?_⟩;have:y≠n:=fun e=>hj (uY hN e1 (e ▸ hi))
    simp[this,e]
   .exact .inr ⟨k,c,e,z.sameBut hs (cne y c e)⟩
 .obtain ⟨w',z⟩:=I.cell y c e;exact⟨w',z.sameBut hs (cne y c e)⟩
 .obtain ⟨e,n,ne,nf,d⟩:=I.pin p hp;exact⟨(hs.2 p.1 ne).trans e,n,ne,nf,d⟩
 .refine (I.hok b ob e).stay (fun c w' hc q=>(hs.2 c ?_).trans q) (fun _ q=>q) fun _ _ q=>q
  rintro rfl;rcases hc with z|hc
  .rw [←z,I.free]at e;cases e
  .rw [I.free]at hc;cases hc
end
abbrev XH:=Addr->Addr->Option Addr->ja->St->Hp->Prop
def PH(X:Cx) (hs:List ExceptHandler) (th:XH):Prop:=∀(ae:List (Addr×Obj)) (s:Shared) (σ:St) (H:Hp) (D:ja) (e C:Addr) (od:Option Addr) (o:Obj) (vs:Array Value) (T:Addr),Inv X ae σ H s->H e=some (uv e C od) ->
 s.heap.get? e=some o->o.data = .fields vs->vs[1]?=some (.ref T)->(∃oT ts,s.heap.get? T=some oT/\oT.data = .fields ts/\ts[3]?=some .none)->th e C od D σ H ->
 wpAny (model X.prog X.w) X.A (handleBy (.ref e) X.env hs) (SP X ae D) X.xe s
def UI(K:Frag) (C':Addr) (i:Nat) (tb:TS) (rest:XH):XH:=fun e C od D σ H=>∃c M b,lF K c C M/\mroIn K C (.ref C')=some b /\
 if b=true then tb { nx:=fun σ' H'=>D.nx (σ'.set i none) H',rt:=D.rt,bk:=fun σ' H'=>D.bk (σ'.set i none) H',ct:=fun σ' H'=>D.ct (σ'.set i none) H' } (σ.set i (some (.ref e))) H else rest e C od D σ H
def Ru:XH:=fun _ _ _ _ _ _=>False
section
variable {X:Cx}{c' n:Str}{C':Addr}{bm':List Value}{np pos:Pos}{b₀:Stmt}{suite:List Stmt}{rest:List ExceptHandler}{tb:TS}{tr:XH}{i:Nat}
theorem Rl{K:Frag}{M:Model}{c:Str}{C Mp e:Addr}{b:Bool}{s:Shared}{o:Obj}(X:K.In s.heap) (rf:lF K c C Mp) (xc':kc K c' C' bm'=true) (hbase:bm'.contains (.type "BaseException")=true) (hb:mroIn K C (.ref C')=some b)
  (ho:s.heap.get? e=some o) (hc:o.cls = .ref C):Mt M e (.ref C') b s:=by
 obtain⟨⟨N,q',bs,sn,sub,ab,col,dd,k0,k1,k2,k3,k5,hC⟩,⟨cd,hcd,hm,_⟩,_⟩:=jo rf.xc;obtain⟨⟨N',q'',bs',sn',sub',ab',col',dd',k0',k1',k2',k3',k5',hC'⟩,_,_⟩:=jo xc';intro A Q E hq;obtain⟨hh,g,d,tk,os⟩:=s;refine AG (X _ _ hC) (X _ _ hC') hbase ho hc ?_;unfold mroIn at hb;rw[hcd,XG,hm]at hb;simp only[X4,W3,if_false,V2.injEq]at hb;rw[hb];exact hq
theorem Mw(xc':kc X.K c' C' bm'=true) (hbase:bm'.contains (.type "BaseException")=true) (hm:X.mg c'=some (.ref C')) (hN:X.N.Nodup) (hi:X.N[i]?=some n) (hl:X.env.kindOf n=some .local) (hb:∀e,Au (Fe X e) (b₀::suite) tb) (hr:PH X rest tr)
  (hg:Gl X c':=by rfl) (hdb:(c' == ("__debug__" : Str))=false:=by decide):PH X (.ExceptHandler (some (.Name c' np)) (some n) (b₀::suite) pos::rest) (UI X.K C' i tb tr):=by
 intro ae s σ H D e C od o vs T I hA ho hd h1 hT h;obtain⟨c,M,b,rf,hmro,h⟩:=h;obtain⟨o',vs',a1,a2,a3,a4⟩:=pZ I.hok hA;rw[ho]at a1;cases a1;have mt:Mt (model X.prog X.w) e (.ref C') b s:=Rl I.kIn rf xc' hbase hmro ho a2;have ev:∀Q':Value->Shared->Prop,Q' (.ref C') s->wpAny (model X.prog X.w) (X.A.mark (some (.ref e))) (eval (.Name c' np) X.env) Q' (fun _ _=>False) s:=fun Q' q=>jT (X:=Fe X e) (Di I) hg hm q hdb
 cases b with
 |false =>
  rw[if_neg (by decide)]at h
  exact RB mt ev (hr ae s σ H D e C od o vs T I hA ho hd h1 hT h)
 |true =>
  rw[if_pos rfl]at h;obtain⟨oT,ts,t1,t2,t3⟩:=hT;refine Jg mt ev ?_;refine wpAny_setFlight_none ho hd h1 t1 t2 (VQ.mp t3).1 ?_;rw[Yu s.heap T oT ts 3 .none t1 t2 t3];refine pX (X:=Fe X e) (v:=.ref e) (Di I) hN hi (.inl hl) rfl (fun s3 I3=>?_) (.inr hl)
  refine dB (hb e ae s3 _ H _ I3 h) fun f s4 hf=>?_
  have gone:∀{σ':St}{H':Hp}{Q:Unit->Shared->Prop},Inv (Fe X e) ae σ' H' s4->(∀s5,Inv X ae (σ'.set i none) H' s5->Q () s5)->wpAny (model X.prog X.w) X.A (do bindName X.env n .none;unbindBehindTheSuite X.env n pos) Q X.xe s4:=fun {σ' H' Q} J k=>by
   obtain⟨m,hn,hlk⟩:=J.loc;refine wpAny_nameGoes_keeps hl hn (by show (X.env.scope.kind == .class || (X.env.scope.kind == .module && X.env.locals != X.env.globals))=false;rw[I.ok.kind];rfl) fun h' v hn' hs=>?_
   exact k _ (Inv.gone (GO I.ok J) hN hi hlk hn' hs hn)
  cases f with
  |next=>obtain⟨σ',H',J,q⟩:=hf;exact gone J fun s5 J5=>⟨_,H',J5,q⟩
  |brk=>obtain⟨σ',H',J,q⟩:=hf;exact gone J fun s5 J5=>⟨_,H',J5,q⟩
  |cont=>obtain⟨σ',H',J,q⟩:=hf;exact gone J fun s5 J5=>⟨_,H',J5,q⟩
  |ret u=>obtain⟨v,σ',H',J,r,q⟩:=hf;exact gone J fun s5 J5=>⟨v,_,H',J5,r,q⟩
theorem Jb:PH X [] Ru:=fun _ _ _ _ _ _ _ _ _ _ _ _ _ _ _ _ _ h=>h.elim
end
section
variable {X:Cx}{k:Nat}{x:Str}{st:Stmt}{ps:List Str}{sp:Sp}{f:Addr}{fd:FuncData}{p pos pos2 pos3:Pos}{e:Expr}{es:List Expr}{t:TA}{h₀:ExceptHandler}{hs:List ExceptHandler}{th:XH}
theorem Jx{ae:List (Addr×Obj)}{σ:St}{H1:Hp}{s1:Shared}{Q:VK}{D:ja}{us:List Value}{vs:List V}{QQ:Value->Shared->Prop}(ok:jx X.prog X.w X.K X.mg X.base (JQ X.prog X.w) k f fd ps sp) (hb:dY X.K fd ps []) (hr:dX k X.A)
  (hstk:X.stack=X.env::X.outer) (hfr:X.env.frame=some X.env.locals) (hh:PH X (h₀::hs) th) (I1:Inv X ae σ H1 s1) (r:bq vs us)
  (q:sp vs H1 Q fun v _ H2=>∀e,v = .ref e->∃C od,H2 e=some (uv e C od)/\th e C od D σ H2) (hQ:∀u s',EP X ae σ Q u s'->QQ u s') :
  wpAny (model X.prog X.w) X.A (call (.ref f) us) QQ (fun e s₁=>wpAny (model X.prog X.w) X.A (noteFrame e X.env) (fun _ s₂=>wpAny (model X.prog X.w) X.A (setFlight e none) (fun _ s₃ =>
   wpAny (model X.prog X.w) X.A (handleBy e X.env (h₀::hs)) (SP X ae D) X.xe s₃) X.xe s₂) X.xe s₁) s1:=by
 have hl:us.length=ps.length:=by rw[←r.length];exact ok.len _ _ _ _ q
 refine wpAny_call (codeAny_mono (ok.run X.A X.stack s1 H1 ⟨us,[]⟩ us vs Q _ hr I1.env0 (by have:=hb s1 us I1.kIn (by rw[aNq];exact hl);rw[aNq]at this;exact this) r q) fun res s' hq=>?_)
 cases res with
 |ok fl =>
  cases fl with
  |ret u=>exact hQ u s' (I1.after hq)
  |next=>exact False.elim hq
  |brk=>exact False.elim hq
  |cont=>exact False.elim hq
 |error ev =>
  obtain⟨e,C,od,H',o,vs',rfl,os,bare,un,hok,hA,ho,hd,hqt,hE⟩:=hq;have I':=I1.call' os un hok bare (fun b z=>nomatch z)
  obtain⟨o',vs'',a1,a2,a3,a4⟩:=pZ hok hA;rw[ho]at a1;cases a1;have fr:X.A.frames=some (X.env::X.outer):=by rw[←hstk];exact I'.ok.frames
  have sk:s'.heap.FunFrames X.base (X.env::X.outer):=by rw[←hstk];exact I'.stack
  refine RY fr sk hfr ho hd hqt fun h' T Nt=>?_
  have free:∀b∈(X.env::X.outer).filterMap (·.frame),H' b=none:=by
   have z:=I'.stkFree;rw[hstk]at z;exact z
  have un2:=zg (C:=C) (od:=od) Nt hA;have ok2:=AX (P:=X.prog) (w:=X.w) Nt hA hok free a2 a3 hd;rw[uU hA]at un2 ok2;have I2:Inv X ae σ H' { s' with heap:=h' }:=I'.call' (s':={ s' with heap:=h' }) rfl (by rw[hstk];exact un2) ok2 I'.bare (fun b z=>absurd z (by simp))
  obtain⟨o2,vs2,g1,g2,g3,g4⟩:=rO Nt hd (uG hqt);obtain⟨C2,od2,hA2,hth⟩:=hE e rfl;exact hh ae _ σ H' D e C2 od2 o2 vs2 T I2 hA2 g1 g2 g3 Nt.ent hth
def Mx(i:Nat) (sp:Sp) (t:TA) (th:XH):TS:=fun D σ H=>t σ H fun vs H1=>sp vs H1 (fun v H2=>D.nx (σ.set i (some v)) H2) fun v _ H2=>∀e,v = .ref e->∃C od,H2 e=some (uv e C od)/\th e C od D σ H2
end
section
variable {X:Cx}{o:Expr}{f:Str}{pos:Pos}{ta:TE}
def Up(K:Frag) (ta:TE) (f:Str):TE:=fun σ H Q=>ta σ H fun x H1=>∃e c C M dx fs n,x = .ref e/\H1 e=some (uv e C (some dx))/\H1 dx=some (.xd fs)/\lF K c C M/\findIn K (.ref C) f=some none/\fs.lookup f=some (.int n)/\Q (.int n) H1
theorem Dd(he:PE X o ta) (hb:attributeBase o f X.env (eval o X.env)=eval o X.env):PE X (.Attribute o f pos) (Up X.K ta f):=by
 intro ae s σ H Q I h;refine De hb (dB (he ae s σ H _ I h) fun u s1 ⟨x,H1,I1,rx,e,c,C,M,dx,fs,n,ex,ea,ed,rf,nf,l,q⟩=>?_)
 subst ex;obtain rfl:u=Vw e:=rx;obtain⟨o',vs',a1,a2,a3,a4⟩:=pZ I1.hok ea;obtain⟨mA,hns,hrel⟩:=(show cx X.prog X.w H1 s1.heap dx (.xd fs) from I1.hok dx _ ed)
 obtain⟨⟨N,q',bs,sn,sub,ab,col,dd,k0,k1,k2,k3,k5,hC⟩,_,T⟩:=jo rf.xc;have L:=rf.lks (Mo:=model X.prog X.w) I1.kIn;have LN:=looks_findIn (M:=model X.prog X.w) I1.kIn nf;have hr:=hrel f;rw[l]at hr;cases hv:mA f with
 |none=>rw[hv]at hr;exact hr.elim
 |some u =>
  rw[hv]at hr;obtain⟨tk,rfl⟩:=(show ∃tk,u=Yp n tk from hr)
  obtain⟨hh,g,d,t,os⟩:=s1;exact Ed (T _ I1.kIn) (I1.kIn _ _ hC) a1 a2 (fun z w=>by rw[a4]at w;cases w) a3 LN L.ga L.gt hns hv rfl ⟨.int n,H1,I1.tok _,⟨tk,rfl⟩,q⟩
theorem zO{K:Frag}{c:Str}{e C M:Addr}{od:Option Addr}(rf:lF K c C M):KitX K (.ref e) (.ref C) (fun h=>∃o vs,h.get? e=some o/\o.cls = .ref C/\o.dict=od/\o.data = .fields vs):=by
 obtain⟨⟨N,q',bs,sn,sub,ab,col,dd,k0,k1,k2,k3,k5,hC⟩,⟨cd,hcd,_,_⟩,T⟩:=jo rf.xc;refine⟨fun Mo h X ⟨o,vs,a1,a2,_⟩=>a2 ▸ (Looks.ld a1).andThen .now,fun Mo h X _=>?_,fun h tp dd its n sl X htp=>?_,fun {prog w A E Q s} X ⟨o,vs,a1,a2,_⟩ hq=>?_⟩
 .intro A' Q' E' s' k q;unfold isType loadHead;exact wpAny_bind (wpAny_loadPart (k _ _ (X _ _ hC)) (wpAny_pure q))
 .refine Zo.mpr fun q=>?_
  have e:C=tp:=Vw.inj (beq_iff_eq.mp q);subst e;have z:=congrArg (fun o:Option Obj=>o.map (·.cls)) ((X _ _ hC).symm.trans htp)
  simp at z
 .have L:=rf.lks (Mo:=model prog w) X;obtain⟨hh,g,d,t,os⟩:=s;exact BB (T _ X) (X _ _ hC) a1 a2 L.cl L.ga L.gt hq
noncomputable def yz:V->Option Value
 | .ty n=>some (.type n)
 | .ref a=>some (.ref a)
 |_=>none
def Pp(K:Frag):List V->Hp->VK->Prop:=fun vs H Q=>∃e c C M od cv b,vs=[.ref e,cv]/\H e=some (uv e C od)/\lF K c C M /\
 ((∃u,yz cv=some u/\kitOne K (.ref C) u=some b)∨∃tp cvs us,cv = .ref tp/\H tp=some (.tup cvs)/\cvs.mapM yz=some us/\kitAny K (.ref C) us=some b)/\Q (.bl b) H
theorem Ap{v:V}{u u':Value}(h:yz v=some u) (r:bO v u'):u'=u:=by
 cases v <;> simp[yz]at h <;> (subst h;exact r)
theorem Aq:∀{cvs:List V}{us us':List Value},cvs.mapM yz=some us->bq cvs us'->us'=us
 | [],us,us',h,r=>by cases r;simp at h;exact h.symm
 |v::cvs,us,us',h,r=>by
  cases r with
  |cons r1 r2 =>
   rw[ZF]at h;cases h1:yz v with
   |none=>rw[h1]at h;simp at h
   |some u =>
    cases h2:cvs.mapM yz with
    |none=>rw[h1,h2]at h;simp at h
    |some us2 =>
     rw[h1,h2]at h;simp at h;rw[←h,Ap h1 r1,Aq h2 r2]
theorem mQ:eG X (.builtin "isinstance") (Pp X.K):=by
 intro ae s σ H vs us Q I r h;obtain⟨e,c,C,M,od,cv,b,rfl,hA,rf,hk,q⟩:=h;cases r with
 |cons r1 r2 =>
  cases r2 with
  |cons r3 r4 =>
   cases r4;obtain rfl:=(show _=Vw e from r1)
   have a:=pZ I.hok hA;rcases hk with ⟨u,hu,hk⟩|⟨tp,cvs,us,rfl,ht,hus,hk⟩
   .obtain rfl:=Ap hu r3;exact kia_one (zO rf) I.kIn a hk (fun z=>nomatch z) fun tk=>⟨.bl b,H,I.tok _,rfl,q⟩
   .obtain rfl:=(show _=Vw tp from r3)
    obtain⟨_,its,rv,o,h1,h2,n,h3⟩:=(show cx X.prog X.w H s.heap tp (.tup cvs) from I.hok tp _ ht)
    obtain rfl:=Aq hus rv;obtain⟨oc,od',oda,osl⟩:=o;dsimp only at h2 h3;subst h2 h3;exact kia_tup (zO rf) I.kIn a h1 hk (fun z=>nomatch z) fun tk=>⟨.bl b,H,I.tok _,rfl,q⟩
end
section
variable {X:Cx}
theorem OP{az:List (bI×V)}{vs:List (bI×Value)}(r:KV az vs):∀{i:Nat}{p:bI×V},az[i]?=some p->∃u,vs[i]?=some (p.1,u)/\bO p.2 u:=by
 induction r with
 |nil=>intro i p h;simp at h
 | @cons a b _ _ r t ih =>
  intro i p h;cases i with
  |zero=>simp at h;subst h;exact⟨b.2,by simp[r.1],r.2⟩
  |succ i=>obtain⟨u,g1,g2⟩:=ih (by simpa using h);exact⟨u,by simpa using g1,g2⟩
end
end Xe
namespace Xe
open PySem
section
variable {prog:Program}{w:World}{A:Around}{E:Value->Shared->Prop}{h:Heap}{g:Array GenState}{d:Drawn}{t:Nat}{os:OsState}
variable {nm q:Str}{C N:Addr}{bs bm:List Value}{hdct:Bool}{sn:List Str}{sub:List Value}{ab:Bool}{col:Option Bool}{dd:Option Addr}{k0 k1 k2 k3 k5:Option Value}
theorem sU(T:OwnTail h jD bm) {rest:List Value}{Q:Fin->Shared->Prop}
  (hC:h.get? C=some (excClassObj nm q C N bs bm hdct sn sub ab col dd k0 k1 k2 k3 k5 "ValueError.__new__"))
  (hi:Lk (model prog w) h (typeLookup (.ref C) "__init__") (some (.builtin "ValueError.__init__")))
  (hq:∀h' e,Yl h h' e (.ref C) rest->h.objs.size<=e->Q (.done (.ret (.ref e))) ⟨h',g,d,t,os⟩) (hrest:rest.length<=sizeLine) :
  wpAny (model prog w) A (Builtin.«type.__call__» ⟨.ref C::rest,[]⟩) Q E ⟨h,g,d,t,os⟩:=by
 have F:=XE
 repeat (first|with_reducible refine wpAny_loadPart_at hC ?_|with_reducible refine wpAny_madeBy_exc hC ?_|wp_step)
 refine codeAny_call_builtin_code (Code.quiet_builtin _ F.quiet) (wpAny_check_new_subT F T hC ?_);refine codeAny_exc_new_subT F T hC ?_ hrest;show wpAny _ _ _ _ _ _;have hC₁:=Vt { cls:=.ref C,data:=.fields #[.ref h.objs.size,.none,.none,.none,.bool false,.none] }
  (Vt { cls:=.type "tuple", data:=.seq rest.toArray } hC)
 have hget:((h.push { cls:=.type "tuple", data:=.seq rest.toArray }).push
   { cls:=.ref C,data:=.fields #[.ref h.objs.size,.none,.none,.none,.bool false,.none] }).get? (h.objs.size+1)=some
   { cls:=.ref C,data:=.fields #[.ref h.objs.size,.none,.none,.none,.bool false,.none] }:=by heap_get
 have hcC:(Vw C::bm).contains (.ref C)=true:=by simp
 have kk:∀b o,h.get? b=some o->((h.push { cls:=.type "tuple", data:=.seq rest.toArray }).push { cls:=.ref C,data:=.fields #[.ref h.objs.size,.none,.none,.none,.bool false,.none] }).get? b=some o:=fun b o e=>Vt _ (Vt _ e)
 have T₁:=T.keeps (h':=(h.push { cls:=.type "tuple", data:=.seq rest.toArray }).push { cls:=.ref C,data:=.fields #[.ref h.objs.size,.none,.none,.none,.bool false,.none] })
  fun b o e=>Vt _ (Vt _ e)
 unfold isInstance
 repeat (first|with_reducible refine wpAny_loadPart_at hget ?_|(with_reducible refine wpAny_isSubtype_exc hC₁ ?_;rw[hcC])|wp_step)
 show wpAny _ _ (typeLookup (.ref C) _) _ _ _;refine hi _ _ _ _ kk ?_;refine wpAny_holding (wpAny_bind (wpAny_of_eq (F.init.bind _) ?_));refine wpAny_bind (wpAny_call (codeAny_call_builtin F.init.plain F.initEntry (wpAny_check_init_subT F T₁ hC₁ hget rfl ?_)))
 wp_walk
 refine hq _ _ ⟨fun b o hb=>?_,WK (WC _),h.objs.size+2,?_,WK (by lia),?_⟩ (WC _)
 .rw [Wl _ _ (XX (WO (Vy hb)))];exact Vt _ (Vt _ (Vt _ hb))
 .rw [W5 _ (Vt _ hget) rfl];simp only[X1];rfl
 .rw [Wl _ _ (show h.objs.size+1≠h.objs.size+2 by lia)]
  exact Yv (by simp only[X1]) rfl
theorem Bl(T:OwnTail h jD bm) {rest:List Value}{Q:Value->Shared->Prop}
  (hC:h.get? C=some (excClassObj nm q C N bs bm hdct sn sub ab col dd k0 k1 k2 k3 k5 "ValueError.__new__"))
  (hi:Lk (model prog w) h (typeLookup (.ref C) "__init__") (some (.builtin "ValueError.__init__")))
  (hq:∀h' e,Yl h h' e (.ref C) rest->h.objs.size<=e->Q (.ref e) ⟨h',g,d,t,os⟩) (hrest:rest.length<=sizeLine) :
  wpAny (model prog w) A (call (.ref C) rest) Q E ⟨h,g,d,t,os⟩:=by
 have f1:=tc_lookup;have f2:=tc_bind (.ref C);have hT:(⟨h,g,d,t,os⟩:Shared).TypeIs (.ref C) "type" := ⟨_,hC,rfl⟩;refine wpAny_call (codeAny_of_tree ?_);show wpAny _ _ (callAny (.ref C) _) _ _ _
 repeat (any_goals (first|assumption|with_reducible refine wpAny_loadPart_at hC ?_|wp_step))
 refine⟨rfl,?_⟩;refine codeAny_call_builtin_at (Code.quiet_builtin _ (by decide +kernel)) entry_typeCall (wpAny_check_type_call_sub hC (sU (hrest:=hrest) T hC hi fun h' e hm hs=>?_))
 exact hq h' e hm hs
end
end Xe
namespace Xe
open PySem PySem.Spec PySem.W PyProof.Rows L2 Mr
def Ry(K:Frag) (c:Str):TE:=fun _ H Q=>∃C M,lF K c C M/\∀e,H e=none->Q (.ref e) (bW H e (BQ e C none))
structure RL (K:Frag) (mg:Str->Option Value) (c:Str) (C M:Addr):Prop where
 rf:lF K c C M
 ini:findIn K (.ref C) "__init__" = some (some (.builtin "ValueError.__init__"))
 kp:keepIn K (.ref C)=true
 m:mg c=some (.ref C)
section
variable {X:Cx}{c:Str}{C M:Addr}{p pos:Pos}
theorem FL(G:RL X.K X.mg c C M) (hg:Gl X c:=by rfl) (hdb:(c == ("__debug__" : Str))=false:=by decide):PE X (.Call (.Name c p) [] [] pos) (Ry X.K c):=by
 intro ae s σ H Q I h;refine wpAny_Call_Name_kw (jT I hg G.m ?_ hdb);refine W.callWith_K0 I.kIn G.kp ?_;obtain⟨C',M',rf',q⟩:=h;obtain⟨rfl,rfl⟩:=G.rf.one rf';obtain⟨⟨N,q',bs,sn,sub,ab,col,dd,k0,k1,k2,k3,k5,hC⟩,_,T⟩:=jo G.rf.xc;obtain⟨hh,g,d,tk,os⟩:=s;refine Bl (rest:=[]) (T _ I.kIn) (I.kIn _ _ hC) (looks_findIn I.kIn G.ini) (fun h' e hm hs=>?_) (by rw[sizeLine_eq];simp)
 obtain⟨t0,hx,_,_⟩:=hm.there;exact⟨.ref e,_,I.laid (t':=tk) hm.keeps hs (yy hx),rfl,q e (I.hok.fresh hs)⟩
end
end Xe
namespace Xe
open PySem
end Xe
namespace Xe
open PySem PySem.Spec PySem.W PyProof.Rows L2 Mr
end Xe
namespace PySem.SCG
open PySem Builtin Builtin.Str
end PySem.SCG
namespace Mr
open PySem PySem.Spec PyProof.Rows L2
end Mr
namespace Mr
open PySem PyProof.Rows L2
section
variable {X:Cx}
end
end Mr
namespace Mr
open PySem L2
end Mr
namespace Mr
open PySem PySem.Calls PySem.Spec PyProof.Rows L2
section
variable {X:Cx}
def Ng(K:W.Frag) (x:V) (H:Hp) (T:String):Prop:=match x with
 | .int _=>T = "list" ∨ T = "tuple" ∨ T = "str"
 | .str _=>T = "list" ∨ T = "tuple"
 | .non=>T = "list" ∨ T = "tuple"
 | .ref p=>(T = "tuple" /\ ∃xs,dJ K H p xs)∨(T = "list" /\ ∃xs,vH K H p xs)
 |_=>False
theorem fG:eG X (.builtin "isinstance") (fun xs H Q=>∃x T,xs=[x,.ty T]/\Ng X.K x H T/\Q (.bl false) H):=by
 intro ae s σ H xs us Q I r h;obtain⟨x,T,rfl,e,q⟩:=h;obtain⟨u,v,rfl,rx,rT⟩:=CT r;cases rT;cases x with
 |int i =>
  obtain⟨t,rfl⟩:=rx;rcases e with rfl|rfl|rfl
  .exact call_isinstance (isinstance_false_int (by decide +kernel) F.isi_meta_list F.sub_int_list) (show EP X ae σ Q (.bool false) { s with toks:=s.toks+1 } from ⟨.bl false,H,I.tok _,rfl,q⟩)
  .exact call_isinstance (isinstance_false_int (by decide +kernel) F.isi_meta_tuple F.sub_int_tuple) (show EP X ae σ Q (.bool false) { s with toks:=s.toks+1 } from ⟨.bl false,H,I.tok _,rfl,q⟩)
  .exact call_isinstance (isinstance_false_int (by decide +kernel) F.isi_meta_str F.sub_int_str) (show EP X ae σ Q (.bool false) { s with toks:=s.toks+1 } from ⟨.bl false,H,I.tok _,rfl,q⟩)
 |str i =>
  obtain⟨t,rfl⟩:=rx;rcases e with rfl|rfl
  .exact call_isinstance (isinstance_false_str (by decide +kernel) F.isi_meta_list F.sub_str_list) (show EP X ae σ Q (.bool false) { s with toks:=s.toks+1 } from ⟨.bl false,H,I.tok _,rfl,q⟩)
  .exact call_isinstance (isinstance_false_str (by decide +kernel) F.isi_meta_tuple F.sub_str_tuple) (show EP X ae σ Q (.bool false) { s with toks:=s.toks+1 } from ⟨.bl false,H,I.tok _,rfl,q⟩)
 |non =>
  cases rx;rcases e with rfl|rfl
  .exact call_isinstance (isinstance_false_none (by decide +kernel) F.isi_meta_list F.sub_NoneType_list) (show EP X ae σ Q (.bool false) { s with toks:=s.toks+1 } from ⟨.bl false,H,I.tok _,rfl,q⟩)
  .exact call_isinstance (isinstance_false_none (by decide +kernel) F.isi_meta_tuple F.sub_NoneType_tuple) (show EP X ae σ Q (.bool false) { s with toks:=s.toks+1 } from ⟨.bl false,H,I.tok _,rfl,q⟩)
 |ref p =>
  cases rx;rcases e with ⟨rfl,xs,hS⟩|⟨rfl,xs,hS⟩
  .obtain ⟨its,rv,pl,hz⟩:=I.list hS;exact call_isinstance (isinstance_false_list (by decide +kernel) F.isi_meta_tuple F.sub_list_tuple) ⟨pl.isList.typeIs,⟨.bl false,H,I.tok _,rfl,q⟩⟩
  .obtain ⟨its,rv,⟨o,ho,hc,_⟩,hz⟩:=I.tuple hS;exact call_isinstance (isinstance_false_tuple (by decide +kernel) F.isi_meta_list F.sub_tuple_list) ⟨⟨o,ho,hc⟩,⟨.bl false,H,I.tok _,rfl,q⟩⟩
 |_=>exact(show False from e).elim
end
end Mr
namespace MrS
open PySem PySem.W PyProof.Rows
end MrS
namespace Mr
open PySem PySem.W PySem.Spec PyProof.Rows L2
end Mr
namespace Z
open PySem L2 Mr
abbrev St:=L2.St
inductive D where
 |non|bl (b:Bool)|int (i:Int)|str (x:Str)|ty (n:String)|list (xs:List D)|tup (xs:List D)|dict (az:List (bI×D))|scr (ns:List Int)|exc (c:Str) (fs:List (Str×Int))|cls (c:Str)|fd (az:List (bI×D))|ins (c:Str) (fs:List (Str×D))
inductive cT (K:W.Frag) (H:Hp):D->V->Prop
 |non:cT K H .non .non
 |bl {b:Bool}:cT K H (.bl b) (.bl b)
 |int {i:Int}:cT K H (.int i) (.int i)
 |str {x:Str}:cT K H (.str x) (.str x)
 |ty {n:String}:cT K H (.ty n) (.ty n)
 |list {p:Addr}{vs:List V}{ds:List D}(h:H p=some (.lst vs)) (l:ds.length=vs.length) (e:∀(i:Nat) (d:D) (v:V),ds[i]?=some d->vs[i]?=some v->cT K H d v):cT K H (.list ds) (.ref p)
 |tup {p:Addr}{vs:List V}{ds:List D}(h:H p=some (.tup vs)) (l:ds.length=vs.length) (e:∀(i:Nat) (d:D) (v:V),ds[i]?=some d->vs[i]?=some v->cT K H d v):cT K H (.tup ds) (.ref p)
 |dict {p:Addr}{az:List (bI×V)}{ds:List (bI×D)}(h:H p=some (.dK az)) (l:ds.map (·.1)=az.map (·.1)) (e:∀(i:Nat) (d:bI×D) (v:bI×V),ds[i]?=some d->az[i]?=some v->cT K H d.2 v.2):cT K H (.dict ds) (.ref p)
 |scr {p:Addr}{ns:List Int}(h:dJ K H p (ns.map V.int)):cT K H (.scr ns) (.ref p)
 |exc {c:Str}{fs:List (Str×Int)}{e C M dx:Addr}(rf:Xe.lF K c C M) (nf:∀p∈fs,W.findIn K (.ref C) p.1=some none) (h:H e=some (Xe.uv e C (some dx))) (hx:H dx=some (.xd (fs.map fun p=>(p.1,V.int p.2)))):cT K H (.exc c fs) (.ref e)
 |exc0 {c:Str}{e C M:Addr}(rf:Xe.lF K c C M) (h:H e=some (Xe.uv e C none)):cT K H (.exc c []) (.ref e)
 |cls {c:Str}{C:Addr}(h:Xe.MM K c C):cT K H (.cls c) (.ref C)
 |fd {p:Addr}{o:Obj}{az:List (bI×V)}{ds:List (bI×D)}(h:H p=some (.frz o (.dK az))) (l:ds.map (·.1)=az.map (·.1)) (e:∀(i:Nat) (d:bI×D) (v:bI×V),ds[i]?=some d->az[i]?=some v->cT K H d.2 v.2):cT K H (.fd ds) (.ref p)
 |ins {c:Str}{a C dx:Addr}{gs:List (Str×V)}{fs:List (Str×D)}(rf:W.nsIn K mainGlobals c=some (some (.ref C))) (h:H a=some (.ins C dx gs)) (l:fs.map (·.1)=gs.map (·.1)) (e:∀(i:Nat) (d:Str×D) (v:Str×V),fs[i]?=some d->gs[i]?=some v->cT K H d.2 v.2):cT K H (.ins c fs) (.ref a)
def bY(K:W.Frag) (H:Hp) (ds:List D) (vs:List V):Prop:=ds.length=vs.length/\∀(i:Nat) (d:D) (v:V),ds[i]?=some d->vs[i]?=some v->cT K H d v
def gO(K:W.Frag) (H:Hp) (ds:List (bI×D)) (az:List (bI×V)):Prop:=ds.map (·.1)=az.map (·.1)/\∀(i:Nat) (d:bI×D) (v:bI×V),ds[i]?=some d->az[i]?=some v->cT K H d.2 v.2
section
variable {K:W.Frag}{H H':Hp}
theorem cT.mono{d:D}{v:V}(h:cT K H d v) (s:bB H H'):cT K H' d v:=by
 induction h with
 |non=>exact .non
 |bl=>exact .bl
 |int=>exact .int
 |str=>exact .str
 |ty=>exact .ty
 |list h l _ ih=>exact .list (s _ _ h) l ih
 |tup h l _ ih=>exact .tup (s _ _ h) l ih
 |dict h l _ ih=>exact .dict (s _ _ h) l ih
 |scr h=>exact .scr (s.seq h)
 |exc rf nf h hx=>exact .exc rf nf (s _ _ h) (s _ _ hx)
 |exc0 rf h=>exact .exc0 rf (s _ _ h)
 |cls h=>exact .cls h
 |fd h l _ ih=>exact .fd (s _ _ h) l ih
 |ins rf h l _ ih=>exact .ins rf (s _ _ h) l ih
theorem bY.mono{ds:List D}{vs:List V}(h:bY K H ds vs) (s:bB H H'):bY K H' ds vs:=⟨h.1,fun i d v a b=>(h.2 i d v a b).mono s⟩
theorem gO.mono{ds:List (bI×D)}{vs:List (bI×V)}(h:gO K H ds vs) (s:bB H H'):gO K H' ds vs:=⟨h.1,fun i d v a b=>(h.2 i d v a b).mono s⟩
theorem bY.nil:bY K H [] []:=⟨rfl,fun i d v a=>by simp at a⟩
theorem bY.cons{d:D}{v:V}{ds:List D}{vs:List V}(h:cT K H d v) (t:bY K H ds vs):bY K H (d::ds) (v::vs):=⟨by simp[t.1],fun i e w a b=>by
 cases i with
 |zero =>
  simp at a b;subst a b;exact h
 |succ i=>exact t.2 i e w (by simpa using a) (by simpa using b)⟩
theorem bY.cons_iff{d:D}{v:V}{ds:List D}{vs:List V}:bY K H (d::ds) (v::vs)↔cT K H d v/\bY K H ds vs :=
 ⟨fun h=>⟨h.2 0 d v rfl rfl,by have:=h.1;simpa using this,fun i e w a b=>h.2 (i+1) e w (by simpa using a) (by simpa using b)⟩,fun h=>.cons h.1 h.2⟩
theorem bY.nil_inv{vs:List V}(h:bY K H [] vs):vs=[]:=by
 have:=h.1;cases vs with
 |nil=>rfl
 |cons _ _=>simp at this
theorem bY.cons_inv{d:D}{ds:List D}{vs:List V}(h:bY K H (d::ds) vs):∃v ws,vs=v::ws/\cT K H d v/\bY K H ds ws:=by
 cases vs with
 |nil=>have:=h.1;simp at this
 |cons v ws=>exact⟨v,ws,rfl,bY.cons_iff.mp h⟩
theorem bY.append:∀{ds es:List D}{vs ws:List V},bY K H ds vs->bY K H es ws->bY K H (ds++es) (vs++ws)
 | [],es,vs,ws,h,g=>by rw[h.nil_inv];exact g
 |d::ds,es,vs,ws,h,g=>by
  obtain⟨v,us,rfl,h1,h2⟩:=h.cons_inv;exact .cons h1 (bY.append h2 g)
theorem bY.take{ds:List D}{vs:List V}(h:bY K H ds vs) (n:Nat):bY K H (ds.take n) (vs.take n):=⟨by rw[lTq,lTq,h.1],fun i d v a b=>by
 rw[List.getElem?_take]at a b;split at a
 .rename_i hi;rw[if_pos hi]at b;exact h.2 i d v a b
 .cases a⟩
theorem bY.drop{ds:List D}{vs:List V}(h:bY K H ds vs) (n:Nat):bY K H (ds.drop n) (vs.drop n):=⟨by rw[VI,VI,h.1],fun i d v a b=>by
 rw[Xj]at a b;exact h.2 _ d v a b⟩
theorem bY.get{ds:List D}{vs:List V}(h:bY K H ds vs) {i:Nat}{d:D}(e:ds[i]?=some d):∃v,vs[i]?=some v/\cT K H d v:=by
 have hi:i<ds.length:=(gSq.mp e).1;have hj:i<vs.length:=h.1 ▸ hi;exact⟨vs[i],gEg hj,h.2 i d _ e (gEg hj)⟩
theorem bY.get'{ds:List D}{vs:List V}(h:bY K H ds vs) {i:Nat}{v:V}(e:vs[i]?=some v):∃d,ds[i]?=some d/\cT K H d v:=by
 have hi:i<vs.length:=(gSq.mp e).1;have hj:i<ds.length:=h.1.symm ▸ hi;exact⟨ds[i],gEg hj,h.2 i _ v (gEg hj) e⟩
theorem cT.list_inv{ds:List D}{v:V}(h:cT K H (.list ds) v):∃p vs,v = .ref p/\H p=some (.lst vs)/\bY K H ds vs:=by
 cases h with
 |list h l e=>exact⟨_,_,rfl,h,l,e⟩
theorem cT.tup_inv{ds:List D}{v:V}(h:cT K H (.tup ds) v):∃p vs,v = .ref p/\H p=some (.tup vs)/\bY K H ds vs:=by
 cases h with
 |tup h l e=>exact⟨_,_,rfl,h,l,e⟩
theorem cT.dict_inv{ds:List (bI×D)}{v:V}(h:cT K H (.dict ds) v):∃p az,v = .ref p/\H p=some (.dK az)/\gO K H ds az:=by
 cases h with
 |dict h l e=>exact⟨_,_,rfl,h,l,e⟩
theorem cT.mk_tup{ds:List D}{p:Addr}{vs:List V}(h:H p=some (.tup vs)) (r:bY K H ds vs):cT K H (.tup ds) (.ref p):=.tup h r.1 r.2
theorem cT.mk_dict{ds:List (bI×D)}{p:Addr}{vs:List (bI×V)}(h:H p=some (.dK vs)) (r:gO K H ds vs):cT K H (.dict ds) (.ref p):=.dict h r.1 r.2
end
noncomputable def D.scal:D->Bool
 | .non=>true
 | .bl _=>true
 | .int _=>true
 | .str _=>true
 | .ty _=>true
 |_=>false
theorem cT.scal{K:W.Frag}{H H':Hp}{d:D}{v:V}(h:cT K H d v) (s:d.scal=true):cT K H' d v:=by
 cases h with
 |non=>exact .non
 |bl=>exact .bl
 |int=>exact .int
 |str=>exact .str
 |ty=>exact .ty
 |_=>cases s
inductive AV where
 |sh (d:D)|ow (avs:List AV)|owd (az:List (bI×D))
mutual
def aE:AV->D
 | .sh d=>d
 | .ow avs=>.list (uk avs)
 | .owd az=>.dict az
def uk:List AV->List D
 | []=>[]
 |a::as=>aE a::uk as
end
theorem xi:∀avs:List AV,uk avs=avs.map aE
 | []=>by simp[uk]
 |a::as=>by simp[uk,xi as]
@[simp] theorem iw (d:D):aE (.sh d)=d:=by simp[aE]
@[simp] theorem hZ (avs:List AV):aE (.ow avs) = .list (avs.map aE):=by simp[aE,xi]
@[simp] theorem qR (az:List (bI×D)):aE (.owd az) = .dict az:=by simp[aE]
inductive bH (K:W.Frag) (Hf H:Hp):AV->V->List Addr->Prop
 |sh {d:D}{v:V}(r:cT K Hf d v):bH K Hf H (.sh d) v []
 |ow {p:Addr}{vs:List V}{avs:List AV}{Fs:List (List Addr)}(h:H p=some (.lst vs)) (n:Hf p=none) (l:avs.length=vs.length) (lf:avs.length=Fs.length)
   (e:∀(i:Nat) (a:AV) (v:V) (F:List Addr),avs[i]?=some a->vs[i]?=some v->Fs[i]?=some F->bH K Hf H a v F):bH K Hf H (.ow avs) (.ref p) (p::Fs.flatten)
 |owd {p:Addr}{az:List (bI×V)}{ds:List (bI×D)}(h:H p=some (.dK az)) (n:Hf p=none) (r:gO K Hf ds az):bH K Hf H (.owd ds) (.ref p) [p]
section
variable {K:W.Frag}{Hf Hf' H H':Hp}{av:AV}{v:V}{F:List Addr}
theorem bH.owned(h:bH K Hf H av v F):∀q∈F,H q≠none/\Hf q=none:=by
 induction h with
 |sh _=>intro q hq;cases hq
 | @ow p vs avs Fs h n l lf e ih =>
  intro q hq;rcases VB.mp hq with rfl|hq
  .exact ⟨by rw[h];simp,n⟩
  .obtain ⟨F,hF,hq⟩:=mFq.mp hq;obtain⟨i,hi,rfl⟩:=WM.mp hF;exact ih i avs[i] vs[i] Fs[i] (by simp) (by simp) (by simp) q hq
 |owd h n r =>
  intro q hq;have:=mSq.mp hq;subst this;exact⟨by rw[h];simp,n⟩
theorem bH.keep(h:bH K Hf H av v F) (s:bB Hf Hf') (hk:∀q∈F,H' q=H q) (hn:∀q∈F,Hf' q=none):bH K Hf' H' av v F:=by
 induction h with
 |sh r=>exact .sh (r.mono s)
 | @ow p vs avs Fs h n l lf e ih =>
  refine .ow (by rw[hk p (by simp)];exact h) (hn p (by simp)) l lf fun i a v F h1 h2 h3=>ih i a v F h1 h2 h3 (fun q hq=>hk q ?_) fun q hq=>hn q ?_
  all_goals exact mCo _ (mFq.mpr ⟨F,mGq h3,hq⟩)
 |owd h n r=>exact .owd (by rw[hk _ (by simp)];exact h) (hn _ (by simp)) (r.mono s)
theorem bH.rep(h:bH K Hf H av v F) (s:bB Hf H):cT K H (aE av) v:=by
 induction h with
 |sh r=>rw[iw];exact r.mono s
 | @ow p vs avs Fs h n l lf e ih =>
  rw[hZ];refine .list h (by simp[l]) fun i d v h1 h2=>?_
  rw[gMq]at h1;cases ea:avs[i]? with
  |none=>rw[ea]at h1;cases h1
  |some a =>
   rw[ea]at h1;cases h1;have hi:i<Fs.length:=lf ▸ (gSq.mp ea).1;exact ih i a v Fs[i] ea h2 (gEg hi)
 |owd h n r=>rw[qR];exact .mk_dict h (r.mono s)
def frz(Hf H:Hp) (F:List Addr):Hp:=fun b=>if b∈F then H b else Hf b
theorem oR{b:Addr}(h:b∈F):frz Hf H F b=H b:=if_pos h
theorem hU{b:Addr}(h:b∉F):frz Hf H F b=Hf b:=if_neg h
theorem eI(h:∀q∈F,Hf q=none):bB Hf (frz Hf H F):=fun b o e=>by
 rw[hU fun m=>by rw[h b m]at e;cases e]
 exact e
theorem Me(s:bB Hf H):bB (frz Hf H F) H:=fun b o e=>by
 by_cases m:b∈F
 .rw [oR m]at e;exact e
 .rw [hU m]at e;exact s b o e
theorem bH.frozen(h:bH K Hf H av v F) (s:bB Hf Hf') (hk:∀q∈F,Hf' q=H q):cT K Hf' (aE av) v:=by
 induction h with
 |sh r=>rw[iw];exact r.mono s
 | @ow p vs avs Fs h n l lf e ih =>
  rw[hZ];refine .list (by rw[hk p (by simp)];exact h) (by simp[l]) fun i d v h1 h2=>?_
  rw[gMq]at h1;cases ea:avs[i]? with
  |none=>rw[ea]at h1;cases h1
  |some a =>
   rw[ea]at h1;cases h1;have hi:i<Fs.length:=lf ▸ (gSq.mp ea).1;exact ih i a v Fs[i] ea h2 (gEg hi) fun q hq=>hk q (mCo _ (mFq.mpr ⟨Fs[i],gRq hi,hq⟩))
 |owd h n r=>rw[qR];exact .mk_dict (by rw[hk _ (by simp)];exact h) (r.mono s)
end
abbrev AS:=List (Option AV)
structure bK (K:W.Frag) (H₀ Hf₀ Hf:Hp) (S:AS) (σ:St) (H:Hp) (Fs:List (List Addr)):Prop where
 len:S.length=σ.length
 lenF:Fs.length=S.length
 rep:∀(i:Nat) (av:AV),S[i]?=some (some av)->∃v F,σ[i]?=some (some v)/\Fs[i]?=some F/\bH K Hf H av v F
 emp:∀i:Nat,S[i]?=some none->Fs[i]?=some []
 nd:Fs.flatten.Nodup
 fresh:∀p∈Fs.flatten,H₀ p=none
 sub:bB Hf H
 fr:bB H₀ H
 lim:∀b,Hf₀ b=none->H₀ b≠none->Hf b=none
 sf:bB Hf₀ Hf
structure nW (Hf H:Hp) (Fs:List (List Addr)) (Hf' H':Hp) (Fs':List (List Addr)):Prop where
 sf:bB Hf Hf'
 sh:bB H H'
 own:∀p∈Fs'.flatten,p∈Fs.flatten
 gr:∀b,Hf b=none->Hf' b≠none->H b=none∨b∈Fs.flatten
theorem nW.refl{Hf H:Hp}{Fs:List (List Addr)}:nW Hf H Fs Hf H Fs:=⟨.refl _,.refl _,fun _ h=>h,fun b h g=>absurd h g⟩
theorem Dx{H H':Hp}(s:bB H H') {b:Addr}(h:H b≠none):H' b≠none:=by
 cases e:H b with
 |none=>exact absurd e h
 |some o=>rw[s b o e];simp
theorem nW.trans{Hf H Hf1 H1 Hf2 H2:Hp}{Fs Fs1 Fs2:List (List Addr)}(a:nW Hf H Fs Hf1 H1 Fs1) (b:nW Hf1 H1 Fs1 Hf2 H2 Fs2):nW Hf H Fs Hf2 H2 Fs2 :=
 ⟨a.sf.trans b.sf,a.sh.trans b.sh,fun p h=>a.own p (b.own p h),fun c h g=>by
  by_cases e:Hf1 c=none
  .rcases b.gr c e g with q|q
   .exact .inl (a.sh.free q)
   .exact .inr (a.own c q)
  .exact a.gr c h e⟩
section
variable {K:W.Frag}{H₀ Hf₀ Hf Hf' H H':Hp}{S:AS}{σ:St}{Fs Fs':List (List Addr)}
theorem DB{b:Addr}(s:bB H H') (h:H b≠none):H' b=H b:=by
 cases e:H b with
 |none=>exact absurd e h
 |some o=>exact s b o e
theorem bK.mem(R:bK K H₀ Hf₀ Hf S σ H Fs) {q:Addr}(h:q∈Fs.flatten):H q≠none/\Hf q=none:=by
 obtain⟨F,hF,hq⟩:=mFq.mp h;obtain⟨i,hi,rfl⟩:=WM.mp hF;have hiS:i<S.length:=R.lenF ▸ hi;cases e:S[i] with
 |none =>
  have:=R.emp i (by rw[gEg hiS,e])
  rw[gEg hi]at this;rw[V2.inj this]at hq;cases hq
 |some av =>
  obtain⟨v,F,_,e2,r⟩:=R.rep i av (by rw[gEg hiS,e])
  rw[gEg hi]at e2;rw[V2.inj e2]at hq;exact r.owned q hq
theorem bK.more(R:bK K H₀ Hf₀ Hf S σ H Fs) (s:bB H H') (sf:bB Hf Hf') (sub:bB Hf' H') (hn:∀q∈Fs.flatten,Hf' q=none) (lim:∀b,Hf₀ b=none->H₀ b≠none->Hf' b=none):bK K H₀ Hf₀ Hf' S σ H' Fs where
 len:=R.len
 lenF:=R.lenF
 rep:=fun i av e=>by
  obtain⟨v,F,e1,e2,r⟩:=R.rep i av e;refine⟨v,F,e1,e2,r.keep sf (fun q hq=>DB s (r.owned q hq).1) fun q hq=>hn q (mFq.mpr ⟨F,mGq e2,hq⟩)⟩
 emp:=R.emp
 nd:=R.nd
 fresh:=R.fresh
 sub:=sub
 fr:=R.fr.trans s
 lim:=lim
 sf:=R.sf.trans sf
theorem bK.laid(R:bK K H₀ Hf₀ Hf S σ H Fs) (s:bB H H'):bK K H₀ Hf₀ Hf S σ H' Fs:=R.more s (.refl _) (R.sub.trans s) (fun q h=>(R.mem h).2) R.lim
theorem eC{F:List Addr}{i:Nat}{p:Addr}(h:p∈(Fs.set i F).flatten):p∈F∨p∈Fs.flatten:=by
 obtain⟨G,hG,hp⟩:=mFq.mp h;rcases List.mem_or_eq_of_mem_set hG with q|q
 .exact .inr (mFq.mpr ⟨G,q,hp⟩)
 .subst q;exact .inl hp
theorem cZ:∀{Fs:List (List Addr)}{F:List Addr}(i:Nat),Fs.flatten.Nodup->F.Nodup->(∀p∈F,p∉Fs.flatten)->(Fs.set i F).flatten.Nodup
 | [],F,i,h,_,_=>by simp
 |G::Gs,F,0,h,hF,hd=>by
  rw[Xk,fCq,nAq];rw[fCq,nAq]at h;refine⟨hF,h.2.1,fun a ha b hb e=>hd a ha ?_⟩
  rw[fCq];exact VH _ (e ▸ hb)
 |G::Gs,F,i+1,h,hF,hd=>by
  rw[XU,fCq,nAq];rw[fCq,nAq]at h;refine⟨h.1,cZ i h.2.1 hF fun p hp m=>hd p hp (by rw[fCq];exact VH _ m),fun a ha b hb e=>?_⟩
  rcases eC hb with q|q
  .exact hd b q (by rw[fCq];exact WL _ (e ▸ ha))
  .exact h.2.2 a ha b q e
theorem bK.set(R:bK K H₀ Hf₀ Hf S σ H Fs) {av:AV}{v:V}{F:List Addr}(i:Nat) (r:bH K Hf H av v F) (nd:F.Nodup) (hf:∀q∈F,H₀ q=none/\q∉Fs.flatten) :
  bK K H₀ Hf₀ Hf (S.set i (some av)) (σ.set i (some v)) H (Fs.set i F) where
 len:=by simp[R.len]
 lenF:=by simp[R.lenF]
 rep:=fun j a e=>by
  rw[V8]at e
  by_cases hij:i=j
  .subst hij;rw[if_pos rfl]at e;split at e
   .rename_i hi;cases e;exact⟨v,F,by rw[VS (R.len ▸ hi)],by rw[VS (R.lenF.symm ▸ hi)],r⟩
   .cases e
  .rw [if_neg hij]at e;obtain⟨w,G,e1,e2,q⟩:=R.rep j a e;exact⟨w,G,by rw[VA hij];exact e1,by rw[VA hij];exact e2,q⟩
 emp:=fun j e=>by
  rw[V8]at e
  by_cases hij:i=j
  .subst hij;rw[if_pos rfl]at e;split at e <;> cases e
  .rw [if_neg hij]at e;rw[VA hij];exact R.emp j e
 nd:=cZ i R.nd nd fun p hp=>(hf p hp).2
 fresh:=fun p hp=>by
  rcases eC hp with q|q
  .exact (hf p q).1
  .exact R.fresh p q
 sub:=R.sub
 fr:=R.fr
 lim:=R.lim
 sf:=R.sf
theorem cF{i:Nat}{p:Addr}(h:p∈(Fs.set i []).flatten):p∈Fs.flatten:=by
 rcases eC h with q|q
 .cases q
 .exact q
theorem gF:∀{Fs:List (List Addr)}{F:List Addr}{i:Nat}{p:Addr},Fs.flatten.Nodup->Fs[i]?=some F->p∈F->p∉(Fs.set i []).flatten
 | [],F,i,p,_,e,_,_=>by simp at e
 |G::Gs,F,0,p,h,e,hp,m=>by
  simp at e;subst e;rw[Xk,fCq,WQ]at m;rw[fCq,nAq]at h;exact h.2.2 p hp p m rfl
 |G::Gs,F,i+1,p,h,e,hp,m=>by
  rw[XU,fCq]at m;rw[fCq,nAq]at h;have e':Gs[i]?=some F:=by simpa using e
  rcases mAq.mp m with q|q
  .exact h.2.2 p q p (mFq.mpr ⟨F,mGq e',hp⟩) rfl
  .exact gF h.2.1 e' hp q
theorem bK.move(R:bK K H₀ Hf₀ Hf S σ H Fs) {i:Nat}{av:AV}(e:S[i]?=some (some av)):∃v F,σ[i]?=some (some v)/\Fs[i]?=some F/\bH K Hf H av v F/\F.Nodup/\(∀q∈F,H₀ q=none/\q∉(Fs.set i []).flatten) /\
  bK K H₀ Hf₀ Hf (S.set i none) σ H (Fs.set i []):=by
 obtain⟨v,F,e1,e2,r⟩:=R.rep i av e;have hin:∀q∈F,q∈Fs.flatten:=fun q hq=>mFq.mpr ⟨F,mGq e2,hq⟩
 refine⟨v,F,e1,e2,r,V1.sublist (VX (mGq e2)) R.nd,fun q hq=>⟨R.fresh q (hin q hq),gF R.nd e2 hq⟩,?_⟩
 refine⟨by simp[R.len],by simp[R.lenF],fun j a ej=>?_,fun j ej=>?_,cZ i R.nd V6 (fun p hp=>by cases hp),fun p hp=>R.fresh p (cF hp),R.sub,R.fr,R.lim,R.sf⟩
 .rw [V8]at ej
  by_cases hij:i=j
  .subst hij;rw[if_pos rfl]at ej;split at ej <;> cases ej
  .rw [if_neg hij]at ej;obtain⟨w,G,f1,f2,q⟩:=R.rep j a ej;exact⟨w,G,f1,by rw[VA hij];exact f2,q⟩
 .rw [V8]at ej
  by_cases hij:i=j
  .subst hij;rw[if_pos rfl]at ej;split at ej
   .rename_i hi;rw[VS (R.lenF.symm ▸ hi)]
   .cases ej
  .rw [if_neg hij]at ej;rw[VA hij];exact R.emp j ej
theorem bK.frz(R:bK K H₀ Hf₀ Hf S σ H Fs) {F:List Addr}(hf:∀q∈F,H₀ q=none/\q∉Fs.flatten) (hn:∀q∈F,Hf q=none):bK K H₀ Hf₀ (frz Hf H F) S σ H Fs:=by
 refine R.more (.refl _) (eI hn) (Me R.sub) (fun q hq=>?_) fun b h1 h2=>?_
 .rw [hU fun m=>(hf q m).2 hq]
  exact(R.mem hq).2
 .rw [hU fun m=>h2 (hf b m).1]
  exact R.lim b h1 h2
end
abbrev ME:=AS->Option (D×AS)
abbrev MK:=AS->Option (AV×AS)
abbrev ML:=AS->Option (List D×AS)
abbrev MT:=AS->Option (Bool×AS)
abbrev MA:=AS->Option (List AV×AS)
def bu(K:W.Frag) (Hf H:Hp) (avs:List AV) (vs:List V) (Gs:List (List Addr)):Prop :=
 avs.length=vs.length/\avs.length=Gs.length/\∀(i:Nat) (a:AV) (v:V) (F:List Addr),avs[i]?=some a->vs[i]?=some v->Gs[i]?=some F->bH K Hf H a v F
structure nT (H₀ H:Hp) (Fs Fs':List (List Addr)) (F:List Addr):Prop where
 nd:F.Nodup
 fr:∀q∈F,H₀ q=none
 out:∀q∈F,q∉Fs'.flatten
 new:∀q∈F,H q=none∨q∈Fs.flatten
theorem nT.nil{H₀ H:Hp}{Fs Fs':List (List Addr)}:nT H₀ H Fs Fs' []:=⟨V6,fun q h=>(by cases h),fun q h=>(by cases h),fun q h=>(by cases h)⟩
section
variable (K:W.Frag)
def SR(te:TE) (m:ME):Prop:=∀{H₀ Hf₀ Hf:Hp}{S:AS}{σ:St}{H:Hp}{Fs:List (List Addr)}{d:D}{S':AS},bK K H₀ Hf₀ Hf S σ H Fs->m S=some (d,S')->∀Q:VK,
 (∀Hf' H' Fs' v,nW Hf H Fs Hf' H' Fs'->bK K H₀ Hf₀ Hf' S' σ H' Fs'->cT K H' d v->Q v H')->te σ H Q
def SK(te:TE) (m:MK):Prop:=∀{H₀ Hf₀ Hf:Hp}{S:AS}{σ:St}{H:Hp}{Fs:List (List Addr)}{a:AV}{S':AS},bK K H₀ Hf₀ Hf S σ H Fs->m S=some (a,S')->∀Q:VK,
 (∀Hf' H' Fs' v F,nW Hf H Fs Hf' H' Fs'->bK K H₀ Hf₀ Hf' S' σ H' Fs'->bH K Hf' H' a v F->nT H₀ H Fs Fs' F->Q v H')->te σ H Q
def SL(te:TE) (m:ML):Prop:=∀{H₀ Hf₀ Hf:Hp}{S:AS}{σ:St}{H:Hp}{Fs:List (List Addr)}{ds:List D}{S':AS},bK K H₀ Hf₀ Hf S σ H Fs->m S=some (ds,S')->∀Q:VK,
 (∀Hf' H' Fs' p vs,nW Hf H Fs Hf' H' Fs'->bK K H₀ Hf₀ Hf' S' σ H' Fs'->H' p=some (.lst vs)->bY K Hf' ds vs->Q (.ref p) H')->te σ H Q
def xj(tt:TT) (m:MT):Prop:=∀{H₀ Hf₀ Hf:Hp}{S:AS}{σ:St}{H:Hp}{Fs:List (List Addr)}{b:Bool}{S':AS},bK K H₀ Hf₀ Hf S σ H Fs->m S=some (b,S')->∀Q:Bool->Hp->Prop,
 (∀Hf' H' Fs',nW Hf H Fs Hf' H' Fs'->bK K H₀ Hf₀ Hf' S' σ H' Fs'->Q b H')->tt σ H Q
def SA(ta:TA) (m:MA):Prop:=∀{H₀ Hf₀ Hf:Hp}{S:AS}{σ:St}{H:Hp}{Fs:List (List Addr)}{as:List AV}{S':AS},bK K H₀ Hf₀ Hf S σ H Fs->m S=some (as,S')->∀Q:List V->Hp->Prop,
 (∀Hf' H' Fs' vs Gs,nW Hf H Fs Hf' H' Fs'->bK K H₀ Hf₀ Hf' S' σ H' Fs'->bu K Hf' H' as vs Gs->nT H₀ H Fs Fs' Gs.flatten->Q vs H')->ta σ H Q
def JO(ta:TA) (m:ML):Prop:=∀{H₀ Hf₀ Hf:Hp}{S:AS}{σ:St}{H:Hp}{Fs:List (List Addr)}{ds:List D}{S':AS},bK K H₀ Hf₀ Hf S σ H Fs->m S=some (ds,S')->∀Q:List V->Hp->Prop,
 (∀Hf' H' Fs' vs,nW Hf H Fs Hf' H' Fs'->bK K H₀ Hf₀ Hf' S' σ H' Fs'->bY K H' ds vs->Q vs H')->ta σ H Q
end
section
variable {K:W.Frag}{H₀ Hf₀ Hf Hf' H H':Hp}{S S':AS}{σ:St}{Fs Fs':List (List Addr)}
theorem bH.stp{av:AV}{v:V}{F:List Addr}(r:bH K Hf H av v F) (ho:∀q∈F,q∉Fs.flatten) (t:nW Hf H Fs Hf' H' Fs'):bH K Hf' H' av v F :=
 r.keep t.sf (fun q hq=>DB t.sh (r.owned q hq).1) fun q hq=>by
  by_cases e:Hf' q=none
  .exact e
  .rcases t.gr q (r.owned q hq).2 e with z|z
   .exact absurd z (r.owned q hq).1
   .exact absurd z (ho q hq)
theorem bK.new(R:bK K H₀ Hf₀ Hf S σ H Fs) {p:Addr}{o:HO}(hp:H p=none):nW Hf H Fs Hf (bW H p o) Fs/\bK K H₀ Hf₀ Hf S σ (bW H p o) Fs/\Hf p=none/\H₀ p=none/\p∉Fs.flatten :=
 ⟨⟨.refl _,cX hp,fun _ h=>h,fun b h g=>absurd h g⟩,R.laid (cX hp),R.sub.free hp,R.fr.free hp,fun m=>(R.mem m).1 hp⟩
theorem eJ(n:Nat):(VM n ([]:List Addr)).flatten=[]:=by
 induction n with
 |zero=>rfl
 |succ n ih=>rw[Y8,fCq,ih];rfl
theorem bH.new{p:Addr}{vs:List V}{ds:List D}(h:H p=some (.lst vs)) (n:Hf p=none) (r:bY K Hf ds vs):bH K Hf H (.ow (ds.map .sh)) (.ref p) [p]:=by
 have e:[p]=p::(VM ds.length ([]:List Addr)).flatten:=by rw[eJ]
 rw[e];refine .ow h n (by simp[r.1]) (by simp) fun i a v F h1 h2 h3=>?_
 rw[gMq]at h1;cases q:ds[i]? with
 |none=>rw[q]at h1;cases h1
 |some d =>
  rw[q]at h1;cases h1;have:F=[]:=Xa (mGq h3);subst this;exact .sh (r.2 i d v q h2)
theorem bH.news{p:Addr}{vs:List V}{avs:List AV}{Gs:List (List Addr)}(h:H p=some (.lst vs)) (n:Hf p=none) (r:bu K Hf H avs vs Gs):bH K Hf H (.ow avs) (.ref p) (p::Gs.flatten):=.ow h n r.1 r.2.1 r.2.2
theorem bH.ow_inv{avs:List AV}{v:V}{F:List Addr}(h:bH K Hf H (.ow avs) v F):∃p vs Gs,v = .ref p/\F=p::Gs.flatten/\H p=some (.lst vs)/\Hf p=none/\bu K Hf H avs vs Gs:=by
 cases h with
 |ow h n l lf e=>exact⟨_,_,_,rfl,rfl,h,n,l,lf,e⟩
theorem bH.owd_inv{ds:List (bI×D)}{v:V}{F:List Addr}(h:bH K Hf H (.owd ds) v F):∃p az,v = .ref p/\F=[p]/\H p=some (.dK az)/\Hf p=none/\gO K Hf ds az:=by
 cases h with
 |owd h n r=>exact⟨_,_,rfl,rfl,h,n,r⟩
theorem bH.sh_inv{d:D}{v:V}{F:List Addr}(h:bH K Hf H (.sh d) v F):F=[]/\cT K Hf d v:=by
 cases h with
 |sh r=>exact⟨rfl,r⟩
theorem bK.give{H1:Hp}{Fs1:List (List Addr)}(R:bK K H₀ Hf₀ Hf' S σ H1 Fs1) (t:nW Hf H Fs Hf' H1 Fs1) {av:AV}{v:V}{F:List Addr}(r:bH K Hf' H1 av v F) (o:nT H₀ H Fs Fs1 F) :
  bK K H₀ Hf₀ (Z.frz Hf' H1 F) S σ H1 Fs1/\cT K (Z.frz Hf' H1 F) (aE av) v/\nW Hf H Fs (Z.frz Hf' H1 F) H1 Fs1:=by
 have n:∀q∈F,Hf' q=none:=fun q hq=>(r.owned q hq).2
 refine⟨R.frz (fun q hq=>⟨o.fr q hq,o.out q hq⟩) n,r.frozen (eI n) fun q hq=>oR hq,t.sf.trans (eI n),t.sh,t.own,fun b h g=>?_⟩
 by_cases m:b∈F
 .exact o.new b m
 .rw [hU m]at g;exact t.gr b h g
theorem bu.nil:bu K Hf H [] [] []:=⟨rfl,rfl,fun i a v F h=>by simp at h⟩
theorem bu.cons{a:AV}{v:V}{F:List Addr}{as:List AV}{vs:List V}{Gs:List (List Addr)}(h:bH K Hf H a v F) (t:bu K Hf H as vs Gs):bu K Hf H (a::as) (v::vs) (F::Gs) :=
 ⟨by simp[t.1],by simp[t.2.1],fun i b w G h1 h2 h3=>by
  cases i with
  |zero =>
   simp at h1 h2 h3;subst h1 h2 h3;exact h
  |succ i=>exact t.2.2 i b w G (by simpa using h1) (by simpa using h2) (by simpa using h3)⟩
theorem bu.nil_inv{vs:List V}{Gs:List (List Addr)}(h:bu K Hf H [] vs Gs):vs=[]/\Gs=[]:=by
 obtain⟨a,b,_⟩:=h;exact⟨Wo.mp a.symm,Wo.mp b.symm⟩
theorem bu.cons_inv{a:AV}{as:List AV}{vs:List V}{Gs:List (List Addr)}(h:bu K Hf H (a::as) vs Gs):∃v ws F Gs',vs=v::ws/\Gs=F::Gs'/\bH K Hf H a v F/\bu K Hf H as ws Gs':=by
 obtain⟨h1,h2,h3⟩:=h;cases vs with
 |nil=>simp at h1
 |cons v ws =>
  cases Gs with
  |nil=>simp at h2
  |cons F Gs'=>exact⟨v,ws,F,Gs',rfl,rfl,h3 0 a v F rfl rfl rfl,by simpa using h1,by simpa using h2,fun i b w G q1 q2 q3=>h3 (i+1) b w G (by simpa using q1) (by simpa using q2) (by simpa using q3)⟩
theorem bu.frozen(h:bu K Hf H as vs Gs) (s:bB Hf Hf') (hk:∀q∈Gs.flatten,Hf' q=H q):bY K Hf' (as.map aE) vs :=
 ⟨by simp[h.1],fun i d v h1 h2=>by
  rw[gMq]at h1;cases ea:as[i]? with
  |none=>rw[ea]at h1;cases h1
  |some a =>
   rw[ea]at h1;cases h1;have hi:i<Gs.length:=h.2.1 ▸ (gSq.mp ea).1;exact(h.2.2 i a v Gs[i] ea h2 (gEg hi)).frozen s fun q hq=>hk q (mFq.mpr ⟨Gs[i],gRq hi,hq⟩)⟩
theorem bu.owned(h:bu K Hf H as vs Gs):∀q∈Gs.flatten,H q≠none/\Hf q=none:=fun q hq=>by
 obtain⟨F,hF,hq⟩:=mFq.mp hq;obtain⟨i,hi,rfl⟩:=WM.mp hF;have h1:i<as.length:=h.2.1.symm ▸ hi;have h2:i<vs.length:=h.1 ▸ h1;exact(h.2.2 i as[i] vs[i] Gs[i] (gEg h1) (gEg h2) (gEg hi)).owned q hq
theorem bK.gives{H1:Hp}{Fs1:List (List Addr)}(R:bK K H₀ Hf₀ Hf' S σ H1 Fs1) (t:nW Hf H Fs Hf' H1 Fs1) {as:List AV}{vs:List V}{Gs:List (List Addr)}(r:bu K Hf' H1 as vs Gs) (o:nT H₀ H Fs Fs1 Gs.flatten) :
  bK K H₀ Hf₀ (Z.frz Hf' H1 Gs.flatten) S σ H1 Fs1/\bY K (Z.frz Hf' H1 Gs.flatten) (as.map aE) vs/\nW Hf H Fs (Z.frz Hf' H1 Gs.flatten) H1 Fs1:=by
 have n:∀q∈Gs.flatten,Hf' q=none:=fun q hq=>(r.owned q hq).2
 refine⟨R.frz (fun q hq=>⟨o.fr q hq,o.out q hq⟩) n,r.frozen (eI n) fun q hq=>oR hq,t.sf.trans (eI n),t.sh,t.own,fun b h g=>?_⟩
 by_cases m:b∈Gs.flatten
 .exact o.new b m
 .rw [hU m]at g;exact t.gr b h g
theorem nT.stp{Hf1 H1 Hf2 H2:Hp}{Fs1 Fs2:List (List Addr)}{F:List Addr}(o:nT H₀ H Fs Fs1 F) (t:nW Hf1 H1 Fs1 Hf2 H2 Fs2):nT H₀ H Fs Fs2 F:=⟨o.nd,o.fr,fun q h m=>o.out q h (t.own q m),o.new⟩
theorem nT.back{Hf1 H1:Hp}{Fs1 Fs2:List (List Addr)}{F:List Addr}(t:nW Hf H Fs Hf1 H1 Fs1) (o:nT H₀ H1 Fs1 Fs2 F):nT H₀ H Fs Fs2 F:=⟨o.nd,o.fr,o.out,fun q h=>(o.new q h).elim (fun e=>.inl (t.sh.free e)) fun m=>.inr (t.own q m)⟩
theorem nT.app{F G:List Addr}(a:nT H₀ H Fs Fs' F) (b:nT H₀ H Fs Fs' G) (d:∀q∈F,q∉G):nT H₀ H Fs Fs' (F++G) :=
 ⟨nAq.mpr ⟨a.nd,b.nd,fun x hx y hy e=>d x hx (e ▸ hy)⟩,fun q h=>(mAq.mp h).elim (a.fr q) (b.fr q),fun q h=>(mAq.mp h).elim (a.out q) (b.out q),fun q h=>(mAq.mp h).elim (a.new q) (b.new q)⟩
theorem nT.apart{Hf1 H1:Hp}{Fs1 Fs2:List (List Addr)}{F G:List Addr}(a:nT H₀ H Fs Fs1 F) (ha:∀q∈F,H1 q≠none) (b:nT H₀ H1 Fs1 Fs2 G):∀q∈F,q∉G:=fun q h m=>by
 rcases b.new q m with e|e
 .exact ha q h e
 .exact a.out q h e
theorem nT.one(R:bK K H₀ Hf₀ Hf S σ H Fs) {p:Addr}(hp:H p=none):nT H₀ H Fs Fs [p] :=
 ⟨by simp,fun q h=>by rw[mSq.mp h];exact R.fr.free hp,fun q h m=>by rw[mSq.mp h]at m;exact(R.mem m).1 hp,fun q h=>by rw[mSq.mp h];exact .inl hp⟩
end
def aq(i:Nat):ME:=fun S=>(S[i]?.join).map fun a=>(aE a,S)
noncomputable def aH(i:Nat):MK:=fun S=>(S[i]?.join).map fun a=>(.sh (aE a),S.set i (some (.sh (aE a))))
noncomputable def pP(i:Nat):MK:=fun S=>(S[i]?.join).map fun a=>(a,S.set i none)
noncomputable def kE(i:Nat):ML:=fun S=>match S[i]?.join with
 |some (.sh (.list ds))=>some (ds,S)
 |some (.ow avs)=>some (avs.map aE,S.set i (some (.ow ((avs.map aE).map .sh))))
 |_=>none
def rOf(k:MK):ME:=fun S=>(k S).map fun x=>(aE x.1,x.2)
def kSc(m:ME):MK:=fun S=>(m S).bind fun x=>if x.1.scal then some (.sh x.1,x.2) else none
noncomputable def lOf(k:MK):ML:=fun S=>(k S).bind fun x=>match x.1 with
 | .sh (.list ds)=>some (ds,x.2)
 | .ow avs=>some (avs.map aE,x.2)
 |_=>none
noncomputable def iI(k:MK):MK:=fun S=>(k S).map fun x=>(.sh (aE x.1),x.2)
def rC(d:D):ME:=fun S=>if d.scal then some (d,S) else none
section
variable {K:W.Frag}
theorem bP{S:AS}{i:Nat}{a:AV}(h:S[i]?.join=some a):S[i]?=some (some a):=by
 cases e:S[i]? with
 |none=>rw[e]at h;cases h
 |some z=>rw[e]at h;exact congrArg some h
theorem ah(i:Nat):SR K (iE i) (aq i):=by
 intro H₀ Hf₀ Hf S σ H Fs d S' R e Q q;obtain⟨a,ea,e⟩:=oMq.mp e;cases e;obtain⟨v,F,s1,s2,r⟩:=R.rep i a (bP ea);exact⟨v,s1,q _ _ _ v .refl R (r.rep R.sub)⟩
theorem jH(i:Nat):SK K (iE i) (pP i):=by
 intro H₀ Hf₀ Hf S σ H Fs a S' R e Q q;obtain⟨b,ea,e⟩:=oMq.mp e;cases e;obtain⟨v,F,s1,s2,r,nd,o,R1⟩:=R.move (bP ea);exact⟨v,s1,q _ _ _ v F ⟨.refl _,.refl _,fun p hp=>cF hp,fun b h g=>absurd h g⟩ R1 r ⟨nd,fun q hq=>(o q hq).1,fun q hq=>(o q hq).2,fun q hq=>.inr (mFq.mpr ⟨F,mGq s2,hq⟩)⟩⟩
theorem bK.again{H₀ Hf₀ Hf H:Hp}{S:AS}{σ:St}{Fs:List (List Addr)}{i:Nat}{av:AV}{v:V}{F G:List Addr}(R:bK K H₀ Hf₀ Hf (S.set i none) σ H (Fs.set i [])) (s1:σ[i]?=some (some v)) (r:bH K Hf H av v G) (nd:G.Nodup) (hf:∀q∈G,H₀ q=none/\q∉(Fs.set i []).flatten) :
  bK K H₀ Hf₀ Hf (S.set i (some av)) σ H (Fs.set i G):=by
 have R2:=R.set i r nd hf;rw[Yh,Yh]at R2;have e:σ.set i (some v)=σ:=by
  obtain⟨hk,ev⟩:=gSq.mp s1;rw[←ev];exact Xw hk
 rw[e]at R2;exact R2
theorem aA(i:Nat):SK K (iE i) (aH i):=by
 intro H₀ Hf₀ Hf S σ H Fs a S' R e Q q;obtain⟨b,ea,e⟩:=oMq.mp e;cases e;obtain⟨v,F,s1,s2,r,nd,o,R1⟩:=R.move (bP ea);have n:∀q∈F,Hf q=none:=fun q hq=>(r.owned q hq).2
 have R2:=R1.frz o n;have r2:=r.frozen (eI (H:=H) n) fun q hq=>oR hq
 have R3:=R2.again (F:=F) (G:=[]) s1 (.sh r2) V6 fun q h=>(by cases h)
 refine⟨v,s1,q _ _ _ v [] ⟨eI n,.refl _,fun p hp=>cF hp,fun b h g=>?_⟩ R3 (.sh r2) .nil⟩
 by_cases m:b∈F
 .exact .inr (mFq.mpr ⟨F,mGq s2,m⟩)
 .rw [hU m]at g;exact absurd h g
theorem jA(i:Nat):SL K (iE i) (kE i):=by
 intro H₀ Hf₀ Hf S σ H Fs ds S' R e Q q;unfold kE at e;split at e
 .rename_i ds' ea;cases e;obtain⟨v,F,s1,s2,r⟩:=R.rep i _ (bP ea);obtain⟨p,vs,rfl,h1,h2⟩:=r.sh_inv.2.list_inv;exact⟨_,s1,q _ _ _ p vs .refl R (R.sub _ _ h1) h2⟩
 .rename_i avs ea;cases e;obtain⟨v,F,s1,s2,r,nd,o,R1⟩:=R.move (bP ea);obtain⟨p,vs,Gs,rfl,rfl,h1,h2,h3⟩:=r.ow_inv;have n:∀q∈Gs.flatten,Hf q=none:=fun q hq=>(h3.owned q hq).2
  have R2:=R1.frz (F:=Gs.flatten) (fun q hq=>o q (mCo _ hq)) n
  have r2:=h3.frozen (eI (H:=H) n) fun q hq=>oR hq
  have np:p∉Gs.flatten:=(Vx.mp nd).1;have r3:bH K (Z.frz Hf H Gs.flatten) H (.ow ((avs.map aE).map .sh)) (.ref p) [p]:=bH.new h1 (by rw[hU np];exact h2) r2
  have R3:=R2.again (F:=p::Gs.flatten) (G:=[p]) s1 r3 (by simp) fun q hq=>by rw[mSq.mp hq];exact o p (by simp)
  refine⟨_,s1,q _ _ _ p vs ⟨eI n,.refl _,fun b hb=>?_,fun b h g=>?_⟩ R3 h1 r2⟩
  .rcases eC hb with z|z
   .rw [mSq.mp z];exact mFq.mpr ⟨_,mGq s2,by simp⟩
   .exact z
  .by_cases m:b∈Gs.flatten
   .exact .inr (mFq.mpr ⟨_,mGq s2,mCo _ m⟩)
   .rw [hU m]at g;exact absurd h g
 .cases e
theorem SK.rOf{te:TE}{k:MK}(h:SK K te k):SR K te (rOf k):=by
 intro H₀ Hf₀ Hf S σ H Fs d S' R e Q q;obtain⟨x,ea,e⟩:=oMq.mp e;cases e;exact h R (a:=x.1) (S':=x.2) ea Q fun Hf' H' Fs' v F t R' r o=>q _ _ _ v t R' (r.rep R'.sub)
theorem SR.kSc{te:TE}{m:ME}(h:SR K te m):SK K te (kSc m):=by
 intro H₀ Hf₀ Hf S σ H Fs a S' R e Q q;obtain⟨x,ea,e⟩:=oBq.mp e;split at e
 .rename_i hs;cases e;exact h R (d:=x.1) (S':=x.2) ea Q fun Hf' H' Fs' v t R' r=>q _ _ _ v [] t R' (.sh (r.scal hs)) .nil
 .cases e
theorem SK.frz{te:TE}{k:MK}(h:SK K te k):SK K te (iI k):=by
 intro H₀ Hf₀ Hf S σ H Fs a S' R e Q q;obtain⟨x,ea,e⟩:=oMq.mp e;cases e;refine h R (a:=x.1) (S':=x.2) ea Q fun Hf' H' Fs' v F t R' r o=>?_
 obtain⟨R2,r2,t2⟩:=R'.give t r o;exact q _ _ _ v [] t2 R2 (.sh r2) .nil
theorem SK.lOf{te:TE}{k:MK}(h:SK K te k):SL K te (lOf k):=by
 intro H₀ Hf₀ Hf S σ H Fs ds S' R e Q q;obtain⟨x,ea,e⟩:=oBq.mp e;refine h R (a:=x.1) (S':=x.2) ea Q fun Hf' H' Fs' v F t R' r o=>?_
 split at e
 .rename_i ds' hx;cases e;rw[hx]at r;obtain⟨p,vs,rfl,h1,h2⟩:=r.sh_inv.2.list_inv;exact q _ _ _ p vs t R' (R'.sub _ _ h1) h2
 .rename_i avs hx;cases e;obtain⟨R2,r2,t2⟩:=R'.give t r o;rw[hx,hZ]at r2;obtain⟨p,vs,rfl,h1,h2⟩:=r2.list_inv;exact q _ _ _ p vs t2 R2 (R2.sub _ _ h1) h2
 .cases e
theorem Ge{v:V}{d:D}(h:∀H,cT K H d v):SR K (tC v) (rC d):=by
 intro H₀ Hf₀ Hf S σ H Fs d' S' R e Q q;unfold rC at e;split at e
 .cases e;exact q _ _ _ v .refl R (h _)
 .cases e
theorem aD{i:Int}:SR K (tC (.int i)) (rC (.int i)):=Ge fun _=>.int
theorem ff{i:Str}:SR K (tC (.str i)) (rC (.str i)):=Ge fun _=>.str
theorem qI{i:Bool}:SR K (tC (.bl i)) (rC (.bl i)):=Ge fun _=>.bl
theorem mO:SR K (tC .non) (rC .non):=Ge fun _=>.non
theorem mI{T:String}:SR K (tC (.ty T)) (rC (.ty T)):=Ge fun _=>.ty
end
def iD{α:Type}(p:Prop) (x:Option α):Option α:=@ite (Option α) p (YE p) x none
theorem iV{α:Type}{p:Prop}(h:p) (x:Option α):iD p x=x:=if_pos h
theorem kz{α:Type}(x:Option α):iD True x=x:=if_pos trivial
theorem bC{α:Type}{p:Prop}{x y:Option α}(h:iD p x=y):(p/\x=y)∨none=y:=by
 by_cases c:p
 .rw [iV c]at h;exact .inl ⟨c,h⟩
 .exact .inr ((@if_neg p (YE p) c _ x none).symm.trans h)
noncomputable def bV(f:D->D->Option D) (a b:ME):ME:=fun S=>(a S).bind fun x=>(b x.2).bind fun y=>(f x.1 y.1).map fun d=>(d,y.2)
noncomputable def kr(f:D->Option D) (a:ME):ME:=fun S=>(a S).bind fun x=>(f x.1).map fun d=>(d,x.2)
def yX(K:W.Frag) (r:R2) (f:D->D->Option D):Prop:=∀{x y:V}{H:Hp}{Q:VK}{dx dy d:D},cT K H dx x->cT K H dy y->f dx dy=some d->(∀v,cT K H d v->Q v H)->r x y H Q
def Ut(K:W.Frag) (r:V->Hp->VK->Prop) (f:D->Option D):Prop:=∀{x:V}{H:Hp}{Q:VK}{dx d:D},cT K H dx x->f dx=some d->(∀v,cT K H d v->Q v H)->r x H Q
section
variable {K:W.Frag}{r:R2}{f:D->D->Option D}{ta tb:TE}{a b:ME}
theorem aN(hr:yX K r f) (ha:SR K ta a) (hb:SR K tb b):SR K (Lb r ta tb) (bV f a b):=by
 intro H₀ Hf₀ Hf S σ H Fs d S' R e Q q;obtain⟨x,e1,e⟩:=oBq.mp e;obtain⟨y,e2,e⟩:=oBq.mp e;obtain⟨z,e3,e⟩:=oMq.mp e;cases e;refine ha R (d:=x.1) (S':=x.2) e1 _ fun Hf1 H1 Fs1 v1 t1 R1 r1=>hb R1 (d:=y.1) (S':=y.2) e2 _ fun Hf2 H2 Fs2 v2 t2 R2 r2=>?_
 exact hr (r1.mono t2.sh) r2 e3 fun v rv=>q _ _ _ v (t1.trans t2) R2 rv
theorem iQ{r:V->Hp->VK->Prop}{f:D->Option D}(hr:Ut K r f) (ha:SR K ta a):SR K (UE r ta) (kr f a):=by
 intro H₀ Hf₀ Hf S σ H Fs d S' R e Q q;obtain⟨x,e1,e⟩:=oBq.mp e;obtain⟨z,e3,e⟩:=oMq.mp e;cases e;exact ha R (d:=x.1) (S':=x.2) e1 _ fun Hf1 H1 Fs1 v1 t1 R1 r1=>hr r1 e3 fun v rv=>q _ _ _ v t1 R1 rv
end
def Du(c:Int->Int->Prop) (g:Int->Int->D):D->D->Option D
 | .int i,.int j=>iD (c i j) (some (g i j))
 |_,_=>none
def Ux(g:Int->D):D->Option D
 | .int i=>some (g i)
 |_=>none
abbrev lK:=Du (fun _ _=>True) fun i j=>.int (i+j)
abbrev KH:=Du (fun _ _=>True) fun i j=>.int (i-j)
abbrev xO:=Du FQ fun i j=>.int (i*j)
abbrev il:=Du (fun _ j=>0<j) fun i j=>.int (i % j)
abbrev AM:=Du OI fun i j=>.int (i / j)
abbrev Ga:=Du OR fun i j=>.int (i ^ j.toNat)
abbrev JN:=Du (fun _ _=>True) fun i j=>.bl (decide (i<j))
abbrev Vl:=Du (fun _ _=>True) fun i j=>.bl (decide (i<=j))
abbrev A0:=Du (fun _ _=>True) fun i j=>.bl (decide (j<i))
abbrev Vn:=Du (fun _ _=>True) fun i j=>.bl (decide (j<=i))
abbrev gn:=Ux fun i=>.int (-i)
noncomputable def yV:D->D->Option D
 | .int i,.int j=>some (.bl (decide (i=j)))
 | .str i,.str j=>some (.bl (decide (i=j)))
 | .bl i,.bl j=>some (.bl (decide (i=j)))
 | .non,.non=>some (.bl true)
 | .non,.int _=>some (.bl false)
 | .int _,.non=>some (.bl false)
 | .non,.str _=>some (.bl false)
 | .str _,.non=>some (.bl false)
 | .non,.bl _=>some (.bl false)
 | .bl _,.non=>some (.bl false)
 | .int _,.str _=>some (.bl false)
 | .str _,.int _=>some (.bl false)
 |_,_=>none
def DV:D->Option D
 | .bl b=>some (.bl (!b))
 |_=>none
def KB(x y:D):Option D:=(yV x y).bind DV
section
variable {K:W.Frag}
theorem Cf{C:Int->Int->Prop}{g:Int->Int->V}{g':Int->Int->D}(hg:∀H i j,cT K H (g' i j) (g i j)):yX K (rI C g) (Du C g'):=by
 intro x y H Q dx dy d rx ry e q;unfold Du at e;split at e
 .rename_i i j;cases rx;cases ry;rcases bC e with ⟨h,e⟩|e
  .cases e;exact⟨i,j,rfl,rfl,h,q _ (hg H i j)⟩
  .cases e
 .cases e
theorem xy{g:Int->Int->V}{g':Int->Int->D}(hg:∀H i j,cT K H (g' i j) (g i j)):yX K (G4 g) (Du (fun _ _=>True) g'):=by
 intro x y H Q dx dy d rx ry e q;unfold Du at e;split at e
 .rename_i i j;cases rx;cases ry;rw[kz]at e;cases e;exact⟨i,j,rfl,rfl,q _ (hg H i j)⟩
 .cases e
theorem lW:yX K (G4 fun i j=>.int (i+j)) lK:=xy fun _ _ _=>.int
theorem O2:yX K (G4 fun i j=>.int (i-j)) KH:=xy fun _ _ _=>.int
theorem Gd:yX K (rI FQ fun i j=>.int (i*j)) xO:=Cf fun _ _ _=>.int
theorem iF:yX K (rI (fun _ j=>0<j) fun i j=>.int (i % j)) il:=Cf fun _ _ _=>.int
theorem xq:yX K (rI OI fun i j=>.int (i / j)) AM:=Cf fun _ _ _=>.int
theorem FT:yX K (rI OR fun i j=>.int (i ^ j.toNat)) Ga:=Cf fun _ _ _=>.int
theorem Cj:yX K (G4 fun i j=>.bl (decide (i<j))) JN:=xy fun _ _ _=>.bl
theorem su:yX K (G4 fun i j=>.bl (decide (j<i))) A0:=xy fun _ _ _=>.bl
theorem fF:Ut K (rU fun i=>.int (-i)) gn:=by
 intro x H Q dx d rx e q;cases rx <;> simp only[Ux]at e
 all_goals first|(exfalso;simp at e;done)|skip
 rename_i i;cases e;exact⟨i,rfl,q _ .int⟩
theorem pB:yX K UA yV:=by
 intro x y H Q dx dy d rx ry e q;unfold yV at e;split at e
 all_goals first|(cases e;done)|skip
 all_goals (cases rx;cases ry;cases e;refine⟨rfl,q _ ?_⟩;simp only[reduceCtorEq,decide_false,decide_true,V.int.injEq,V.str.injEq,V.bl.injEq];exact .bl)
theorem Cs:yX K UG KB:=by
 intro x y H Q dx dy d rx ry e q;obtain⟨b,e1,e2⟩:=oBq.mp e;obtain⟨h1,h2⟩:=pB rx ry e1 (Q:=fun v _=>cT K H b v) fun v h=>h
 cases h2;cases e2;exact⟨h1,q _ .bl⟩
end
noncomputable def AJ(a b:ME):ME:=fun S=>(a S).bind fun x=>match x.1 with
 | .bl true=>b x.2
 | .bl false=>some (.bl false,x.2)
 |_=>none
noncomputable def Vo(a b:ME):ME:=fun S=>(a S).bind fun x=>match x.1 with
 | .bl true=>some (.bl true,x.2)
 | .bl false=>b x.2
 |_=>none
def Np(a:ME):ME:=kr DV a
noncomputable def dC(a:ME):MT:=fun S=>(a S).bind fun x=>match x.1 with
 | .bl b=>some (b,x.2)
 |_=>none
noncomputable def wx(a b:MT):MT:=fun S=>(a S).bind fun x=>if x.1=true then b x.2 else some (false,x.2)
noncomputable def vO(a b:MT):MT:=fun S=>(a S).bind fun x=>if x.1=true then some (true,x.2) else b x.2
def eh(a:MT):MT:=fun S=>(a S).map fun x=>(!x.1,x.2)
noncomputable def Vm(c:MT) (a b:ME):ME:=fun S=>(c S).bind fun x=>if x.1=true then a x.2 else b x.2
noncomputable def Vr(c:MT) (a b:MK):MK:=fun S=>(c S).bind fun x=>if x.1=true then a x.2 else b x.2
section
variable {K:W.Frag}{ta tb:TE}{a b:ME}{ca cb:TT}{ma mb:MT}
theorem xY(ha:SR K ta a) (hb:SR K tb b):SR K (M7 ta tb) (AJ a b):=by
 intro H₀ Hf₀ Hf S σ H Fs d S' R e Q q;obtain⟨x,e1,e⟩:=oBq.mp e;refine ha R (d:=x.1) (S':=x.2) e1 _ fun Hf1 H1 Fs1 v1 t1 R1 r1=>?_
 split at e
 .rename_i hx;rw[hx]at r1;cases r1;exact⟨true,rfl,zR (hb R1 e Q fun Hf2 H2 Fs2 v2 t2 R2 r2=>q _ _ _ v2 (t1.trans t2) R2 r2)⟩
 .rename_i hx;rw[hx]at r1;cases r1;cases e;exact⟨false,rfl,yZ (q _ _ _ _ t1 R1 .bl)⟩
 .cases e
theorem OM(ha:SR K ta a):SR K (Mn ta) (Np a):=by
 intro H₀ Hf₀ Hf S σ H Fs d S' R e Q q;obtain⟨x,e1,e⟩:=oBq.mp e;obtain⟨z,e3,e⟩:=oMq.mp e;cases e;refine ha R (d:=x.1) (S':=x.2) e1 _ fun Hf1 H1 Fs1 v1 t1 R1 r1=>?_
 cases hx:x.1 <;> rw[hx]at e3 r1 <;> simp only[DV]at e3
 all_goals first|(exfalso;simp at e3;done)|skip
 cases r1;cases e3;exact⟨_,rfl,q _ _ _ _ t1 R1 .bl⟩
theorem ip(ha:SR K ta a):xj K (tB ta) (dC a):=by
 intro H₀ Hf₀ Hf S σ H Fs d S' R e Q q;obtain⟨x,e1,e⟩:=oBq.mp e;refine ha R (d:=x.1) (S':=x.2) e1 _ fun Hf1 H1 Fs1 v1 t1 R1 r1=>?_
 split at e
 .rename_i b hx;rw[hx]at r1;cases r1;cases e;exact⟨_,rfl,q _ _ _ t1 R1⟩
 .cases e
theorem bz(ha:SR K ta a):xj K (MV ta) (dC a):=ip ha
theorem Im(ha:xj K ca ma) (hb:xj K cb mb):xj K (Rg ca cb) (wx ma mb):=by
 intro H₀ Hf₀ Hf S σ H Fs d S' R e Q q;obtain⟨x,e1,e⟩:=oBq.mp e;refine ha R (b:=x.1) (S':=x.2) e1 _ fun Hf1 H1 Fs1 t1 R1=>?_
 split at e
 .rename_i hx;rw[hx];exact zR (hb R1 e Q fun Hf2 H2 Fs2 t2 R2=>q _ _ _ (t1.trans t2) R2)
 .rename_i hx;cases e;rw[W1]at hx;rw[hx];exact yZ (q _ _ _ t1 R1)
theorem DA(ha:xj K ca ma) (hb:xj K cb mb):xj K (UB ca cb) (vO ma mb):=by
 intro H₀ Hf₀ Hf S σ H Fs d S' R e Q q;obtain⟨x,e1,e⟩:=oBq.mp e;refine ha R (b:=x.1) (S':=x.2) e1 _ fun Hf1 H1 Fs1 t1 R1=>?_
 split at e
 .rename_i hx;cases e;rw[hx];exact zR (q _ _ _ t1 R1)
 .rename_i hx;rw[W1]at hx;rw[hx];exact yZ (hb R1 e Q fun Hf2 H2 Fs2 t2 R2=>q _ _ _ (t1.trans t2) R2)
theorem jJ(ha:xj K ca ma):xj K (Qd ca) (eh ma):=by
 intro H₀ Hf₀ Hf S σ H Fs d S' R e Q q;obtain⟨x,e1,e⟩:=oMq.mp e;cases e;exact ha R (b:=x.1) (S':=x.2) e1 _ fun Hf1 H1 Fs1 t1 R1=>q _ _ _ t1 R1
end
abbrev dg:Nat:=16777216
theorem gC:sizeLine=dg:=sizeLine_eq
def SQ(K:W.Frag) (te:TE) (m:ML):Prop:=∀{H₀ Hf₀ Hf:Hp}{S:AS}{σ:St}{H:Hp}{Fs:List (List Addr)}{ds:List D}{S':AS},bK K H₀ Hf₀ Hf S σ H Fs->m S=some (ds,S')->∀Q:VK,
 (∀Hf' H' Fs' p vs,nW Hf H Fs Hf' H' Fs'->bK K H₀ Hf₀ Hf' S' σ H' Fs'->dJ K H' p vs->bY K Hf' ds vs->Q (.ref p) H')->te σ H Q
theorem SL.q{K:W.Frag}{te:TE}{m:ML}(h:SL K te m):SQ K te m:=by
 intro H₀ Hf₀ Hf S σ H Fs ds S' R e Q q;exact h R e Q fun Hf' H' Fs' p vs t R' hp r=>q _ _ _ p vs t R' (dJ.of hp) r
noncomputable def jO(i:Nat):ML:=fun S=>match S[i]?.join with
 |some (.sh (.scr ns))=>some (ns.map .int,S)
 |some (.sh (.list ds))=>some (ds,S)
 |some (.ow avs)=>some (avs.map aE,S.set i (some (.ow ((avs.map aE).map .sh))))
 |_=>none
theorem je{K:W.Frag}{H:Hp}:∀ns:List Int,bY K H (ns.map .int) (ns.map V.int)
 | []=>.nil
 |n::ns=>.cons .int (je ns)
theorem iM{K:W.Frag}(i:Nat):SQ K (iE i) (jO i):=by
 intro H₀ Hf₀ Hf S σ H Fs ds S' R e Q q;unfold jO at e;split at e
 .rename_i ns ea;cases e;obtain⟨v,F,s1,s2,r⟩:=R.rep i _ (bP ea);cases r.sh_inv.2 with
  |scr h=>exact⟨_,s1,q _ _ _ _ _ .refl R (R.sub.seq h) (je ns)⟩
 .rename_i ds' ea;cases e;refine jA i R (ds:=ds) (S':=S) ?_ Q fun Hf' H' Fs' p vs t R' hp r=>q _ _ _ p vs t R' (dJ.of hp) r
  unfold kE;rw[ea]
 .rename_i avs ea;refine jA i R (ds:=ds) (S':=S') ?_ Q fun Hf' H' Fs' p vs t R' hp r=>q _ _ _ p vs t R' (dJ.of hp) r
  unfold kE;rw[ea];exact e
 .cases e
section
variable {K:W.Frag}{H₀ Hf₀ Hf Hf' H H':Hp}{S S':AS}{σ:St}{Fs Fs':List (List Addr)}
theorem bu.stp{as:List AV}{vs:List V}{Gs:List (List Addr)}(r:bu K Hf H as vs Gs) (ho:∀q∈Gs.flatten,q∉Fs.flatten) (t:nW Hf H Fs Hf' H' Fs'):bu K Hf' H' as vs Gs :=
 ⟨r.1,r.2.1,fun i a v F h1 h2 h3=>(r.2.2 i a v F h1 h2 h3).stp (fun q hq=>ho q (mFq.mpr ⟨F,mGq h3,hq⟩)) t⟩
theorem bK.layF(R:bK K H₀ Hf₀ Hf S σ H Fs) {p:Addr}{o:HO}(hp:H p=none):nW Hf H Fs (bW Hf p o) (bW H p o) Fs/\bK K H₀ Hf₀ (bW Hf p o) S σ (bW H p o) Fs:=by
 have hf:Hf p=none:=R.sub.free hp;refine⟨⟨cX hf,cX hp,fun _ h=>h,fun b h g=>?_⟩,R.more (cX hp) (cX hf) (fun b u e=>?_) (fun q hq=>?_) fun b h1 h2=>?_⟩
 .by_cases m:b=p
  .subst m;exact .inl hp
  .rw [ax m]at g;exact absurd h g
 .by_cases m:b=p
  .subst m;rw[aL]at e ⊢;exact e
  .rw [ax m]at e ⊢;exact R.sub b u e
 .rw [ax fun e=>(R.mem hq).1 (by rw[e];exact hp)]
  exact(R.mem hq).2
 .rw [ax fun e=>h2 (by rw[e];exact R.fr.free hp)]
  exact R.lim b h1 h2
end
def aK:MA:=fun S=>some ([],S)
noncomputable def au(k:MK) (r:MA):MA:=fun S=>(k S).bind fun x=>(r x.2).map fun y=>(x.1::y.1,y.2)
def aG:ML:=fun S=>some ([],S)
noncomputable def ai(k:ME) (r:ML):ML:=fun S=>(k S).bind fun x=>(r x.2).map fun y=>(x.1::y.1,y.2)
section
variable {K:W.Frag}{te ta tb:TE}{tr:TA}
theorem ay:SA K jb aK:=by
 intro H₀ Hf₀ Hf S σ H Fs as S' R e Q q;cases e;exact q _ _ _ [] [] .refl R .nil .nil
theorem ao{k:MK}{r:MA}(hk:SK K te k) (hr:SA K tr r):SA K (eY te tr) (au k r):=by
 intro H₀ Hf₀ Hf S σ H Fs as S' R e Q q;obtain⟨x,e1,e⟩:=oBq.mp e;obtain⟨y,e2,e⟩:=oMq.mp e;cases e;refine hk R (a:=x.1) (S':=x.2) e1 _ fun Hf1 H1 Fs1 v F t1 R1 r1 o1=>hr R1 (as:=y.1) (S':=y.2) e2 _ fun Hf2 H2 Fs2 vs Gs t2 R2 r2 o2=>?_
 refine q _ _ _ (v::vs) (F::Gs) (t1.trans t2) R2 (.cons (r1.stp o1.out t2) r2) ?_;rw[fCq];exact(o1.stp t2).app (o2.back t1) (o1.apart (Hf1:=Hf1) (fun q hq=>(r1.owned q hq).1) o2)
theorem aF:JO K jb aG:=by
 intro H₀ Hf₀ Hf S σ H Fs as S' R e Q q;cases e;exact q _ _ _ [] .refl R .nil
theorem ak{k:ME}{r:ML}(hk:SR K te k) (hr:JO K tr r):JO K (eY te tr) (ai k r):=by
 intro H₀ Hf₀ Hf S σ H Fs as S' R e Q q;obtain⟨x,e1,e⟩:=oBq.mp e;obtain⟨y,e2,e⟩:=oMq.mp e;cases e;refine hk R (d:=x.1) (S':=x.2) e1 _ fun Hf1 H1 Fs1 v t1 R1 r1=>hr R1 (ds:=y.1) (S':=y.2) e2 _ fun Hf2 H2 Fs2 vs t2 R2 r2=>?_
 exact q _ _ _ (v::vs) (t1.trans t2) R2 (.cons (r1.mono t2.sh) r2)
end
def cW(a:MA):MK:=fun S=>(a S).bind fun x=>iD (x.1.length<=dg) (some (.ow x.1,x.2))
def qr(a:MA):MK:=fun S=>(a S).bind fun x=>iD (x.1.length<=dg) (some (.sh (.tup (x.1.map aE)),x.2))
section
variable {K:W.Frag}{ta:TA}{a:MA}
theorem bX(ha:SA K ta a):SK K (NH ta) (cW a):=by
 intro H₀ Hf₀ Hf S σ H Fs av S' R e Q q;obtain⟨x,e1,e⟩:=oBq.mp e;rcases bC e with ⟨hl,e⟩|e
 .skip
  cases e;refine ha R (as:=x.1) (S':=x.2) e1 _ fun Hf1 H1 Fs1 vs Gs t1 R1 r1 o1=>⟨by rw[gC,←r1.1];exact hl,fun p hp=>?_⟩
  obtain⟨t2,R2,n1,n2,n3⟩:=R1.new (o:=.lst vs) hp;refine q _ _ _ (.ref p) (p::Gs.flatten) (t1.trans t2) R2 (bH.news aL n1 (r1.stp o1.out t2)) ?_;have o2:=(nT.one R1 hp).back t1;refine(show nT _ _ _ _ ([p]++Gs.flatten) from o2.app o1 fun q hq m=>?_)
  rw[mSq.mp hq]at m;exact(r1.owned p m).1 hp
 .cases e
theorem kg(ha:SA K ta a):SK K (Qk ta) (qr a):=by
 intro H₀ Hf₀ Hf S σ H Fs av S' R e Q q;obtain⟨x,e1,e⟩:=oBq.mp e;rcases bC e with ⟨hl,e⟩|e
 .skip
  cases e;refine ha R (as:=x.1) (S':=x.2) e1 _ fun Hf1 H1 Fs1 vs Gs t1 R1 r1 o1=>⟨by rw[gC,←r1.1];exact hl,fun p hp=>?_⟩
  obtain⟨R2,r2,t2⟩:=R1.gives t1 r1 o1;obtain⟨t3,R3⟩:=R2.layF (o:=.tup vs) hp;exact q _ _ _ (.ref p) [] (t2.trans t3) R3 (.sh (.mk_tup aL (r2.mono t3.sf))) .nil
 .cases e
end
def oH(a b:ML):MK:=fun S=>(a S).bind fun x=>(b x.2).bind fun y=>iD (x.1.length+y.1.length<=dg) (some (.ow ((x.1++y.1).map .sh),y.2))
section
variable {K:W.Frag}{ta tb:TE}{a b:ML}
theorem ke(ha:SL K ta a) (hb:SL K tb b):SK K (Lb RI ta tb) (oH a b):=by
 intro H₀ Hf₀ Hf S σ H Fs av S' R e Q q;obtain⟨x,e1,e⟩:=oBq.mp e;obtain⟨y,e2,e⟩:=oBq.mp e;rcases bC e with ⟨hl,e⟩|e
 .skip
  cases e;refine ha R (ds:=x.1) (S':=x.2) e1 _ fun Hf1 H1 Fs1 p1 vs1 t1 R1 h1 r1=>hb R1 (ds:=y.1) (S':=y.2) e2 _ fun Hf2 H2 Fs2 p2 vs2 t2 R2 h2 r2=>?_
  refine⟨p1,p2,vs1,vs2,rfl,rfl,t2.sh _ _ h1,h2,by rw[gC,←r1.1,←r2.1];exact hl,fun p hp=>?_⟩
  obtain⟨t3,R3,n1,n2,n3⟩:=R2.new (o:=.lst (vs1++vs2)) hp;exact q _ _ _ (.ref p) [p] ((t1.trans t2).trans t3) R3 (bH.new aL n1 ((r1.mono t2.sf).append r2)) ((nT.one R2 hp).back (t1.trans t2))
 .cases e
end
abbrev MO:=AS->Option (Option Int×AS)
def SO(K:W.Frag) (to:TO) (m:MO):Prop:=∀{H₀ Hf₀ Hf:Hp}{S:AS}{σ:St}{H:Hp}{Fs:List (List Addr)}{o:Option Int}{S':AS},bK K H₀ Hf₀ Hf S σ H Fs->m S=some (o,S')->∀Q:Option Int->Hp->Prop,
 (∀Hf' H' Fs',nW Hf H Fs Hf' H' Fs'->bK K H₀ Hf₀ Hf' S' σ H' Fs'->Q o H')->to σ H Q
def mn:MO:=fun S=>some (none,S)
noncomputable def iR(m:ME):MO:=fun S=>(m S).bind fun x=>match x.1 with
 | .int i=>some (some i,x.2)
 |_=>none
def iU{α:Type}(xs:List α) (lo hi:Option Int):List α:=(xs.drop (HT.wU xs.length 0 lo)).take (HT.wU xs.length xs.length hi-HT.wU xs.length 0 lo)
def CC(l:ML) (lo hi:MO):MK:=fun S=>(l S).bind fun x=>(lo x.2).bind fun y=>(hi y.2).map fun z=>(.ow ((iU x.1 y.1 z.1).map .sh),z.2)
section
variable {K:W.Frag}{te:TE}{tl th:TO}{l:ML}{lo hi:MO}{m:ME}
theorem gW:SO K Dk mn:=by
 intro H₀ Hf₀ Hf S σ H Fs o S' R e Q q;cases e;exact q _ _ _ .refl R
theorem fO(h:SR K te m):SO K (Ms te) (iR m):=by
 intro H₀ Hf₀ Hf S σ H Fs o S' R e Q q;obtain⟨x,e1,e⟩:=oBq.mp e;refine h R (d:=x.1) (S':=x.2) e1 _ fun Hf1 H1 Fs1 v t1 R1 r1=>?_
 split at e
 .rename_i i hx;rw[hx]at r1;cases r1;cases e;exact⟨i,rfl,q _ _ _ t1 R1⟩
 .cases e
theorem bY.cut{H:Hp}{ds:List D}{vs:List V}(r:bY K H ds vs) (lo hi:Option Int):bY K H (iU ds lo hi) (A7 vs lo hi):=by
 unfold iU A7;rw[r.1];exact(r.drop _).take _
theorem mE(hl:SQ K te l) (hlo:SO K tl lo) (hhi:SO K th hi):SK K (Ud (QS K) te tl th) (CC l lo hi):=by
 intro H₀ Hf₀ Hf S σ H Fs av S' R e Q q;obtain⟨x,e1,e⟩:=oBq.mp e;obtain⟨y,e2,e⟩:=oBq.mp e;obtain⟨z,e3,e⟩:=oMq.mp e;cases e;refine hl R (ds:=x.1) (S':=x.2) e1 _ fun Hf1 H1 Fs1 p1 vs1 t1 R1 h1 r1=>hlo R1 (o:=y.1) (S':=y.2) e2 _ fun Hf2 H2 Fs2 t2 R2=>hhi R2 (o:=z.1) (S':=z.2) e3 _ fun Hf3 H3 Fs3 t3 R3=>?_
 refine⟨p1,vs1,rfl,(t2.sh.trans t3.sh).seq h1,fun p hp=>?_⟩
 obtain⟨t4,R4,n1,n2,n3⟩:=R3.new (o:=.lst (A7 vs1 y.1 z.1)) hp;exact q _ _ _ (.ref p) [p] (((t1.trans t2).trans t3).trans t4) R4 (bH.new aL n1 ((r1.mono (t2.sf.trans t3.sf)).cut _ _)) ((nT.one R3 hp).back ((t1.trans t2).trans t3))
end
def sD:D->D->Option D
 | .list ds,.int i=>atI ds i
 | .scr ns,.int i=>(atI ns i).map .int
 |_,_=>none
def NA:D->D->Option D
 | .tup ds,.int i=>atI ds i
 |_,_=>none
def Rj(l:ML) (b:ME):MK:=fun S=>(l S).bind fun x=>(b x.2).bind fun y=>match y.1 with
 | .int i=>(atI x.1 i).map fun d=>(.sh d,y.2)
 |_=>none
section
variable {K:W.Frag}{ta tb:TE}
theorem bY.atI{H:Hp}{ds:List D}{vs:List V}{i:Int}{d:D}(r:bY K H ds vs) (h:L2.atI ds i=some d):∃v,L2.atI vs i=some v/\cT K H d v:=by
 unfold L2.atI at h ⊢;rw[r.1]at h;obtain⟨j,h1,h2⟩:=oBq.mp h;rw[h1];exact r.get h2
theorem lY:yX K (Fd K) sD:=by
 intro x y H Q dx dy d rx ry e q;unfold sD at e;split at e
 .rename_i ds i;cases ry;obtain⟨p,vs,rfl,h,r⟩:=rx.list_inv;obtain⟨l,e'⟩:=r;obtain⟨v,h1,h2⟩:=bY.atI (K:=K) (H:=H) (ds:=ds) (vs:=vs) ⟨l,e'⟩ e;exact⟨p,vs,i,v,rfl,rfl,dJ.of h,h1,q v h2⟩
 .rename_i ns i;cases ry;cases rx;rename_i p h;obtain⟨n,h1,h2⟩:=oMq.mp e;subst h2;obtain⟨v,h3,h4⟩:=bY.atI (K:=K) (H:=H) (je ns) (i:=i) (d:=.int n) (by
   unfold L2.atI at h1 ⊢;rw[lMq];obtain⟨j,g1,g2⟩:=oBq.mp h1;rw[g1];show (ns.map D.int)[j]?=_;rw[gMq,g2];rfl)
  exact⟨p,_,i,v,rfl,rfl,h,h3,q v h4⟩
 .cases e
theorem NT:yX K (NB K) NA:=by
 intro x y H Q dx dy d rx ry e q;unfold NA at e;split at e
 .rename_i ds i;cases ry;obtain⟨p,vs,rfl,h,r⟩:=rx.tup_inv;obtain⟨v,h1,h2⟩:=bY.atI (K:=K) (H:=H) (ds:=ds) (vs:=vs) r e;exact⟨p,vs,i,v,rfl,rfl,vH.of h,h1,q v h2⟩
 .cases e
theorem Qo{l:ML}{b:ME}(hl:SQ K ta l) (hb:SR K tb b):SK K (Lb (Fd K) ta tb) (Rj l b):=by
 intro H₀ Hf₀ Hf S σ H Fs av S' R e Q q;obtain⟨x,e1,e⟩:=oBq.mp e;obtain⟨y,e2,e⟩:=oBq.mp e;refine hl R (ds:=x.1) (S':=x.2) e1 _ fun Hf1 H1 Fs1 p1 vs1 t1 R1 h1 r1=>hb R1 (d:=y.1) (S':=y.2) e2 _ fun Hf2 H2 Fs2 v2 t2 R2 r2=>?_
 split at e
 .rename_i i hy;rw[hy]at r2;cases r2;obtain⟨d,e3,e⟩:=oMq.mp e;cases e;obtain⟨v,g1,g2⟩:=(r1.mono t2.sf).atI e3;exact⟨p1,vs1,i,v,rfl,rfl,t2.sh.seq h1,g1,q _ _ _ v [] (t1.trans t2) R2 (.sh g2) .nil⟩
 .cases e
end
def Oz(K:W.Frag) (r:List V->Hp->VK->Prop) (f:List D->Option D):Prop:=∀{vs:List V}{H:Hp}{Q:VK}{ds:List D}{d:D},bY K H ds vs->f ds=some d->(∀v,cT K H d v->Q v H)->r vs H Q
noncomputable def kF(f:List D->Option D) (a:ML):ME:=fun S=>(a S).bind fun x=>(f x.1).map fun d=>(d,x.2)
theorem de{K:W.Frag}{r:List V->Hp->VK->Prop}{f:List D->Option D}{ta:TA}{a:ML}(hr:Oz K r f) (ha:JO K ta a):SR K (OB r ta) (kF f a):=by
 intro H₀ Hf₀ Hf S σ H Fs d S' R e Q q;obtain⟨x,e1,e⟩:=oBq.mp e;obtain⟨z,e3,e⟩:=oMq.mp e;cases e;exact ha R (ds:=x.1) (S':=x.2) e1 _ fun Hf1 H1 Fs1 vs t1 R1 r1=>hr r1 e3 fun v rv=>q _ _ _ v t1 R1 rv
def iz:List D->Option D
 | [.list ds]=>some (.int ds.length)
 | [.tup ds]=>some (.int ds.length)
 | [.scr ns]=>some (.int ns.length)
 | [.str x]=>iD (x.length<=dg) (some (.int x.length))
 |_=>none
noncomputable def TH:List D->Option D
 | [.int i]=>some (.int (if i<0 then -i else i))
 |_=>none
noncomputable def T7:List D->Option D
 | [.int i,.int j]=>some (.int (if j>i then j else i))
 |_=>none
noncomputable def Ua:List D->Option D
 | [.int i,.int j]=>some (.int (if j<i then j else i))
 |_=>none
noncomputable def Ue:List D->Option D
 | [.int i]=>some (.int i)
 | [.bl k]=>some (.int (if k then 1 else 0))
 |_=>none
noncomputable def oV:List D->Option D
 | [.int _,.ty T]=>if T = "int" then some (.bl true) else if T = "bool" then some (.bl false) else none
 | [.bl _,.ty T]=>if T = "bool" ∨ T = "int" then some (.bl true) else none
 | [.str _,.ty T]=>if T = "str" then some (.bl true) else none
 | [.list _,.ty T]=>if T = "list" then some (.bl true) else none
 | [.tup _,.ty T]=>if T = "tuple" then some (.bl true) else none
 | [.dict _,.ty T]=>if T = "dict" then some (.bl true) else none
 |_=>none
noncomputable def eB:List D->Option (List Int)
 | []=>some []
 | .int i::ds=>(eB ds).map (i :: ·)
 |_=>none
theorem kK:∀{ds:List D}{ns:List Int},eB ds=some ns->ds=ns.map .int
 | [],ns,h=>by cases h;rfl
 |d::ds,ns,h=>by
  cases d with
  |int i =>
   obtain⟨ms,h1,h2⟩:=oMq.mp (show (eB ds).map (i :: ·)=some ns from h)
   subst h2;rw[kK h1];rfl
  |_=>cases h
@[simp] theorem eZ (ns:List Int):eB (ns.map .int)=some ns:=by
 induction ns with
 |nil=>rfl
 |cons n ns ih=>show (eB (ns.map .int)).map (n :: ·)=_;rw[ih];rfl
theorem fJ{K:W.Frag}{H:Hp}:∀{ns:List Int}{vs:List V},bY K H (ns.map .int) vs->vs=ns.map V.int
 | [],vs,h=>h.nil_inv
 |n::ns,vs,h=>by
  obtain⟨v,ws,rfl,h1,h2⟩:=bY.cons_inv (d:=.int n) (ds:=ns.map .int) h;cases h1;rw[fJ h2];rfl
noncomputable def yA:List Int->Option Int
 | []=>none
 |n::ns=>some (ns.foldl min n)
theorem kd:∀(ns:List Int) (n:Int),ns.foldl min n∈n::ns
 | [],n=>by simp
 |m::ns,n=>by
  have h:=kd ns (min n m);rw[Yf];rcases VB.mp h with e|e
  .rw [e]
   by_cases c:n<=m
   .rw [Int.min_eq_left c];simp
   .rw [Int.min_eq_right (by lia)];simp
  .exact mCo _ (mCo _ e)
theorem iZ:∀(ns:List Int) (n:Int),(ns.foldl min n<=n)/\∀x∈ns,ns.foldl min n<=x
 | [],n=>⟨Zs _,fun x h=>by cases h⟩
 |m::ns,n=>by
  obtain⟨h1,h2⟩:=iZ ns (min n m);rw[Yf];refine⟨by lia,fun x hx=>?_⟩
  rcases VB.mp hx with e|e
  .subst e;lia
  .exact h2 x e
def DS:List D->Option D
 | [.list ds]=>(eB ds).bind fun ns=>(yA ns).map .int
 |_=>none
section
variable {K:W.Frag}
theorem gS:Oz K (fun xs H Q=>∃x n,xs=[x]/\Qh K x H n/\Q (.int n) H) iz:=by
 intro vs H Q ds d r e q;unfold iz at e;split at e
 .obtain ⟨v,ws,rfl,h1,h2⟩:=r.cons_inv;rw[h2.nil_inv];obtain⟨p,us,rfl,h3,h4⟩:=h1.list_inv;cases e;exact⟨_,_,rfl,.inl ⟨us,dJ.of h3,h4.1⟩,q _ .int⟩
 .obtain ⟨v,ws,rfl,h1,h2⟩:=r.cons_inv;rw[h2.nil_inv];obtain⟨p,us,rfl,h3,h4⟩:=h1.tup_inv;cases e;exact⟨_,_,rfl,.inr ⟨us,vH.of h3,h4.1⟩,q _ .int⟩
 .obtain ⟨v,ws,rfl,h1,h2⟩:=r.cons_inv;rw[h2.nil_inv];cases e;cases h1 with
  |scr h=>exact⟨_,_,rfl,.inl ⟨_,h,(lMq _).symm⟩,q _ .int⟩
 .rcases bC e with ⟨hl,e⟩|e
  .skip
   obtain⟨v,ws,rfl,h1,h2⟩:=r.cons_inv;rw[h2.nil_inv];cases e;cases h1;exact⟨_,_,rfl,⟨by rw[gC];exact hl,rfl⟩,q _ .int⟩
  .cases e
 .cases e
theorem G3:Oz K (fun xs H Q=>∃(a:Addr) (ns:List Int),xs=[.ref a]/\dJ K H a (ns.map V.int)/\0<ns.length/\∀M,M∈ns->(∀x,x∈ns->M<=x)->Q (.int M) H) DS:=by
 intro vs H Q ds d r e q;unfold DS at e;split at e
 .obtain ⟨v,ws,rfl,h1,h2⟩:=r.cons_inv;rw[h2.nil_inv];obtain⟨ns,e1,e⟩:=oBq.mp e;obtain⟨m,e2,e⟩:=oMq.mp e;cases e;rw[kK e1]at h1;obtain⟨p,us,rfl,h3,h4⟩:=h1.list_inv;rw[fJ h4]at h3;cases ns with
  |nil=>cases e2
  |cons n ns =>
   cases e2;refine⟨p,_,rfl,dJ.of h3,by simp,fun M hM hm=>?_⟩
   have e3:M=ns.foldl min n:=by
    have a1:=hm _ (kd ns n);have a2:=iZ ns n;have a3:ns.foldl min n<=M:=by
     rcases VB.mp hM with z|z
     .subst z;exact a2.1
     .exact a2.2 M z
    lia
   rw[e3];exact q _ .int
 .cases e
theorem Ou:Oz K (fun xs H Q=>∃x T b,xs=[x,.ty T]/\O3 K x H T b/\Q (.bl b) H) oV:=by
 intro vs H Q ds d r e q;unfold oV at e;split at e
 all_goals first|(exact absurd e (fun z=>by cases z))|skip
 all_goals
  obtain⟨v,ws,rfl,h1,h2⟩:=r.cons_inv;obtain⟨u,zs,rfl,h3,h4⟩:=h2.cons_inv;rw[h4.nil_inv];cases h3
 .cases h1;split at e
  .rename_i hT;cases e;exact⟨_,_,_,rfl,.inl ⟨hT,rfl⟩,q _ .bl⟩
  .split at e
   .rename_i hT;cases e;exact⟨_,_,_,rfl,.inr ⟨hT,rfl⟩,q _ .bl⟩
   .cases e
 .cases h1;split at e
  .rename_i hT;cases e;rcases hT with hT|hT
   .exact ⟨_,_,_,rfl,.inl ⟨hT,rfl⟩,q _ .bl⟩
   .exact ⟨_,_,_,rfl,.inr ⟨hT,rfl⟩,q _ .bl⟩
  .cases e
 .cases h1;split at e
  .rename_i hT;cases e;exact⟨_,_,_,rfl,⟨hT,rfl⟩,q _ .bl⟩
  .cases e
 .obtain ⟨p,us,rfl,g3,g4⟩:=h1.list_inv;split at e
  .rename_i hT;cases e;exact⟨_,_,_,rfl,.inl ⟨hT,rfl,us,dJ.of g3⟩,q _ .bl⟩
  .cases e
 .obtain ⟨p,us,rfl,g3,g4⟩:=h1.tup_inv;split at e
  .rename_i hT;cases e;exact⟨_,_,_,rfl,.inr (.inr ⟨hT,rfl,us,vH.of g3⟩),q _ .bl⟩
  .cases e
 .obtain ⟨p,us,rfl,g3,g4⟩:=h1.dict_inv;split at e
  .rename_i hT;cases e;exact⟨_,_,_,rfl,.inr (.inl ⟨hT,rfl,us,g3⟩),q _ .bl⟩
  .cases e
end
abbrev MF:=List D->Option AV
def bR(K:W.Frag) (f:MF):Sp:=fun vs H Q _=>∃(Hf:Hp) (ds:List D) (a:AV),bB Hf H/\bY K Hf ds vs/\f ds=some a /\
 ∀Hf' H' v F,bB Hf Hf'->bB H H'->bB Hf' H'->(∀b,Hf b=none->H b≠none->Hf' b=none)->bH K Hf' H' a v F->F.Nodup->(∀q∈F,H q=none)->Q v H'
noncomputable def bj(f:MF) (a:MA):MK:=fun S=>(a S).bind fun x=>(f (x.1.map aE)).map fun r=>(r,x.2)
theorem bp{K:W.Frag}{f:MF}{ta:TA}{a:MA}(ha:SA K ta a):SK K (jR (bR K f) [] E0 ta) (bj f a):=by
 intro H₀ Hf₀ Hf S σ H Fs av S' R e Q q;obtain⟨x,e1,e⟩:=oBq.mp e;obtain⟨z,e3,e⟩:=oMq.mp e;cases e;refine ha R (as:=x.1) (S':=x.2) e1 _ fun Hf1 H1 Fs1 vs Gs t1 R1 r1 o1=>?_
 obtain⟨R2,r2,t2⟩:=R1.gives t1 r1 o1;rw[aNq];refine⟨_,_,av,R2.sub,r2,e3,fun Hf' H' v F s1 s2 s3 l r nd fr=>?_⟩
 have t3:nW (Z.frz Hf1 H1 Gs.flatten) H1 Fs1 Hf' H' Fs1:=⟨s1,s2,fun _ h=>h,fun b h g=>.inl (by
  by_cases e:H1 b=none
  .exact e
  .exact absurd (l b h e) g)⟩
 have hn:∀q∈Fs1.flatten,Hf' q=none:=fun q hq=>l q (R2.mem hq).2 (R2.mem hq).1
 have R3:bK K H₀ Hf₀ Hf' x.2 σ H' Fs1:=R2.more s2 s1 s3 hn fun b h1 h2=>l b (R2.lim b h1 h2) (Dx R2.fr h2)
 refine q _ _ _ v F (t2.trans t3) R3 r ⟨nd,fun q hq=>R2.fr.free (fr q hq),fun q hq m=>(R2.mem m).1 (fr q hq),fun q hq=>.inl (t1.sh.free (fr q hq))⟩
inductive wo where
 |nx (S:AS)|rt (a:AV)|bk (S:AS)|ct (S:AS)
abbrev MS:=AS->Option wo
def qH(K:W.Frag) (H₀ Hf₀ Hf:Hp) (D:ja):wo->Prop
 | .nx S=>∀Hf' σ' H' Fs',bB Hf Hf'->bK K H₀ Hf₀ Hf' S σ' H' Fs'->D.nx σ' H'
 | .bk S=>∀Hf' σ' H' Fs',bB Hf Hf'->bK K H₀ Hf₀ Hf' S σ' H' Fs'->D.bk σ' H'
 | .ct S=>∀Hf' σ' H' Fs',bB Hf Hf'->bK K H₀ Hf₀ Hf' S σ' H' Fs'->D.ct σ' H'
 | .rt a=>∀Hf' H' v F,bB Hf₀ Hf'->bB H₀ H'->bB Hf' H'->(∀b,Hf₀ b=none->H₀ b≠none->Hf' b=none)->bH K Hf' H' a v F->F.Nodup->(∀q∈F,H₀ q=none)->D.rt v H'
def SS(K:W.Frag) (t:TS) (m:MS):Prop:=∀{H₀ Hf₀ Hf:Hp}{S:AS}{σ:St}{H:Hp}{Fs:List (List Addr)}{o:wo},bK K H₀ Hf₀ Hf S σ H Fs->m S=some o->∀D:ja,qH K H₀ Hf₀ Hf D o->t D σ H
theorem qH.mono{K:W.Frag}{H₀ Hf₀ Hf Hf':Hp}{D:ja}{o:wo}(s:bB Hf Hf') (h:qH K H₀ Hf₀ Hf D o):qH K H₀ Hf₀ Hf' D o:=by
 cases o with
 |nx S=>exact fun Hf2 σ' H' Fs' s2 R=>h Hf2 σ' H' Fs' (s.trans s2) R
 |bk S=>exact fun Hf2 σ' H' Fs' s2 R=>h Hf2 σ' H' Fs' (s.trans s2) R
 |ct S=>exact fun Hf2 σ' H' Fs' s2 R=>h Hf2 σ' H' Fs' (s.trans s2) R
 |rt a=>exact h
def bG:MS:=fun S=>some (.nx S)
def Tz:MS:=fun S=>some (.bk S)
def T8:MS:=fun S=>some (.ct S)
def GT:MS:=fun _=>none
def aJ(a b:MS):MS:=fun S=>(a S).bind fun o=>match o with
 | .nx S'=>b S'
 |o=>some o
def aZ(i:Nat) (k:MK):MS:=fun S=>(k S).map fun x=>.nx (x.2.set i (some x.1))
def Uo(k:MK):MS:=fun S=>(k S).map fun x=>.nx x.2
def cB(k:MK):MS:=fun S=>(k S).map fun x=>.rt x.1
noncomputable def jl(c:MT) (a b:MS):MS:=fun S=>(c S).bind fun x=>if x.1=true then a x.2 else b x.2
section
variable {K:W.Frag}{t u:TS}{a b:MS}{te:TE}{k:MK}
theorem bD:SS K MW bG:=by
 intro H₀ Hf₀ Hf S σ H Fs o R e D h;cases e;exact h _ _ _ _ (.refl _) R
theorem Hc:SS K FV GT:=by
 intro H₀ Hf₀ Hf S σ H Fs o R e D h;cases e
theorem aw(ha:SS K t a) (hb:SS K u b):SS K (BJ t u) (aJ a b):=by
 intro H₀ Hf₀ Hf S σ H Fs o R e D h;obtain⟨x,e1,e⟩:=oBq.mp e;refine ha R e1 _ ?_;cases x with
 |nx S'=>exact fun Hf' σ' H' Fs' s R'=>hb R' e D (h.mono s)
 |rt a=>cases e;exact h
 |bk a=>cases e;exact h
 |ct a=>cases e;exact h
theorem aS{i:Nat}(hk:SK K te k):SS K (IZ te (gI i)) (aZ i k):=by
 intro H₀ Hf₀ Hf S σ H Fs o R e D h;obtain⟨x,e1,e⟩:=oMq.mp e;cases e;refine hk R (a:=x.1) (S':=x.2) e1 _ fun Hf1 H1 Fs1 v F t1 R1 r1 o1=>?_
 exact h _ _ _ _ t1.sf (R1.set i r1 o1.nd fun q hq=>⟨o1.fr q hq,o1.out q hq⟩)
theorem bf(hk:SK K te k):SS K (Gr te) (cB k):=by
 intro H₀ Hf₀ Hf S σ H Fs o R e D h;obtain⟨x,e1,e⟩:=oMq.mp e;cases e;exact hk R (a:=x.1) (S':=x.2) e1 _ fun Hf1 H1 Fs1 v F t1 R1 r1 o1=>h _ _ v F R1.sf R1.fr R1.sub R1.lim r1 o1.nd o1.fr
theorem df{c:TT}{m:MT}(hc:xj K c m) (ha:SS K t a) (hb:SS K u b):SS K (HV c t u) (jl m a b):=by
 intro H₀ Hf₀ Hf S σ H Fs o R e D h;obtain⟨x,e1,e⟩:=oBq.mp e;refine hc R (b:=x.1) (S':=x.2) e1 _ fun Hf1 H1 Fs1 t1 R1=>?_
 split at e
 .rename_i hx;rw[hx];exact zR (ha R1 e D (h.mono t1.sf))
 .rename_i hx;rw[W1]at hx;rw[hx];exact yZ (hb R1 e D (h.mono t1.sf))
end
noncomputable def cJ(S:AS) (i:Nat):Option (List AV):=match S[i]?.join with
 |some (.ow avs)=>some avs
 |_=>none
noncomputable def jV(S:AS) (i:Nat):Option (List (bI×D)):=match S[i]?.join with
 |some (.owd az)=>some az
 |_=>none
def mB(i:Nat) (k:MK):MS:=fun S=>(cJ S i).bind fun _=>(k S).bind fun x=>(cJ x.2 i).bind fun avs =>
 iD (avs.length<dg) (some (.nx (x.2.set i (some (.ow (avs++[x.1]))))))
def EA(i:Nat) (l:ML):MS:=fun S=>(cJ S i).bind fun _=>(l S).bind fun x=>(cJ x.2 i).bind fun avs =>
 iD (avs.length+x.1.length<=dg) (some (.nx (x.2.set i (some (.ow (avs++x.1.map .sh))))))
def intOf:D->Option Int
 | .int i=>some i
 |_=>none
def U7(i:Nat) (b:ME) (k:MK):MS:=fun S=>(iI k S).bind fun x=>(cJ x.2 i).bind fun _=>(b x.2).bind fun y=>(cJ y.2 i).bind fun avs=>(intOf y.1).bind fun j=>(yT avs.length j).map fun n =>
 .nx (y.2.set i (some (.ow (((avs.map aE).set n (aE x.1)).map .sh))))
noncomputable def jt:D->Option bI
 | .int i=>some (.inl i)
 | .str x=>some (.inr x)
 |_=>none
noncomputable def ue(az:List (bI×D)) (k:bI) (d:D):List (bI×D):=if az.any (fun kv=>decide (kv.1=k)) then az.map (fun kv=>if kv.1=k then (kv.1,d) else kv) else az++[(k,d)]
noncomputable def getD(az:List (bI×D)) (k:bI):Option D:=(az.find? fun kv=>decide (kv.1=k)).map (·.2)
def oj(i:Nat) (b:ME) (k:MK):MS:=fun S=>(iI k S).bind fun x=>(jV x.2 i).bind fun _=>(b x.2).bind fun y=>(jV y.2 i).bind fun az=>(jt y.1).bind fun key =>
 iD (az.length<dg) (some (.nx (y.2.set i (some (.owd (ue az key (aE x.1)))))))
section
variable {K:W.Frag}{H₀ Hf₀ Hf H:Hp}{S:AS}{σ:St}{Fs:List (List Addr)}
theorem bK.turn(R:bK K H₀ Hf₀ Hf S σ H Fs) {i:Nat}{av:AV}{p:Addr}{o:HO}{F F':List Addr}(s1:σ[i]?=some (some (.ref p))) (s2:Fs[i]?=some F) (hp:p∈F) (r:bH K Hf (bW H p o) av (.ref p) F') (nd:F'.Nodup)
  (hf:∀q∈F',H₀ q=none/\q∉(Fs.set i []).flatten):bK K H₀ Hf₀ Hf (S.set i (some av)) σ (bW H p o) (Fs.set i F'):=by
 have hin:p∈Fs.flatten:=mFq.mpr ⟨F,mGq s2,hp⟩;have pn:Hf p=none:=(R.mem hin).2;have p0:H₀ p=none:=R.fresh p hin;have out:=gF R.nd s2 hp;have R1:bK K H₀ Hf₀ Hf (S.set i none) σ (bW H p o) (Fs.set i []):=by
  refine⟨by simp[R.len],by simp[R.lenF],fun j a ej=>?_,fun j ej=>?_,cZ i R.nd V6 (fun p hp=>by cases hp),fun p hp=>R.fresh p (cF hp),fun b u e=>?_,fun b u e=>?_,R.lim,R.sf⟩
  .rw [V8]at ej
   by_cases hij:i=j
   .subst hij;rw[if_pos rfl]at ej;split at ej <;> cases ej
   .rw [if_neg hij]at ej;obtain⟨w,G,f1,f2,q⟩:=R.rep j a ej;refine⟨w,G,f1,by rw[VA hij];exact f2,q.keep (.refl _) (fun c hc=>ax fun e=>out ?_) fun c hc=>(q.owned c hc).2⟩
    subst e;exact mFq.mpr ⟨G,mGq (i:=j) (by rw[VA hij];exact f2),hc⟩
  .rw [V8]at ej
   by_cases hij:i=j
   .subst hij;rw[if_pos rfl]at ej;split at ej
    .rename_i hi;rw[VS (R.lenF.symm ▸ hi)]
    .cases ej
   .rw [if_neg hij]at ej;rw[VA hij];exact R.emp j ej
  .rw [ax fun z=>by rw[z,pn]at e;cases e]
   exact R.sub b u e
  .rw [ax fun z=>by rw[z,p0]at e;cases e]
   exact R.fr b u e
 exact R1.again (F:=F) s1 r nd hf
theorem bT{i:Nat}{F:List Addr}{q:Addr}(s2:Fs[i]?=some F) (h:q∈F):q∈Fs.flatten:=mFq.mpr ⟨F,mGq s2,h⟩
theorem bu.snoc{as:List AV}{vs:List V}{Gs:List (List Addr)}{a:AV}{v:V}{F:List Addr}(r:bu K Hf H as vs Gs) (s:bH K Hf H a v F):bu K Hf H (as++[a]) (vs++[v]) (Gs++[F]):=by
 obtain⟨h1,h2,h3⟩:=r;refine⟨by simp[h1],by simp[h2],fun i b w G e1 e2 e3=>?_⟩
 by_cases hi:i<as.length
 .rw [gZq hi]at e1;rw[gZq (h1 ▸ hi)]at e2;rw[gZq (h2 ▸ hi)]at e3;exact h3 i b w G e1 e2 e3
 .have hi':i=as.length:=by
   have:=(gSq.mp e1).1;rw[lAq,lSq]at this;lia
  subst hi';rw[gYq (Vu _),WA]at e1;rw[h1,gYq (Vu _),WA]at e2;rw[h2,gYq (Vu _),WA]at e3;cases e1;cases e2;cases e3;exact s
theorem bu.keepUpd{as:List AV}{vs:List V}{Gs:List (List Addr)}{p:Addr}{o:HO}(r:bu K Hf H as vs Gs) (hp:p∉Gs.flatten):bu K Hf (bW H p o) as vs Gs :=
 ⟨r.1,r.2.1,fun i a v F h1 h2 h3=>by
  have q:=r.2.2 i a v F h1 h2 h3;refine q.keep (.refl _) (fun c hc=>ax fun e=>hp ?_) fun c hc=>(q.owned c hc).2
  subst e;exact mFq.mpr ⟨F,mGq h3,hc⟩⟩
theorem bH.keepUpd{a:AV}{v:V}{F:List Addr}{p:Addr}{o:HO}(q:bH K Hf H a v F) (hp:p∉F):bH K Hf (bW H p o) a v F :=
 q.keep (.refl _) (fun c hc=>ax fun e=>hp (e ▸ hc)) fun c hc=>(q.owned c hc).2
theorem xo{ds:List D}{vs:List V}(r:bY K Hf ds vs):bu K Hf H (ds.map .sh) vs (VM ds.length []) :=
 ⟨by simp[r.1],by simp,fun i a v F h1 h2 h3=>by
  rw[gMq]at h1;cases q:ds[i]? with
  |none=>rw[q]at h1;cases h1
  |some d =>
   rw[q]at h1;cases h1;have:F=[]:=Xa (mGq h3);subst this;exact .sh (r.2 i d v q h2)⟩
theorem bu.append{as bs:List AV}{vs ws:List V}{Gs Es:List (List Addr)}(r:bu K Hf H as vs Gs) (s:bu K Hf H bs ws Es):bu K Hf H (as++bs) (vs++ws) (Gs++Es):=by
 obtain⟨h1,h2,h3⟩:=r;refine⟨by simp[h1,s.1],by simp[h2,s.2.1],fun i b w G e1 e2 e3=>?_⟩
 by_cases hi:i<as.length
 .rw [gZq hi]at e1;rw[gZq (h1 ▸ hi)]at e2;rw[gZq (h2 ▸ hi)]at e3;exact h3 i b w G e1 e2 e3
 .rw [gYq (by lia)]at e1
  rw[gYq (by lia),←h1]at e2
  rw[gYq (by lia),←h2]at e3
  exact s.2.2 _ b w G e1 e2 e3
end
section
variable {K:W.Frag}{te ta tb:TE}{k:MK}{b:ME}{l:ML}
theorem bh{S:AS}{i:Nat}{avs:List AV}(h:cJ S i=some avs):S[i]?=some (some (.ow avs)):=by
 unfold cJ at h;split at h
 .rename_i z e;cases h;exact bP e
 .cases h
theorem oP{S:AS}{i:Nat}{az:List (bI×D)}(h:jV S i=some az):S[i]?=some (some (.owd az)):=by
 unfold jV at h;split at h
 .rename_i z e;cases h;exact bP e
 .cases h
theorem bK.ow{H₀ Hf₀ Hf H:Hp}{S:AS}{σ:St}{Fs:List (List Addr)}(R:bK K H₀ Hf₀ Hf S σ H Fs) {i:Nat}{avs:List AV}(h:S[i]?=some (some (.ow avs))):∃p vs Gs,σ[i]?=some (some (.ref p))/\Fs[i]?=some (p::Gs.flatten)/\H p=some (.lst vs)/\Hf p=none/\bu K Hf H avs vs Gs /\
  p∉Gs.flatten/\Gs.flatten.Nodup/\∀q∈p::Gs.flatten,H₀ q=none/\q∉(Fs.set i []).flatten:=by
 obtain⟨v,F,s1,s2,r,nd,o,_⟩:=R.move h;obtain⟨p,vs,Gs,rfl,rfl,h1,h2,h3⟩:=r.ow_inv;exact⟨p,vs,Gs,s1,s2,h1,h2,h3,(Vx.mp nd).1,(Vx.mp nd).2,o⟩
theorem km{i:Nat}(hk:SK K te k):SS K (mh (DO K "list" ny (iE i) (eY te jb))) (mB i k):=by
 intro H₀ Hf₀ Hf S σ H Fs o R e D h;obtain⟨a0,e0,e⟩:=oBq.mp e;obtain⟨x,e1,e⟩:=oBq.mp e;obtain⟨avs,e2,e⟩:=oBq.mp e;rcases bC e with ⟨hl,e⟩|e
 .skip
  cases e;obtain⟨p,vs,Gs,s1,_,h1,_⟩:=R.ow (bh e0);refine⟨.ref p,s1,.inl ⟨rfl,vs,dJ.of h1⟩,hk R (a:=x.1) (S':=x.2) e1 _ fun Hf1 H1 Fs1 v F t1 R1 r1 o1=>?_⟩
  obtain⟨p',vs',Gs',s1',s2',h1',h2',h3',h4',h5',h6'⟩:=R1.ow (bh e2);rw[s1]at s1';cases s1';have pF:p∉F:=fun m=>o1.out p m (bT s2' (by simp))
  refine⟨p,vs',v,rfl,rfl,h1',by rw[gC,←h3'.1];exact hl,h _ _ _ _ t1.sf (R1.turn s1 s2' (by simp) (F':=p::(Gs'++[F]).flatten) (bH.news aL h2' ((h3'.keepUpd h4').snoc (r1.keepUpd pF))) ?_ fun q hq=>?_)⟩
  .rw [fAq,VZ];refine Vx.mpr ⟨fun m=>(mAq.mp m).elim h4' pF,nAq.mpr ⟨h5',o1.nd,fun a ha b hb e=>o1.out b hb (bT s2' (mCo _ (e ▸ ha)))⟩⟩
  .rw [fAq,VZ]at hq;rcases VB.mp hq with z|z
   .exact h6' q (by rw[z];simp)
   .rcases mAq.mp z with z|z
    .exact h6' q (mCo _ z)
    .exact ⟨o1.fr q z,fun m=>o1.out q z (cF m)⟩
 .cases e
theorem Ho{i:Nat}(hl:SL K te l):SS K (mh (DO K "list" sW (iE i) (eY te jb))) (EA i l):=by
 intro H₀ Hf₀ Hf S σ H Fs o R e D h;obtain⟨a0,e0,e⟩:=oBq.mp e;obtain⟨x,e1,e⟩:=oBq.mp e;obtain⟨avs,e2,e⟩:=oBq.mp e;rcases bC e with ⟨hle,e⟩|e
 .skip
  cases e;obtain⟨p,vs,Gs,s1,_,h1,_⟩:=R.ow (bh e0);refine⟨.ref p,s1,.inl ⟨rfl,vs,dJ.of h1⟩,hl R (ds:=x.1) (S':=x.2) e1 _ fun Hf1 H1 Fs1 b ws t1 R1 hb r1=>?_⟩
  obtain⟨p',vs',Gs',s1',s2',h1',h2',h3',h4',h5',h6'⟩:=R1.ow (bh e2);rw[s1]at s1';cases s1';refine⟨p,b,vs',ws,rfl,rfl,h1',hb,by rw[gC,←h3'.1,←r1.1];exact hle,h _ _ _ _ t1.sf (R1.turn s1 s2' (by simp) (F':=p::(Gs'++VM x.1.length []).flatten) (bH.news aL h2' ((h3'.keepUpd h4').append (xo r1))) ?_ fun q hq=>?_)⟩
  .rw [fAq,eJ,aNq];exact Vx.mpr ⟨h4',h5'⟩
  .rw [fAq,eJ,aNq]at hq;exact h6' q hq
 .cases e
theorem qz{H:Hp}:∀{ds:List (bI×D)}{az:List (bI×V)}{key:bI},gO K H ds az->match getD ds key with
  |some d=>∃v,pW az key=some v/\cT K H d v
  |none=>pW az key=none
 | [],az,key,h=>by
  have:az=[]:=by
   have:=congrArg WR h.1;simpa using this.symm
  subst this;rfl
 |d::ds,[],key,h=>by
  have:=congrArg WR h.1;simp at this
 |d::ds,v::az,key,h=>by
  have h1:d.1=v.1/\ds.map (·.1)=az.map (·.1):=by
   have:=h.1;simpa using this
  have h2:cT K H d.2 v.2:=h.2 0 d v rfl rfl;have ht:gO K H ds az:=⟨h1.2,fun i a b e1 e2=>h.2 (i+1) a b (by simpa using e1) (by simpa using e2)⟩
  unfold getD pW
  by_cases c:d.1=key
  .rw [Xq (by simp[c]),Xq (by simp[←h1.1,c])]
   exact⟨v.2,rfl,h2⟩
  .rw [W2 (by simp[c]),W2 (by simp[←h1.1,c])]
   exact qz ht
theorem nv{H:Hp}{d:D}{v:V}{key:bI}(h:jt d=some key) (r:cT K H d v):v=kV key:=by
 cases r <;> simp only[jt]at h
 all_goals first|(exfalso;simp at h;done)|skip
 all_goals (cases h;rfl)
theorem gO.key{H:Hp}{ds:List (bI×D)}{az:List (bI×V)}(h:gO K H ds az) {i:Nat}{d:bI×D}{v:bI×V}(e1:ds[i]?=some d) (e2:az[i]?=some v):d.1=v.1:=by
 have:=congrArg (fun l=>l[i]?) h.1
 simp only[gMq,e1,e2,W6]at this;exact V2.inj this
theorem gO.len{H:Hp}{ds:List (bI×D)}{az:List (bI×V)}(h:gO K H ds az):ds.length=az.length:=by
 have:=congrArg WR h.1;simpa using this
theorem IQ{H:Hp}{ds:List (bI×D)}{az:List (bI×V)}{key:bI}{d:D}{v:V}(h:gO K H ds az) (r:cT K H d v):gO K H (ue ds key d) (qJ az key v):=by
 have ha:(ds.any fun kv=>decide (kv.1=key))=az.any fun kv=>decide (kv.1=key):=by
  have e1:(ds.any fun kv=>decide (kv.1=key))=(ds.map (·.1)).any fun k=>decide (k=key):=by rw[ZM];rfl
  have e2:(az.any fun kv=>decide (kv.1=key))=(az.map (·.1)).any fun k=>decide (k=key):=by rw[ZM];rfl
  rw[e1,e2,h.1]
 unfold ue qJ;rw[ha];split
 .refine ⟨?_,fun i a b e1 e2=>?_⟩
  .rw [mPq,mPq];have e1:((fun kv:bI×D=>kv.1)∘fun kv:bI×D=>if kv.1=key then (kv.1,d) else kv)=fun kv=>kv.1:=by
    funext kv;show (if kv.1=key then (kv.1,d) else kv).1=kv.1
    split <;> rfl
   have e2:((fun kv:bI×V=>kv.1)∘fun kv:bI×V=>if kv.1=key then (kv.1,v) else kv)=fun kv=>kv.1:=by
    funext kv;show (if kv.1=key then (kv.1,v) else kv).1=kv.1
    split <;> rfl
   rw[e1,e2];exact h.1
  .rw [gMq]at e1 e2;obtain⟨a',f1,rfl⟩:=oMq.mp e1;obtain⟨b',f2,rfl⟩:=oMq.mp e2;have hk:=h.key f1 f2
   by_cases c:a'.1=key
   .rw [if_pos c,if_pos (hk ▸ c)];exact r
   .rw [if_neg c,if_neg (hk ▸ c)];exact h.2 i a' b' f1 f2
 .refine ⟨by rw[mBq,mBq,h.1];rfl,fun i a b e1 e2=>?_⟩
  by_cases hi:i<ds.length
  .rw [gZq hi]at e1;rw[gZq (h.len ▸ hi)]at e2;exact h.2 i a b e1 e2
  .have hi':i=ds.length:=by
    have:=(gSq.mp e1).1;rw[lAq,lSq]at this;lia
   subst hi';rw[gYq (Vu _),WA]at e1;rw[h.len,gYq (Vu _),WA]at e2;cases e1;cases e2;exact r
def qt:MK:=fun S=>some (.owd [],S)
theorem yq:SK K Hr qt:=by
 intro H₀ Hf₀ Hf S σ H Fs av S' R e Q q;cases e;intro p hp;obtain⟨t,R2,n1,n2,n3⟩:=R.new (o:=.dK []) hp;exact q _ _ _ (.ref p) [p] t R2 (.owd aL n1 ⟨rfl,fun i d v h=>by simp at h⟩) (nT.one R hp)
theorem bK.owd{H₀ Hf₀ Hf H:Hp}{S:AS}{σ:St}{Fs:List (List Addr)}(R:bK K H₀ Hf₀ Hf S σ H Fs) {i:Nat}{ds:List (bI×D)}(h:S[i]?=some (some (.owd ds))):∃p az,σ[i]?=some (some (.ref p))/\Fs[i]?=some [p]/\H p=some (.dK az)/\Hf p=none/\gO K Hf ds az /\
  H₀ p=none/\p∉(Fs.set i []).flatten:=by
 obtain⟨v,F,s1,s2,r,nd,o,_⟩:=R.move h;obtain⟨p,az,rfl,rfl,h1,h2,h3⟩:=r.owd_inv;exact⟨p,az,s1,s2,h1,h2,h3,(o p (by simp)).1,(o p (by simp)).2⟩
theorem ya{i:Nat}(hk:SK K te k) (hb:SR K tb b):SS K (MY (iE i) tb te) (oj i b k):=by
 intro H₀ Hf₀ Hf S σ H Fs o R e D h;obtain⟨x,e1,e⟩:=oBq.mp e;obtain⟨a0,e0,e⟩:=oBq.mp e;obtain⟨y,e2,e⟩:=oBq.mp e;obtain⟨az,e3,e⟩:=oBq.mp e;obtain⟨key,e4,e⟩:=oBq.mp e;rcases bC e with ⟨hl,e⟩|e
 .skip
  cases e;have hk':SK K te (iI k):=SK.frz hk;refine hk' R (a:=x.1) (S':=x.2) e1 _ fun Hf1 H1 Fs1 v F t1 R1 r1 o1=>?_
  obtain⟨p',_,s1,_⟩:=R1.owd (oP e0);refine⟨_,s1,hb R1 (d:=y.1) (S':=y.2) e2 _ fun Hf2 H2 Fs2 w t2 R2 r2=>?_⟩
  obtain⟨q',kv,s1',s2',h1',h2',h3',h4',h5'⟩:=R2.owd (oP e3);rw[s1]at s1';cases s1';obtain⟨x1,hx1⟩:∃d,x.1 = .sh d:=by
   obtain⟨w,_,e⟩:=oMq.mp e1;rw[←e];exact⟨_,rfl⟩
  rw[hx1]at r1;have rv:=(r1.sh_inv.2).mono t2.sf;have hw:=nv e4 r2;subst hw;refine⟨p',_,rfl,FI.k h1' (by rw[gC,←h3'.len];exact hl),h _ _ _ _ (t1.sf.trans t2.sf) (R2.turn s1 s2' (by simp) (F':=[p']) (.owd aL h2' ?_) (by simp) fun q hq=>by rw[mSq.mp hq];exact⟨h4',h5'⟩)⟩
  rw[hx1,iw];exact IQ h3' rv
 .cases e
def SN(a b:ME):ME:=fun S=>(a S).bind fun x=>(b x.2).bind fun y=>match y.1 with
 | .dict az=>(jt x.1).map fun key=>(.bl (getD az key).isSome,y.2)
 |_=>none
def nO(a b:ME):ME:=fun S=>(a S).bind fun x=>(b x.2).bind fun y=>match y.1 with
 | .dict az=>(jt x.1).map fun key=>(.bl (!(getD az key).isSome),y.2)
 |_=>none
def Aa(a b:ME):ME:=fun S=>(a S).bind fun x=>(b x.2).bind fun y=>match x.1 with
 | .dict az=>(jt y.1).bind fun key=>(getD az key).map fun d=>(d,y.2)
 |_=>none
theorem DH{H:Hp}{az:List (bI×D)}{x:V}{key:bI}{d:D}(r:cT K H (.dict az) x) (e:getD az key=some d):∃a v,x = .ref a/\vB H a (kV key) (some v)/\cT K H d v:=by
 obtain⟨p,vs,rfl,h1,h2⟩:=r.dict_inv;have g:=qz (key:=key) h2;rw[e]at g;obtain⟨v,g1,g2⟩:=g;exact⟨p,v,rfl,by rw[←g1];exact vB.k h1,g2⟩
theorem Hj{H:Hp}{az:List (bI×D)}{x:V}{key:bI}(r:cT K H (.dict az) x):∃a o,x = .ref a/\vB H a (kV key) o/\o.isSome=(getD az key).isSome:=by
 obtain⟨p,vs,rfl,h1,h2⟩:=r.dict_inv;have g:=qz (key:=key) h2;refine⟨p,_,rfl,vB.k h1,?_⟩;cases e:getD az key with
 |none=>rw[e]at g;rw[g];rfl
 |some d=>rw[e]at g;obtain⟨v,g1,_⟩:=g;rw[g1];rfl
theorem DJ{a:ME}(ha:SR K ta a) (hb:SR K tb b):SR K (CK ta tb) (nO a b):=by
 intro H₀ Hf₀ Hf S σ H Fs d S' R e Q q;obtain⟨x,e1,e⟩:=oBq.mp e;obtain⟨y,e2,e⟩:=oBq.mp e;refine ha R (d:=x.1) (S':=x.2) e1 _ fun Hf1 H1 Fs1 v1 t1 R1 r1=>hb R1 (d:=y.1) (S':=y.2) e2 _ fun Hf2 H2 Fs2 v2 t2 R2 r2=>?_
 split at e
 .rename_i az hy;rw[hy]at r2;obtain⟨key,e3,e⟩:=oMq.mp e;cases e;obtain⟨p,o,rfl,g1,g2⟩:=Hj (key:=key) r2;refine⟨p,o,rfl,by rw[nv e3 r1];exact g1,?_⟩
  rw[g2];exact q _ _ _ _ (t1.trans t2) R2 .bl
 .cases e
theorem CU{a:ME}(ha:SR K ta a) (hb:SR K tb b):SR K (Hs ta tb) (Aa a b):=by
 intro H₀ Hf₀ Hf S σ H Fs d S' R e Q q;obtain⟨x,e1,e⟩:=oBq.mp e;obtain⟨y,e2,e⟩:=oBq.mp e;refine ha R (d:=x.1) (S':=x.2) e1 _ fun Hf1 H1 Fs1 v1 t1 R1 r1=>hb R1 (d:=y.1) (S':=y.2) e2 _ fun Hf2 H2 Fs2 v2 t2 R2 r2=>?_
 split at e
 .rename_i az hy;rw[hy]at r1;obtain⟨key,e3,e⟩:=oBq.mp e;obtain⟨d',e4,e⟩:=oMq.mp e;cases e;obtain⟨p,v,rfl,g1,g2⟩:=DH (r1.mono t2.sh) e4;exact⟨p,v,rfl,by rw[nv e3 r2];exact g1,q _ _ _ _ (t1.trans t2) R2 g2⟩
 .cases e
end
def fv(x:Nat) (body:MS):List D->AS->Option wo
 | [],S=>some (.nx S)
 |d::ds,S=>(body (S.set x (some (.sh d)))).bind fun o=>match o with
  | .nx S'=>fv x body ds S'
  | .ct S'=>fv x body ds S'
  | .bk S'=>some (.nx S')
  | .rt a=>some (.rt a)
noncomputable def eP:D->Option (List D)
 | .list ds=>some ds
 | .scr ns=>some (ns.map .int)
 |_=>none
def sL(x:Nat) (k:MK) (body:MS):MS:=fun S=>(iI k S).bind fun y=>(eP (aE y.1)).bind fun ds=>fv x body ds y.2
noncomputable def cS(lo:Int) (n:Nat):List D:=(Wm n).map fun i:Nat=>.int (lo+i)
def xB:List D->Option (List D)
 | [.int j]=>iD (-(2 ^ 62)<=j/\j<2 ^ 62) (some (cS 0 j.toNat))
 |_=>none
def SJ:List D->Option (List D)
 | [.int i,.int j]=>iD (-(2 ^ 62)<=i/\i<2 ^ 62/\-(2 ^ 62)<=j/\j<2 ^ 62) (some (cS i (j-i).toNat))
 |_=>none
def xv(x:Nat) (a:ML) (body:MS):MS:=fun S=>(a S).bind fun y=>(xB y.1).bind fun ds=>fv x body ds y.2
def T6(x:Nat) (a:ML) (body:MS):MS:=fun S=>(a S).bind fun y=>(SJ y.1).bind fun ds=>fv x body ds y.2
def Bu(x y:Nat) (body:MS):Nat->List D->AS->Option wo
 |_,[],S=>some (.nx S)
 |i,d::ds,S=>(body ((S.set x (some (.sh (.int i)))).set y (some (.sh d)))).bind fun o=>match o with
  | .nx S'=>Bu x y body (i+1) ds S'
  | .ct S'=>Bu x y body (i+1) ds S'
  | .bk S'=>some (.nx S')
  | .rt a=>some (.rt a)
def QH(x y:Nat) (k:MK) (body:MS):MS:=fun S=>(iI k S).bind fun z=>(eP (aE z.1)).bind fun ds=>Bu x y body 0 ds z.2
def oN(x y:Nat) (body:MS):List D->List D->AS->Option wo
 |d::ds,e::es,S=>(body ((S.set x (some (.sh d))).set y (some (.sh e)))).bind fun o=>match o with
  | .nx S'=>oN x y body ds es S'
  | .ct S'=>oN x y body ds es S'
  | .bk S'=>some (.nx S')
  | .rt a=>some (.rt a)
 |_,_,S=>some (.nx S)
def JE(x y:Nat) (k l:MK) (body:MS):MS:=fun S=>(iI k S).bind fun z=>(iI l z.2).bind fun w=>(eP (aE z.1)).bind fun ds=>(eP (aE w.1)).bind fun es =>
 if ds.length=es.length then oN x y body ds es w.2 else none
def jG(c:MT) (body:MS):Nat->MS
 |0,_=>none
 |n+1,S=>(c S).bind fun x=>if x.1=true then (body x.2).bind fun o=>match o with
   | .nx S'=>jG c body n S'
   | .ct S'=>jG c body n S'
   | .bk S'=>some (.nx S')
   | .rt a=>some (.rt a)
  else some (.nx x.2)
section
variable {K:W.Frag}{te tf:TE}{k l:MK}{tb:TS}{body:MS}{x y:Nat}
theorem nD{H:Hp}{d:D}{ds:List D}{v:V}(e:eP d=some ds) (r:cT K H d v):∃a vs,v = .ref a/\dJ K H a vs/\bY K H ds vs:=by
 cases d with
 |list es =>
  cases e;obtain⟨p,vs,rfl,h1,h2⟩:=r.list_inv;exact⟨p,vs,rfl,dJ.of h1,h2⟩
 |scr ns =>
  cases e;cases r with
  |scr h=>exact⟨_,_,rfl,h,je ns⟩
 |_=>cases e
theorem qe{te:TE}{S:AS}{z:AV×AS}(e:iI k S=some z):∃d,z.1 = .sh d:=by
 obtain⟨w,_,e⟩:=oMq.mp e;rw[←e];exact⟨_,rfl⟩
theorem bK.setD{H₀ Hf₀ Hf H:Hp}{S:AS}{σ:St}{Fs:List (List Addr)}{d:D}{v:V}(R:bK K H₀ Hf₀ Hf S σ H Fs) (i:Nat) (r:cT K Hf d v):bK K H₀ Hf₀ Hf (S.set i (some (.sh d))) (σ.set i (some v)) H (Fs.set i []) :=
 R.set i (.sh r) V6 fun q h=>(by cases h)
theorem qX(hk:SK K te k) (hb:SS K tb body):SS K (Ex (C0 K te) (gI x) tb) (sL x k body):=by
 intro H₀ Hf₀ Hf S σ H Fs o R e D h;obtain⟨z,e1,e⟩:=oBq.mp e;obtain⟨ds,e2,e⟩:=oBq.mp e;have hk':SK K te (iI k):=SK.frz hk;refine hk' R (a:=z.1) (S':=z.2) e1 _ fun Hf1 H1 Fs1 v F t1 R1 r1 o1=>?_
 obtain⟨d,hd⟩:=qe (te:=te) e1;rw[hd]at r1;rw[hd,iw]at e2;obtain⟨a,vs,rfl,g1,g2⟩:=nD e2 r1.sh_inv.2;refine⟨a,rfl,⟨vs,R1.sub.seq g1⟩,zA (xs:=vs) (fun i σ' H'=>∃Hf' S' Fs',bK K H₀ Hf₀ Hf' S' σ' H' Fs'/\bB Hf1 Hf'/\fv x body (ds.drop i) S'=some o) ⟨Hf1,z.2,Fs1,R1,.refl _,e⟩
  (fun i σ' H' _ ⟨Hf',S',Fs',R',s',_⟩=>R'.sub.seq (s'.seq g1)) ?_ ?_⟩
 .rintro i w σ' H' hw ⟨Hf',S',Fs',R',s',e'⟩;obtain⟨di,hdi,rw'⟩:=g2.get' hw;have hlt:i<ds.length:=(gSq.mp hdi).1;rw[VW hlt]at e';have hdi':ds[i]=di:=(gSq.mp hdi).2;rw[hdi']at e';obtain⟨ob,e3,e4⟩:=oBq.mp e';refine hb (R'.setD x (rw'.mono s')) e3 _ ?_;cases ob with
  |nx S2=>exact fun Hf2 σ2 H2 Fs2 s2 R2=>⟨Hf2,S2,Fs2,R2,s'.trans s2,e4⟩
  |ct S2=>exact fun Hf2 σ2 H2 Fs2 s2 R2=>⟨Hf2,S2,Fs2,R2,s'.trans s2,e4⟩
  |bk S2=>cases e4;exact fun Hf2 σ2 H2 Fs2 s2 R2=>h _ _ _ _ ((t1.sf.trans s').trans s2) R2
  |rt a=>cases e4;exact h
 .rintro σ' H' ⟨Hf',S',Fs',R',s',e'⟩;rw[←g2.1,Xf]at e';cases e';exact h _ _ _ _ (t1.sf.trans s') R'
theorem DI{H₀ Hf₀ Hf1 H1:Hp}{S1:AS}{σ:St}{Fs1:List (List Addr)}{o:wo}{D:ja}{lo:Int}{n:Nat}(hb:SS K tb body) (R1:bK K H₀ Hf₀ Hf1 S1 σ H1 Fs1) (e:fv x body (cS lo n) S1=some o) (h:qH K H₀ Hf₀ Hf1 D o) :
  ∃W:Nat->Nat->St->Hp->Prop,(∃m,W 0 m σ H1)/\∀i m σ H,W i m σ H ->
   ((K0 lo n).stop i H/\D.nx σ H)∨((K0 lo n).go i H/\∃N:St->Hp->Prop,(∀σ' H',N σ' H'->∃m',m'<m/\W (i+1) m' σ' H')/\∀v H',(K0 lo n).yld i H v H'->gI x v σ H' fun σ2 H2=>tb { D with nx:=N,ct:=N,bk:=D.nx } σ2 H2):=by
 refine E4 (fun i σ' H'=>∃Hf' S' Fs',bK K H₀ Hf₀ Hf' S' σ' H' Fs'/\bB Hf1 Hf'/\fv x body ((cS lo n).drop i) S'=some o) ⟨Hf1,S1,Fs1,R1,.refl _,e⟩ ?_ ?_
 .rintro i σ' H' hi ⟨Hf',S',Fs',R',s',e'⟩;have hlt:i<(cS lo n).length:=by unfold cS;rw[lMq,V9];exact hi
  rw[VW hlt]at e';have hdi:(cS lo n)[i] = .int (lo+i):=by simp[cS]
  rw[hdi]at e';obtain⟨ob,e3,e4⟩:=oBq.mp e';refine hb (R'.setD x .int) e3 _ ?_;cases ob with
  |nx S2=>exact fun Hf2 σ2 H2 Fs2 s2 R2=>⟨Hf2,S2,Fs2,R2,s'.trans s2,e4⟩
  |ct S2=>exact fun Hf2 σ2 H2 Fs2 s2 R2=>⟨Hf2,S2,Fs2,R2,s'.trans s2,e4⟩
  |bk S2=>cases e4;exact fun Hf2 σ2 H2 Fs2 s2 R2=>h _ _ _ _ (s'.trans s2) R2
  |rt a=>cases e4;exact h
 .rintro σ' H' ⟨Hf',S',Fs',R',s',e'⟩;have hl:(cS lo n).length=n:=by unfold cS;rw[lMq,V9]
  rw[WE (XY hl)]at e';cases e';exact h _ _ _ _ s' R'
theorem IH{ta:TA}{a:ML}(ha:JO K ta a) (hb:SS K tb body):SS K (Ex (Gu ta) (gI x) tb) (xv x a body):=by
 intro H₀ Hf₀ Hf S σ H Fs o R e D h;obtain⟨z,e1,e⟩:=oBq.mp e;obtain⟨ds,e2,e⟩:=oBq.mp e;refine ha R (ds:=z.1) (S':=z.2) e1 _ fun Hf1 H1 Fs1 vs t1 R1 r1=>?_
 unfold xB at e2;split at e2
 .rename_i j hz;rcases bC e2 with ⟨hj,e2⟩|e2
  .skip
   cases e2;rw[hz]at r1;obtain⟨v,ws,rfl,h1,h2⟩:=r1.cons_inv;rw[h2.nil_inv];cases h1;exact⟨j,rfl,hj.1,hj.2,DI hb R1 e (h.mono t1.sf)⟩
  .cases e2
 .cases e2
theorem K9(hk:SK K te k) (hl:SK K tf l) (hb:SS K tb body):SS K (Ex (Rr K (eY te (eY tf jb))) (J9 K 2 (um (gI x) (um (gI y) Lq))) tb) (JE x y k l body):=by
 intro H₀ Hf₀ Hf S σ H Fs o R e D h;obtain⟨z,e1,e⟩:=oBq.mp e;obtain⟨w,e1',e⟩:=oBq.mp e;obtain⟨ds,e2,e⟩:=oBq.mp e;obtain⟨es,e2',e⟩:=oBq.mp e;split at e
 .rename_i hlen;have hk':SK K te (iI k):=SK.frz hk;have hl':SK K tf (iI l):=SK.frz hl;refine hk' R (a:=z.1) (S':=z.2) e1 _ fun Hf1 H1 Fs1 v F t1 R1 r1 o1=>hl' R1 (a:=w.1) (S':=w.2) e1' _ fun Hf2 H2 Fs2 v2 F2 t2 R2 r2 o2=>?_
  obtain⟨d,hd⟩:=qe (te:=te) e1;obtain⟨d2,hd2⟩:=qe (te:=te) e1';rw[hd]at r1;rw[hd,iw]at e2;rw[hd2]at r2;rw[hd2,iw]at e2';obtain⟨a,vs,rfl,g1,g2⟩:=nD e2 (r1.sh_inv.2.mono t2.sf);obtain⟨b,ws,rfl,g3,g4⟩:=nD e2' r2.sh_inv.2;refine⟨a,b,rfl,⟨vs,R2.sub.seq g1⟩,⟨ws,R2.sub.seq g3⟩,Kx (xs:=vs) (ys:=ws) (fun i σ' H'=>∃Hf' S' Fs',bK K H₀ Hf₀ Hf' S' σ' H' Fs'/\bB Hf2 Hf'/\oN x y body (ds.drop i) (es.drop i) S'=some o) ⟨Hf2,w.2,Fs2,R2,.refl _,e⟩ (by rw[←g2.1,←g4.1,hlen])
   (fun i σ' H' _ ⟨Hf',S',Fs',R',s',_⟩=>⟨R'.sub.seq (s'.seq g1),R'.sub.seq (s'.seq g3)⟩) ?_ ?_⟩
  .rintro i u u' σ' H' T hu hu' ⟨Hf',S',Fs',R',s',e'⟩ hT;obtain⟨di,hdi,rw'⟩:=g2.get' hu;obtain⟨ei,hei,rw2⟩:=g4.get' hu';have hlt:i<ds.length:=(gSq.mp hdi).1;have hlt2:i<es.length:=(gSq.mp hei).1;rw[VW hlt,VW hlt2,(gSq.mp hdi).2,(gSq.mp hei).2]at e';obtain⟨ob,e3,e4⟩:=oBq.mp e';have R3:=(R'.new (o:=.tup [u,u']) hT).2.1;refine hb ((R3.setD x (rw'.mono s')).setD y (rw2.mono s')) e3 _ ?_;cases ob with
   |nx S2=>exact fun Hf2 σ2 H2 Fs2 s2 R2=>⟨Hf2,S2,Fs2,R2,s'.trans s2,e4⟩
   |ct S2=>exact fun Hf2 σ2 H2 Fs2 s2 R2=>⟨Hf2,S2,Fs2,R2,s'.trans s2,e4⟩
   |bk S2=>cases e4;exact fun Hf2 σ2 H2 Fs2 s2 R2=>h _ _ _ _ (((t1.sf.trans t2.sf).trans s').trans s2) R2
   |rt a=>cases e4;exact h
  .rintro σ' H' ⟨Hf',S',Fs',R',s',e'⟩;have e0:ds.drop vs.length=[]:=by rw[←g2.1,Xf]
   rw[e0]at e';have e0':oN x y body [] (es.drop vs.length) S'=some (.nx S'):=by
    cases es.drop vs.length <;> rfl
   rw[e0']at e';cases e';exact h _ _ _ _ ((t1.sf.trans t2.sf).trans s') R'
 .cases e
theorem GD{c:TT}{m:MT}(n:Nat) (hc:xj K c m) (hb:SS K tb body):SS K (FC c tb) (jG m body n):=by
 intro H₀ Hf₀ Hf S σ H Fs o R e D h;refine⟨fun n σ' H'=>∃Hf' S' Fs',bK K H₀ Hf₀ Hf' S' σ' H' Fs'/\bB Hf Hf'/\jG m body n S'=some o,⟨n,Hf,S,Fs,R,.refl _,e⟩,?_⟩
 rintro n σ' H' ⟨Hf',S',Fs',R',s',e'⟩;cases n with
 |zero=>cases e'
 |succ n =>
  obtain⟨z,e1,e2⟩:=oBq.mp e';refine hc R' (b:=z.1) (S':=z.2) e1 _ fun Hf1 H1 Fs1 t1 R1=>?_
  split at e2
  .rename_i hz;rw[hz];refine zR ⟨fun σ2 H2=>∃Hf' S' Fs',bK K H₀ Hf₀ Hf' S' σ2 H2 Fs'/\bB Hf Hf'/\jG m body n S'=some o,fun σ2 H2 w=>⟨n,WY n,w⟩,?_⟩
   obtain⟨ob,e3,e4⟩:=oBq.mp e2;refine hb R1 e3 _ ?_;cases ob with
   |nx S2=>exact fun Hf2 σ2 H2 Fs2 s2 R2=>⟨Hf2,S2,Fs2,R2,(s'.trans t1.sf).trans s2,e4⟩
   |ct S2=>exact fun Hf2 σ2 H2 Fs2 s2 R2=>⟨Hf2,S2,Fs2,R2,(s'.trans t1.sf).trans s2,e4⟩
   |bk S2=>cases e4;exact fun Hf2 σ2 H2 Fs2 s2 R2=>h _ _ _ _ ((s'.trans t1.sf).trans s2) R2
   |rt a=>cases e4;exact h
  .rename_i hz;rw[W1]at hz;rw[hz];cases e2;exact yZ (h _ _ _ _ (s'.trans t1.sf) R1)
end
def fE(np n:Nat) (m:MS):MF:=fun ds=>if ds.length=np then (m (ds.map (fun d=>some (.sh d))++VM (n-ds.length) none)).bind fun o=>match o with
  | .rt a=>some a
  | .nx _=>some (.sh .non)
  |_=>none
 else none
theorem wq{K:W.Frag}{Hf H:Hp}{ds:List D}{vs:List V}(N:List Str) (s:bB Hf H) (r:bY K Hf ds vs) :
  bK K H Hf Hf (ds.map (fun d=>some (.sh d))++VM (N.length-ds.length) none) (L2.eQ N vs) H (VM (ds.length+(N.length-ds.length)) []):=by
 have fl:=eJ (ds.length+(N.length-ds.length));refine⟨by simp[L2.eQ,r.1],by simp,fun i av e=>?_,fun i e=>?_,by rw[fl];exact V6,fun p hp=>(by rw[fl]at hp;cases hp),s,bB.refl _,fun b h _=>h,bB.refl _⟩
 .by_cases hi:i<ds.length
  .rw [gZq (by simpa using hi),gMq]at e
   obtain⟨d,e1,e2⟩:=oMq.mp e;cases e2;obtain⟨v,e3,rv⟩:=r.get e1;refine⟨v,[],?_,?_,.sh rv⟩
   .unfold L2.eQ;rw[gZq (by simpa [←r.1] using hi),gMq,e3]
    rfl
   .rw [Wz,if_pos (by lia)]
  .rw [gYq (by simpa using hi)]at e
   have:=mGq e;rw[Xa this]at e;have h2:=Xa this;cases h2
 .rw [Wz];have hi:=(gSq.mp e).1;rw[lAq,lMq,Xu]at hi;rw[if_pos hi]
theorem bE{K:W.Frag}{t:TS}{m:MS}{np:Nat}(N:List Str) (h:SS K t m) {vs:List V}{H:Hp}{Q:VK}{E:XK}(hs:bR K (fE np N.length m) vs H Q E):t { nx:=fun _ H'=>Q .non H',rt:=Q } (L2.eQ N vs) H:=by
 obtain⟨Hf,ds,a,s,r,e,q⟩:=hs;unfold fE at e;split at e
 .obtain ⟨o,e1,e2⟩:=oBq.mp e;refine h (wq N s r) e1 _ ?_;cases o with
  |rt a' =>
   cases e2;exact fun Hf' H' v F s1 s2 s3 l r nd fr=>q Hf' H' v F s1 s2 s3 l r nd fr
  |nx S' =>
   cases e2;exact fun Hf' σ' H' Fs' s1 R=>q Hf' H' .non [] R.sf R.fr R.sub R.lim (.sh .non) V6 fun q h=>(by cases h)
  |bk S'=>cases e2
  |ct S'=>cases e2
 .cases e
theorem cQ{K:W.Frag}{m:MS}{np n:Nat}{vs:List V}{H:Hp}{Q:VK}{E:XK}(hs:bR K (fE np n m) vs H Q E):vs.length=np:=by
 obtain⟨Hf,ds,a,s,r,e,q⟩:=hs;unfold fE at e;split at e
 .rename_i h;rw[←r.1,h]
 .cases e
noncomputable def fzAll:List Nat->AS->Option AS
 | [],S=>some S
 |j::js,S=>(S[j]?.join).bind fun a=>fzAll js (S.set j (some (.sh (aE a))))
noncomputable def Oi:Option AV->Option AV
 |some (.sh d)=>some (.sh d)
 |_=>none
def vT(S:AS):List Nat->Option AS
 | []=>some []
 |j::js=>(Oi S[j]?.join).bind fun a=>(vT S js).map (some a :: ·)
noncomputable def dh(tf:MT) (te:MK) (cap:AS):List D->Option (List AV)
 | []=>some []
 |d::ds=>(tf (some (.sh d)::cap)).bind fun b=>if b.1=true then (te b.2).bind fun a=>(dh tf te cap ds).map (a.1 :: ·) else dh tf te cap ds
abbrev MI:=AS->Option (List D×AS)
def lu(k:MK):MI:=fun S=>(iI k S).bind fun y=>(eP (aE y.1)).map fun ds=>(ds,y.2)
def RD(a:ML):MI:=fun S=>(a S).bind fun y=>(xB y.1).map fun ds=>(ds,y.2)
def eX(src:MI) (fr:List Nat) (tf:MT) (te:MK):MK:=fun S=>(src S).bind fun y=>(fzAll fr y.2).bind fun S2=>(vT S2 fr).bind fun cap=>iD (y.1.length<=dg) ((dh tf te cap y.1).map fun avs=>(.ow avs,S2))
def gf:MT:=fun S=>some (true,S)
section
variable {K:W.Frag}{H₀ Hf₀ Hf Hf' H H':Hp}{S S':AS}{σ:St}{Fs Fs':List (List Addr)}
theorem bK.fz(R:bK K H₀ Hf₀ Hf S σ H Fs) {j:Nat}{a:AV}(e:S[j]?.join=some a):∃Hf' Fs',nW Hf H Fs Hf' H Fs'/\bK K H₀ Hf₀ Hf' (S.set j (some (.sh (aE a)))) σ H Fs':=by
 obtain⟨v,F,s1,s2,r,nd,o,R1⟩:=R.move (bP e);have n:∀q∈F,Hf q=none:=fun q hq=>(r.owned q hq).2
 have R2:=R1.frz o n;have r2:=r.frozen (eI (H:=H) n) fun q hq=>oR hq
 have R3:=R2.again (F:=F) (G:=[]) s1 (.sh r2) V6 fun q h=>(by cases h)
 refine⟨_,_,⟨eI n,.refl _,fun p hp=>cF hp,fun b h g=>?_⟩,R3⟩
 by_cases m:b∈F
 .exact .inr (mFq.mpr ⟨F,mGq s2,m⟩)
 .rw [hU m]at g;exact absurd h g
theorem bK.fzAll:∀{fr:List Nat}{Hf:Hp}{S S':AS}{Fs:List (List Addr)},bK K H₀ Hf₀ Hf S σ H Fs->fzAll fr S=some S'->∃Hf' Fs',nW Hf H Fs Hf' H Fs'/\bK K H₀ Hf₀ Hf' S' σ H Fs'
 | [],Hf,S,S',Fs,R,e=>by
  cases e;exact⟨Hf,Fs,.refl,R⟩
 |j::js,Hf,S,S',Fs,R,e=>by
  obtain⟨a,e1,e2⟩:=oBq.mp e;obtain⟨Hf1,Fs1,t1,R1⟩:=R.fz e1;obtain⟨Hf2,Fs2,t2,R2⟩:=bK.fzAll R1 e2;exact⟨Hf2,Fs2,t1.trans t2,R2⟩
theorem zw(R:bK K H₀ Hf₀ Hf S σ H Fs):∀{fr:List Nat}{cap:AS},vT S fr=some cap->cap.length=fr.length/\∀(k:Nat) (a:AV),cap[k]?=some (some a)->∃d v,a = .sh d/\(slots σ fr)[k]?=some (some v)/\cT K Hf d v
 | [],cap,e=>by
  cases e;exact⟨rfl,fun k a h=>by simp at h⟩
 |j::js,cap,e=>by
  obtain⟨a,e1,e2⟩:=oBq.mp e;obtain⟨cap',e3,e4⟩:=oMq.mp e2;subst e4;obtain⟨h1,h2⟩:=zw R e3;refine⟨by simp[h1],fun k b hk=>?_⟩
  cases k with
  |zero =>
   cases hk;cases ej:S[j]?.join with
   |none=>rw[ej]at e1;cases e1
   |some c =>
    rw[ej]at e1;cases c with
    |sh d =>
     cases e1;obtain⟨v,F,s1,s2,r⟩:=R.rep j _ (bP ej);refine⟨d,v,rfl,?_,r.sh_inv.2⟩;show some ((σ[j]?).join)=_;rw[s1];rfl
    |_=>cases e1
  |succ k=>exact h2 k b (by simpa using hk)
theorem E1(R:bK K H₀ Hf₀ Hf S σ H Fs) {fr:List Nat}{cap:AS}(e:vT S fr=some cap) {d:D}{x:V}(rx:cT K Hf d x) :
  bK K H₀ Hf₀ Hf (some (.sh d)::cap) (some x::slots σ fr) H (VM (cap.length+1) []):=by
 obtain⟨h1,h2⟩:=zw R e;have fl:=eJ (cap.length+1);refine⟨by simp[slots,h1],by simp,fun i av ei=>?_,fun i ei=>?_,by rw[fl];exact V6,fun p hp=>(by rw[fl]at hp;cases hp),R.sub,R.fr,R.lim,R.sf⟩
 .cases i with
  |zero =>
   cases ei;exact⟨x,[],rfl,by simp,.sh rx⟩
  |succ k =>
   have hk:k<cap.length:=(gSq.mp (by simpa using ei)).1
   obtain⟨d',v,rfl,s1,r⟩:=h2 k av (by simpa using ei)
   exact⟨v,[],by simpa using s1,by rw[Wz,if_pos (by lia)],.sh r⟩
 .rw [Wz];have hi:=(gSq.mp ei).1;rw[if_pos (by simpa using hi)]
theorem bK.updOut(R:bK K H₀ Hf₀ Hf S σ H Fs) {p:Addr}{o:HO}(h1:p∉Fs.flatten) (h2:Hf p=none) (h3:H₀ p=none):bK K H₀ Hf₀ Hf S σ (bW H p o) Fs where
 len:=R.len
 lenF:=R.lenF
 rep:=fun i av e=>by
  obtain⟨v,F,s1,s2,r⟩:=R.rep i av e;exact⟨v,F,s1,s2,r.keepUpd fun m=>h1 (bT s2 m)⟩
 emp:=R.emp
 nd:=R.nd
 fresh:=R.fresh
 sub:=fun b u e=>by
  rw[ax fun z=>by rw[z,h2]at e;cases e]
  exact R.sub b u e
 fr:=fun b u e=>by
  rw[ax fun z=>by rw[z,h3]at e;cases e]
  exact R.fr b u e
 lim:=R.lim
 sf:=R.sf
theorem bK.outer{σ2:St}{Fs2 Fs3:List (List Addr)}{Hf3 H3:Hp}{S3:AS}(R:bK K H₀ Hf₀ Hf S σ H Fs) (R3:bK K H₀ Hf₀ Hf3 S3 σ2 H3 Fs3) (t:nW Hf H Fs2 Hf3 H3 Fs3) (h0:Fs2.flatten=[]):nW Hf H Fs Hf3 H3 Fs/\bK K H₀ Hf₀ Hf3 S σ H3 Fs:=by
 have g:∀b,Hf b=none->H b≠none->Hf3 b=none:=fun b h1 h2=>by
  by_cases e:Hf3 b=none
  .exact e
  .rcases t.gr b h1 e with z|z
   .exact absurd z h2
   .rw [h0]at z;cases z
 exact⟨⟨t.sf,t.sh,fun _ h=>h,fun b h1 h2=>.inl (by
  by_cases e:H b=none
  .exact e
  .exact absurd (g b h1 e) h2)⟩,R.more t.sh t.sf R3.sub (fun q hq=>g q (R.mem hq).2 (R.mem hq).1) R3.lim⟩
end
section
variable {K:W.Frag}{tf:TT}{te:TE}{mf:MT}{me:MK}{fr:List Nat}
theorem wF{H₀ Hf₀ Hf1 H1:Hp}{S1:AS}{σ:St}{Fs1:List (List Addr)}{cap:AS}{ds:List D}{avs:List AV}{J:It}{Q:VK}(hf:xj K tf mf) (he:SK K te me)
  (R1:bK K H₀ Hf₀ Hf1 S1 σ H1 Fs1) (ec:vT S1 fr=some cap) (hl:ds.length<=dg) (e:dh mf me cap ds=some avs)
  (hgo:∀i H,bB Hf1 H->i<ds.length->J.go i H) (hst:∀H,bB Hf1 H->J.stop ds.length H) (hy:∀i H x H',bB Hf1 H->i<ds.length->J.yld i H x H'->H'=H/\∃d,ds[i]?=some d/\cT K Hf1 d x)
  (q:∀Hf' H' v F,nW Hf1 H1 Fs1 Hf' H' Fs1->bK K H₀ Hf₀ Hf' S1 σ H' Fs1->bH K Hf' H' (.ow avs) v F->nT H₀ H1 Fs1 Fs1 F->Q v H') :
  ∀acc,H1 acc=none->∃W:Nat->Nat->Hp->Prop,(∃m,W 0 m (bW H1 acc (.lst [])))/\∀i m H,W i m H ->
   (J.stop i H/\Q (.ref acc) H) ∨
   (J.go i H/\∃N:Hp->Prop,(∀H',N H'->∃m',m'<m/\W (i+1) m' H')/\∀x H',J.yld i H x H'->tf (some x::slots σ fr) H' fun b H2 =>
    if b=true then te (some x::slots σ fr) H2 fun y H3=>∃ys,H3 acc=some (.lst ys)/\ys.length<sizeLine/\N (bW H3 acc (.lst (ys++[y]))) else N H2):=by
 intro acc hacc;obtain⟨t0,R0,n1,n2,n3⟩:=R1.new (o:=.lst []) hacc
 let P:Nat->Hp->Prop:=fun i H=>∃Hf as vs Gs rest,bK K H₀ Hf₀ Hf S1 σ H Fs1/\nW Hf1 H1 Fs1 Hf H Fs1/\H acc=some (.lst vs)/\Hf acc=none/\bu K Hf H as vs Gs/\nT H₀ H1 Fs1 Fs1 (acc::Gs.flatten)/\as.length<=i /\
  dh mf me cap (ds.drop i)=some rest/\avs=as++rest
 refine⟨fun i m H=>m=ds.length-i/\i<=ds.length/\P i H,⟨ds.length,by simp,Wf _,Hf1,[],[],[],avs,R0,t0,aL,n1,.nil,nT.one R1 hacc,Wf _,e,rfl⟩,?_⟩
 rintro i m H ⟨rfl,hi,Hf,as,vs,Gs,rest,R,t,ha,hfa,ra,ow,la,er,ea⟩;have hs:bB Hf1 H:=t.sf.trans R.sub
 by_cases hlt:i<ds.length
 .refine .inr ⟨hgo i H hs hlt,P (i+1),fun H' p=>⟨ds.length-(i+1),by lia,rfl,hlt,p⟩,fun x H' y=>?_⟩
  obtain⟨rfl,d,hd,rx⟩:=hy i H x H' hs hlt y;rw[VW hlt,(gSq.mp hd).2]at er;obtain⟨b,e1,e2⟩:=oBq.mp er;have fl:=eJ (cap.length+1);refine hf (E1 R ec (rx.mono t.sf)) (b:=b.1) (S':=b.2) e1 _ fun Hf2 H2 Fs2 t2 R2=>?_
  obtain⟨t2',R2'⟩:=R.outer R2 t2 fl;have ha2:H2 acc=some (.lst vs):=t2.sh _ _ ha;have hfa2:Hf2 acc=none:=by
   by_cases z:Hf2 acc=none
   .exact z
   .rcases t2.gr acc hfa z with z|z
    .rw [ha]at z;cases z
    .rw [fl]at z;cases z
  have ra2:=ra.stp (fun q hq=>ow.out q (mCo _ hq)) t2'
  split at e2
  .rename_i hb;rw[hb];refine zR ?_;obtain⟨a,e3,e4⟩:=oBq.mp e2;obtain⟨rest',e5,e6⟩:=oMq.mp e4;subst e6;refine he R2 (a:=a.1) (S':=a.2) e3 _ fun Hf3 H3 Fs3 v F t3 R3 r3 o3=>?_
   have fl2:Fs2.flatten=[]:=by
    cases hz:Fs2.flatten with
    |nil=>rfl
    |cons z zs =>
     have:=t2.own z (by rw[hz];simp)
     rw[fl]at this;cases this
   obtain⟨t3',R3'⟩:=R2'.outer R3 t3 fl2;have ha3:H3 acc=some (.lst vs):=t3.sh _ _ ha2;have hfa3:Hf3 acc=none:=by
    by_cases z:Hf3 acc=none
    .exact z
    .rcases t3.gr acc hfa2 z with z|z
     .rw [ha2]at z;cases z
     .rw [fl2]at z;cases z
   have ra3:=ra2.stp (fun q hq=>ow.out q (mCo _ hq)) t3'
   have newF:∀q∈F,H2 q=none:=fun q hq=>(o3.new q hq).elim id fun z=>by rw[fl2]at z;cases z
   have accF:acc∉F:=fun m=>by rw[newF acc m]at ha2;cases ha2
   have accG:acc∉Gs.flatten:=(Vx.mp ow.nd).1;have tt:=(t.trans t2').trans t3';refine⟨vs,ha3,?_,?_⟩
   .rw [gC,←ra.1];lia
   .refine ⟨Hf3,as++[a.1],vs++[v],Gs++[F],rest',R3'.updOut n3 hfa3 n2,⟨tt.sf,fun b o eb=>?_,fun _ h=>h,tt.gr⟩,aL,hfa3,(ra3.keepUpd accG).snoc (r3.keepUpd accF),?_,by rw[lAq,lSq];lia,e5,by rw[ea];simp⟩
    .rw [ax fun z=>by rw[z,hacc]at eb;cases eb]
     exact tt.sh b o eb
    .rw [fAq,VZ];have oF:nT H₀ H1 Fs1 Fs1 F:=⟨o3.nd,o3.fr,fun q hq m=>(R2'.mem m).1 (newF q hq),fun q hq=>.inl ((t.trans t2').sh.free (newF q hq))⟩
     refine(show nT H₀ H1 Fs1 Fs1 ((acc::Gs.flatten)++F) from ow.app oF fun q hq m=>?_)
     rcases VB.mp hq with z|z
     .rw [z]at m;exact accF m
     .exact (ra2.owned q z).1 (newF q m)
  .rename_i hb;rw[W1]at hb;rw[hb];exact yZ ⟨Hf2,as,vs,Gs,rest,R2',t.trans t2',ha2,hfa2,ra2,ow,by lia,e2,ea⟩
 .have e0:i=ds.length:=by lia
  subst e0;rw[Xf]at er;cases er;rw[aNq]at ea;subst ea;exact .inl ⟨hst H hs,q Hf H (.ref acc) _ t R (bH.news ha hfa ra) ow⟩
theorem fh{tl:TE}{k:MK}(hk:SK K tl k) (hf:xj K tf mf) (he:SK K te me):SK K (Cz (C0 K tl) fr tf te) (eX (lu k) fr mf me):=by
 intro H₀ Hf₀ Hf S σ H Fs av S' R e Q q;obtain⟨y,e1,e⟩:=oBq.mp e;obtain⟨z,e0,e1⟩:=oBq.mp e1;obtain⟨ds,e2,e1⟩:=oMq.mp e1;subst e1;obtain⟨S2,e3,e⟩:=oBq.mp e;obtain⟨cap,e4,e⟩:=oBq.mp e;rcases bC e with ⟨hl,e⟩|e
 .obtain ⟨avs,e5,e⟩:=oMq.mp e;cases e;have hk':SK K tl (iI k):=SK.frz hk;refine hk' R (a:=z.1) (S':=z.2) e0 _ fun Hf1 H1 Fs1 v F t1 R1 r1 o1=>?_
  obtain⟨d,hd⟩:=qe (te:=tl) e0;rw[hd]at r1;rw[hd,iw]at e2;obtain⟨Hf2,Fs2,t2,R2⟩:=R1.fzAll e3;obtain⟨a,vs,rfl,g1,g2⟩:=nD e2 (r1.sh_inv.2.mono t2.sf);refine⟨a,rfl,⟨vs,R2.sub.seq g1⟩,wF (K:=K) hf he R2 e4 hl e5 (fun i H s hi=>⟨vs,vs[i]'(g2.1 ▸ hi),s.seq g1,gEg (g2.1 ▸ hi)⟩) (fun H s=>⟨vs,s.seq g1,XY g2.1.symm⟩) (fun i H x H' s hi y=>?_) fun Hf' H' v F t R' r o=>q _ _ _ v F ((t1.trans t2).trans t) R' r (o.back (t1.trans t2))⟩
  obtain⟨y1,y2⟩:=y;obtain⟨di,h1,h2⟩:=g2.get' (y2 vs (s.seq g1));exact⟨y1,di,h1,h2⟩
 .cases e
theorem vw{lo:Int}{n i:Nat}(h:i<n):(cS lo n)[i]?=some (.int (lo+i)):=by
 unfold cS;rw[gMq,XO h];rfl
theorem fP(lo:Int) (n:Nat):(cS lo n).length=n:=by unfold cS;rw[lMq,V9]
theorem wA{ta:TA}{a:ML}(ha:JO K ta a) (hf:xj K tf mf) (he:SK K te me):SK K (Cz (Gu ta) fr tf te) (eX (RD a) fr mf me):=by
 intro H₀ Hf₀ Hf S σ H Fs av S' R e Q q;obtain⟨y,e1,e⟩:=oBq.mp e;obtain⟨z,e0,e1⟩:=oBq.mp e1;obtain⟨ds,e2,e1⟩:=oMq.mp e1;subst e1;obtain⟨S2,e3,e⟩:=oBq.mp e;obtain⟨cap,e4,e⟩:=oBq.mp e;rcases bC e with ⟨hl,e⟩|e
 .obtain ⟨avs,e5,e⟩:=oMq.mp e;cases e;refine ha R (ds:=z.1) (S':=z.2) e0 _ fun Hf1 H1 Fs1 vs t1 R1 r1=>?_
  unfold xB at e2;split at e2
  .rename_i j hz;rcases bC e2 with ⟨hj,e2⟩|e2
   .skip
    cases e2;rw[hz]at r1;obtain⟨v,ws,rfl,h1,h2⟩:=r1.cons_inv;rw[h2.nil_inv];cases h1;obtain⟨Hf2,Fs2,t2,R2⟩:=R1.fzAll e3;refine⟨j,rfl,hj.1,hj.2,wF (K:=K) hf he R2 e4 hl e5 (fun i H s hi=>(by rw[fP]at hi;exact hi)) (fun H s=>(by rw[fP];exact Vu _)) (fun i H x H' s hi y=>?_) fun Hf' H' v F t R' r o=>q _ _ _ v F ((t1.trans t2).trans t) R' r (o.back (t1.trans t2))⟩
    obtain⟨y1,y2⟩:=y;rw[fP]at hi;exact⟨y1,_,vw hi,by rw[y2];exact .int⟩
   .cases e2
  .cases e2
 .cases e
theorem qU:xj K QE gf:=by
 intro H₀ Hf₀ Hf S σ H Fs b S' R e Q q;cases e;exact q _ _ _ .refl R
end
mutual
def py:D->Option PyData
 | .non=>some .none
 | .bl b=>some (.bool b)
 | .int i=>some (.int i)
 | .str x=>some (.str x)
 | .list ds=>(JR ds).map .list
 | .tup ds=>(JR ds).map .tuple
 |_=>none
def JR:List D->Option (List PyData)
 | []=>some []
 |d::ds=>(py d).bind fun x=>(JR ds).map (x :: ·)
end
noncomputable def HZ(d e:D):Option D:=(py d).bind fun a=>(py e).bind fun b=>if SeqAt.shaped a=true/\SeqAt.shaped b=true/\SeqAt.noMix a b=true then some (.bl (PySem.Spec.same a b)) else none
def Vh(d e:D):Option D:=(HZ d e).bind DV
noncomputable abbrev dI(ns:List Int):D:=.list (ns.map .int)
abbrev dM(rs:List (List Int)):D:=.list (rs.map dI)
theorem Il(ns:List Int):JR (ns.map .int)=some (ns.map PyData.int):=by
 induction ns with
 |nil=>simp[JR]
 |cons n ns ih=>simp[JR,py,ih]
theorem NQ(ns:List Int):py (dI ns)=some (jN ns):=by
 show py (.list _)=_;simp only[py,Il];rfl
theorem IB(rs:List (List Int)):JR (rs.map dI)=some (rs.map jN):=by
 induction rs with
 |nil=>simp[JR]
 |cons r rs ih =>
  show JR (dI r::rs.map dI)=_;simp only[JR,NQ,ih];rfl
theorem Rk(rs:List (List Int)):py (dM rs)=some (qg rs):=by
 show py (.list _)=_;simp only[py,IB];rfl
theorem uN(r:List Int):SeqAt.shaped (jN r)=true:=by
 have h2:=W.depthAll_ints r;have h3:PyData.depth (jN r)<=64:=by simp only[jN,PyData.depth];lia
 show (PyData.canLay0 (jN r) && decide (PyData.depth (jN r)<=64))=true;rw[WZ];exact⟨by simp only[jN,PyData.canLay0];exact W.canLayAll0_ints r,decide_eq_true h3⟩
@[simp] theorem Ti (ns ms:List Int):HZ (dI ns) (dI ms)=some (.bl (decide (ns=ms))):=by
 unfold HZ;rw[NQ,NQ];show (if _ then _ else _)=_
 rw[if_pos ⟨uN ns,uN ms,by simp only[jN,SeqAt.noMix];exact W.noMix_ints ns ms⟩]
 simp only[jN,PySem.Spec.same,W.same_ints]
@[simp] theorem TQ (rs ts:List (List Int)):HZ (dM rs) (dM ts)=some (.bl (decide (rs=ts))):=by
 unfold HZ;rw[Rk,Rk];show (if _ then _ else _)=_
 rw[if_pos ⟨rW rs,rW ts,by simp only[qg,SeqAt.noMix];exact uo rs ts⟩]
 simp only[qg,PySem.Spec.same,wt]
noncomputable def uX(l:ML):MK:=fun S=>(l S).map fun x=>(.ow (x.1.map .sh),x.2)
def Bw(l:ML):MK:=fun S=>(l S).bind fun x=>(eB x.1).map fun ns=>(.ow ((nQ ns).map fun n=>.sh (.int n)),x.2)
def mK:List D->Option (List (List Int))
 | []=>some []
 | .list ds::es=>(eB ds).bind fun r=>(mK es).map (r :: ·)
 |_=>none
theorem wY:∀{ds:List D}{rs:List (List Int)},mK ds=some rs->ds=rs.map dI
 | [],rs,h=>by cases h;rfl
 |d::ds,rs,h=>by
  cases d with
  |list es =>
   obtain⟨r,h1,h⟩:=oBq.mp (show (eB es).bind (fun r=>(mK ds).map (r :: ·))=some rs from h)
   obtain⟨ts,h2,h3⟩:=oMq.mp h;subst h3;rw[wY h2,kK h1];rfl
  |_=>cases h
@[simp] theorem BM (rs:List (List Int)):mK (rs.map dI)=some rs:=by
 induction rs with
 |nil=>rfl
 |cons r rs ih =>
  show (eB (r.map .int)).bind (fun r=>(mK (rs.map dI)).map (r :: ·))=_
  rw[eZ,ih];rfl
def Tu(l:ML):MK:=fun S=>(l S).bind fun x=>(mK x.1).map fun rs=>(.ow ((mw rs).map fun r=>.sh (dI r)),x.2)
section
variable {K:W.Frag}{te:TE}{l:ML}
theorem Kn(hl:SQ K te l):SK K (OB (fun xs H Q=>∃p ys,xs=[.ref p]/\(dJ K H p ys∨vH K H p ys)/\∀l,H l=none->Q (.ref l) (bW H l (.lst ys))) (eY te jb)) (uX l):=by
 intro H₀ Hf₀ Hf S σ H Fs av S' R e Q q;obtain⟨x,e1,e⟩:=oMq.mp e;cases e;refine hl R (ds:=x.1) (S':=x.2) e1 _ fun Hf1 H1 Fs1 p1 vs1 t1 R1 h1 r1=>⟨p1,vs1,rfl,.inl h1,fun p hp=>?_⟩
 obtain⟨t4,R4,n1,n2,n3⟩:=R1.new (o:=.lst vs1) hp;exact q _ _ _ (.ref p) [p] (t1.trans t4) R4 (bH.new aL n1 r1) ((nT.one R1 hp).back t1)
theorem rQ(ns:List Int):(ns.map fun n=>AV.sh (.int n))=(ns.map D.int).map .sh:=by rw[mPq];rfl
theorem Hx(hl:SQ K te l):SK K (OB (fun xs H Q=>∃(a:Addr) (ns:List Int),xs=[.ref a]/\dJ K H a (ns.map V.int)/\∀p,H p=none->Q (.ref p) (bW H p (.lst ((nQ ns).map V.int)))) (eY te jb)) (Bw l):=by
 intro H₀ Hf₀ Hf S σ H Fs av S' R e Q q;obtain⟨x,e1,e⟩:=oBq.mp e;obtain⟨ns,e2,e⟩:=oMq.mp e;cases e;refine hl R (ds:=x.1) (S':=x.2) e1 _ fun Hf1 H1 Fs1 p1 vs1 t1 R1 h1 r1=>?_
 rw[kK e2]at r1;rw[fJ r1]at h1;refine⟨p1,ns,rfl,h1,fun p hp=>?_⟩
 obtain⟨t4,R4,n1,n2,n3⟩:=R1.new (o:=.lst ((nQ ns).map V.int)) hp;rw[rQ]at q;exact q _ _ _ (.ref p) [p] (t1.trans t4) R4 (bH.new aL n1 (je _)) ((nT.one R1 hp).back t1)
theorem oh{H:Hp}:∀{rs:List (List Int)}{vs:List V},bY K H (rs.map dI) vs->∃ps,vs=ps.map V.ref/\dq H ps rs
 | [],vs,h=>⟨[],h.nil_inv,.nil⟩
 |r::rs,vs,h=>by
  obtain⟨v,ws,rfl,h1,h2⟩:=bY.cons_inv (d:=dI r) (ds:=rs.map dI) h;obtain⟨p,us,rfl,h3,h4⟩:=h1.list_inv;rw[fJ h4]at h3;obtain⟨ps,rfl,h5⟩:=oh h2;exact⟨p::ps,rfl,dq.cons_iff.mpr ⟨h3,h5⟩⟩
end
noncomputable def Q6:String->D->Bool
 |T,.list _=>T == "list"
 |T,.scr _=>T == "list"
 |T,.str _=>T == "str"
 |_,_=>false
def P6(T:String) (f:D->List D->Option D) (a:ME) (as:ML):ME:=fun S=>(a S).bind fun x=>if Q6 T x.1=true then (as x.2).bind fun y=>(f x.1 y.1).map fun d=>(d,y.2) else none
def Uj(K:W.Frag) (r:V->List V->Hp->VK->Prop) (f:D->List D->Option D):Prop:=∀{x:V}{vs:List V}{H:Hp}{Q:VK}{dx:D}{ds:List D}{d:D},cT K H dx x->bY K H ds vs->f dx ds=some d->(∀v,cT K H d v->Q v H)->r x vs H Q
section
variable {K:W.Frag}{te:TE}{ta:TA}{a:ME}{as:ML}{r:V->List V->Hp->VK->Prop}{f:D->List D->Option D}{T:String}
theorem OL{H:Hp}{d:D}{v:V}(h:Q6 T d=true) (rv:cT K H d v):Sk K T v H:=by
 cases rv <;> simp only[Q6]at h
 all_goals first|(exfalso;simp at h;done)|skip
 .exact eq_of_beq h
 .rename_i p vs ds h1 l e;exact .inl ⟨eq_of_beq h,vs,dJ.of h1⟩
 .rename_i p ns h1;exact .inl ⟨eq_of_beq h,_,h1⟩
theorem C9(hr:Uj K r f) (ha:SR K te a) (hs:JO K ta as):SR K (DO K T r te ta) (P6 T f a as):=by
 intro H₀ Hf₀ Hf S σ H Fs d S' R e Q q;obtain⟨x,e1,e⟩:=oBq.mp e;split at e
 .rename_i hT;obtain⟨y,e2,e⟩:=oBq.mp e;obtain⟨z,e3,e⟩:=oMq.mp e;cases e;refine ha R (d:=x.1) (S':=x.2) e1 _ fun Hf1 H1 Fs1 v t1 R1 r1=>⟨OL hT r1,hs R1 (ds:=y.1) (S':=y.2) e2 _ fun Hf2 H2 Fs2 vs t2 R2 r2=>?_⟩
  exact hr (r1.mono t2.sh) r2 e3 fun v rv=>q _ _ _ v (t1.trans t2) R2 rv
 .cases e
def lN:D->List D->Option D
 | .list ds,[.int k]=>(eB ds).bind fun ns=>if k∈ns then some (.int (ns.idxOf k:Nat)) else none
 |_,_=>none
theorem pT:Uj K (HA K) lN:=by
 intro x vs H Q dx ds d rx rs e q;unfold lN at e;split at e
 .rename_i es k;obtain⟨ns,e1,e⟩:=oBq.mp e;split at e
  .rename_i hk;cases e;obtain⟨v,ws,rfl,h1,h2⟩:=rs.cons_inv;rw[h2.nil_inv];cases h1;rw[kK e1]at rx;obtain⟨p,us,rfl,h3,h4⟩:=rx.list_inv;rw[fJ h4]at h3;exact⟨p,ns,k,rfl,rfl,dJ.of h3,hk,q _ .int⟩
  .cases e
 .cases e
def Gc(a:ME):ME:=fun S=>(a S).bind fun x=>match x.1 with
 | .list ds=>(mK ds).map fun rs=>(.int (rs.countP (·=([]:List Int)):Nat),x.2)
 |_=>none
theorem JT(ha:SR K te a):SR K (DO K "list" Gz te (eY (NH jb) jb)) (Gc a):=by
 intro H₀ Hf₀ Hf S σ H Fs d S' R e Q q;obtain⟨x,e1,e⟩:=oBq.mp e;refine ha R (d:=x.1) (S':=x.2) e1 _ fun Hf1 H1 Fs1 v t1 R1 r1=>?_
 split at e
 .rename_i ds hx;obtain⟨rs,e2,e⟩:=oMq.mp e;cases e;rw[hx,wY e2]at r1;obtain⟨p,us,rfl,h3,h4⟩:=r1.list_inv;obtain⟨ps,rfl,hE⟩:=oh h4;refine⟨.inl ⟨rfl,_,dJ.of h3⟩,Wf _,fun b hb=>?_⟩
  obtain⟨t4,R4,n1,n2,n3⟩:=R1.new (o:=.lst []) hb;refine⟨p,b,ps,rs,[],rfl,rfl,(by rw[ax (cP h3 hb)];exact h3),hE.same t4.sh,aL,hE.free (H:=H1) hb,q _ _ _ _ (t1.trans t4) R4 .int⟩
 .cases e
noncomputable def yD:D->Option Bool
 | .non=>some false
 | .bl b=>some b
 | .int i=>some (i != 0)
 | .list ds=>some (!ds.isEmpty)
 | .tup ds=>some (!ds.isEmpty)
 | .dict ds=>some (!ds.isEmpty)
 |_=>none
def xp(a:ME):MT:=fun S=>(a S).bind fun x=>(yD x.1).map fun b=>(b,x.2)
theorem mU{α β:Type}{xs:List α}{ys:List β}(h:xs.length=ys.length):(!xs.isEmpty) = !ys.isEmpty:=by
 cases xs <;> cases ys <;> simp at h ⊢
theorem yl(ha:SR K te a):xj K (fun σ H Q=>te σ H fun x H'=>∃k,NM K x H' k/\Q k H') (xp a):=by
 intro H₀ Hf₀ Hf S σ H Fs b S' R e Q q;obtain⟨x,e1,e⟩:=oBq.mp e;obtain⟨c,e2,e⟩:=oMq.mp e;cases e;refine ha R (d:=x.1) (S':=x.2) e1 _ fun Hf1 H1 Fs1 v t1 R1 r1=>⟨_,?_,q _ _ _ t1 R1⟩
 cases hx:x.1 <;> rw[hx]at e2 r1 <;> simp only[yD]at e2
 all_goals first|(exfalso;simp at e2;done)|skip
 .cases r1;cases e2;rfl
 .cases r1;cases e2;rfl
 .cases r1;cases e2;rfl
 .obtain ⟨p,us,rfl,h3,h4⟩:=r1.list_inv;cases e2;exact .inl ⟨us,dJ.of h3,mU h4.1⟩
 .obtain ⟨p,us,rfl,h3,h4⟩:=r1.tup_inv;cases e2;exact .inr (.inl ⟨us,vH.of h3,mU h4.1⟩)
 .obtain ⟨p,us,rfl,h3,h4⟩:=r1.dict_inv;cases e2;exact .inr (.inr ⟨us,h3,mU h4.len⟩)
end
noncomputable def bF:AV->List Nat->Option (List AV)
 | .ow avs,[]=>some avs
 | .ow avs,j::js=>(avs[j]?).bind fun a=>bF a js
 |_,_=>none
noncomputable def putAt:AV->List Nat->List AV->AV
 | .ow _,[],as=>.ow as
 | .ow avs,j::js,as=>match avs[j]? with
  |some a=>.ow (avs.set j (putAt a js as))
  |none=>.ow avs
 |a,_,_=>a
def vI(H:Hp):V->List Nat->V->Prop
 |v,[],w=>v=w
 |v,j::js,w=>∃p vs u,v = .ref p/\H p=some (.lst vs)/\vs[j]?=some u/\vI H u js w
section
variable {K:W.Frag}{H₀ Hf₀ Hf Hf' H H':Hp}{S S':AS}{σ:St}{Fs Fs':List (List Addr)}
theorem mi:∀{Fs:List (List Addr)}{F G:List Addr}(i:Nat),Fs.flatten.Nodup->Fs[i]?=some G->F.Nodup->(∀p∈F,p∈G∨p∉Fs.flatten)->(Fs.set i F).flatten.Nodup
 | [],F,G,i,h,e,_,_=>by simp at e
 |E::Gs,F,G,0,h,e,hF,hd=>by
  simp at e;subst e;rw[Xk,fCq,nAq];rw[fCq,nAq]at h;refine⟨hF,h.2.1,fun a ha b hb e=>?_⟩
  subst e;rcases hd a ha with z|z
  .exact h.2.2 a z a hb rfl
  .exact z (by rw[fCq];exact VH _ hb)
 |E::Gs,F,G,i+1,h,e,hF,hd=>by
  rw[XU,fCq,nAq];rw[fCq,nAq]at h;have e':Gs[i]?=some G:=by simpa using e
  refine⟨h.1,mi i h.2.1 e' hF fun p hp=>(hd p hp).imp id fun z m=>z (by rw[fCq];exact VH _ m),fun a ha b hb e=>?_⟩
  subst e;rcases eC hb with q|q
  .rcases hd a q with z|z
   .exact h.2.2 a ha a (mFq.mpr ⟨G,mGq e',z⟩) rfl
   .exact z (by rw[fCq];exact WL _ ha)
  .exact h.2.2 a ha a q rfl
theorem tV:∀{Fs:List (List Addr)}{F G:List Addr}{i j:Nat}{p:Addr},Fs.flatten.Nodup->Fs[i]?=some F->Fs[j]?=some G->i≠j->p∈F->p∉G
 | [],F,G,i,j,p,_,e,_,_,_,_=>by simp at e
 |E::Es,F,G,0,0,p,h,e,f,n,_,_=>n rfl
 |E::Es,F,G,0,j+1,p,h,e,f,n,hp,m=>by
  simp at e;subst e;rw[fCq,nAq]at h;exact h.2.2 p hp p (mFq.mpr ⟨G,mGq (i:=j) (by simpa using f),m⟩) rfl
 |E::Es,F,G,i+1,0,p,h,e,f,n,hp,m=>by
  simp at f;subst f;rw[fCq,nAq]at h;exact h.2.2 p m p (mFq.mpr ⟨F,mGq (i:=i) (by simpa using e),hp⟩) rfl
 |E::Es,F,G,i+1,j+1,p,h,e,f,n,hp,m=>by
  rw[fCq,nAq]at h;exact tV h.2.1 (i:=i) (j:=j) (by simpa using e) (by simpa using f) (fun z=>n (by rw[z])) hp m
theorem bH.path:∀{path:List Nat}{av:AV}{v:V}{F:List Addr}{as:List AV},bH K Hf H av v F->F.Nodup->bF av path=some as->∃p vs Gs,vI H v path (.ref p)/\H p=some (.lst vs)/\Hf p=none/\bu K Hf H as vs Gs/\p∈F/\p∉Gs.flatten/\Gs.flatten.Nodup/\(∀q∈Gs.flatten,q∈F) /\
  ∀as' vs' Gs',bu K Hf (bW H p (.lst vs')) as' vs' Gs'->(p::Gs'.flatten).Nodup->(∀q∈Gs'.flatten,q∈Gs.flatten∨q∉F)->∃F',bH K Hf (bW H p (.lst vs')) (putAt av path as') v F'/\F'.Nodup/\∀q∈F',q∈F∨q∈Gs'.flatten
 | [],av,v,F,as,r,nd,e=>by
  cases av with
  |ow avs =>
   cases e;obtain⟨p,vs,Gs,rfl,rfl,h1,h2,h3⟩:=r.ow_inv;have n:=Vx.mp nd;refine⟨p,vs,Gs,rfl,h1,h2,h3,by simp,n.1,n.2,fun q hq=>mCo _ hq,fun as' vs' Gs' r' nd' _=>⟨p::Gs'.flatten,bH.news aL h2 r',nd',fun q hq=>?_⟩⟩
   rcases VB.mp hq with z|z
   .exact .inl (by rw[z];simp)
   .exact .inr z
  |_=>cases e
 |j::js,av,v,F,as,r,nd,e=>by
  cases av with
  |ow avs =>
   obtain⟨a,e1,e2⟩:=oBq.mp (show (avs[j]?).bind (fun a=>bF a js)=some as from e)
   obtain⟨p0,vs0,Gs0,rfl,rfl,h1,h2,h3⟩:=r.ow_inv;have n:=Vx.mp nd;have hj:j<avs.length:=(gSq.mp e1).1;have hv:vs0[j]?=some (vs0[j]'(h3.1 ▸ hj)):=gEg _;have hg:Gs0[j]?=some (Gs0[j]'(h3.2.1 ▸ hj)):=gEg _;generalize vs0[j]'(h3.1 ▸ hj)=vj at hv;generalize Gs0[j]'(h3.2.1 ▸ hj)=Fj at hg;have rj:=h3.2.2 j a vj Fj e1 hv hg;have ndj:Fj.Nodup:=V1.sublist (VX (mGq hg)) n.2;have sub:∀q∈Fj,q∈Gs0.flatten:=fun q hq=>bT hg hq
   obtain⟨p,vs,Gs,g1,g2,g3,g4,g5,g6,g6',g7,g8⟩:=bH.path rj ndj e2;have pne:p0≠p:=fun z=>n.1 (z ▸ sub p g5)
   refine⟨p,vs,Gs,⟨p0,vs0,vj,rfl,h1,hv,g1⟩,g2,g3,g4,mCo _ (sub p g5),g6,g6',fun q hq=>mCo _ (sub q (g7 q hq)),fun as' vs' Gs' r' nd' hd=>?_⟩
   obtain⟨F',k1,k2,k3⟩:=g8 as' vs' Gs' r' nd' fun q hq=>(hd q hq).imp id fun z m=>z (mCo _ (sub q m))
   have hF':∀q∈F',q∈Fj∨q∉Gs0.flatten:=fun q hq=>by
    rcases k3 q hq with z|z
    .exact .inl z
    .rcases hd q z with y|y
     .exact .inl (g7 q y)
     .exact .inr fun m=>y (mCo _ m)
   refine⟨p0::(Gs0.set j F').flatten,?_,Vx.mpr ⟨fun m=>?_,mi j n.2 hg k2 hF'⟩,fun q hq=>?_⟩
   .show bH K Hf (bW H p (.lst vs')) (match avs[j]? with|some a=>.ow (avs.set j (putAt a js as'))|none=>.ow avs) (.ref p0) _
    rw[e1];refine .ow (vs:=vs0) (by rw[ax pne];exact h1) h2 (by rw[lZq];exact h3.1) (by rw[lZq,lZq];exact h3.2.1) fun i b w G q1 q2 q3=>?_
    rw[V8]at q1 q3
    by_cases hij:j=i
    .subst hij;rw[if_pos rfl,if_pos hj]at q1;rw[if_pos rfl,if_pos (h3.2.1 ▸ hj)]at q3;rw[hv]at q2;cases q1;cases q2;cases q3;exact k1
    .rw [if_neg hij]at q1 q3;exact(h3.2.2 i b w G q1 q2 q3).keepUpd fun m=>tV n.2 hg q3 hij g5 m
   .rcases eC m with z|z
    .rcases k3 p0 z with y|y
     .exact n.1 (sub p0 y)
     .rcases hd p0 y with x|x
      .exact n.1 (sub p0 (g7 p0 x))
      .exact x (by simp)
    .exact n.1 z
   .rcases VB.mp hq with z|z
    .exact .inl (by rw[z];simp)
    .rcases eC z with z|z
     .exact (k3 q z).imp (fun y=>mCo _ (sub q y)) id
     .exact .inl (mCo _ z)
  |_=>cases e
theorem bK.turnAny(R:bK K H₀ Hf₀ Hf S σ H Fs) {i:Nat}{av:AV}{p:Addr}{o:HO}{v:V}{F F':List Addr}(s1:σ[i]?=some (some v)) (s2:Fs[i]?=some F) (hp:p∈F) (r:bH K Hf (bW H p o) av v F') (nd:F'.Nodup)
  (hf:∀q∈F',H₀ q=none/\q∉(Fs.set i []).flatten):bK K H₀ Hf₀ Hf (S.set i (some av)) σ (bW H p o) (Fs.set i F'):=by
 have hin:p∈Fs.flatten:=mFq.mpr ⟨F,mGq s2,hp⟩;have pn:Hf p=none:=(R.mem hin).2;have p0:H₀ p=none:=R.fresh p hin;have out:=gF R.nd s2 hp;have R1:bK K H₀ Hf₀ Hf (S.set i none) σ (bW H p o) (Fs.set i []):=by
  refine⟨by simp[R.len],by simp[R.lenF],fun j a ej=>?_,fun j ej=>?_,cZ i R.nd V6 (fun p hp=>by cases hp),fun p hp=>R.fresh p (cF hp),fun b u e=>?_,fun b u e=>?_,R.lim,R.sf⟩
  .rw [V8]at ej
   by_cases hij:i=j
   .subst hij;rw[if_pos rfl]at ej;split at ej <;> cases ej
   .rw [if_neg hij]at ej;obtain⟨w,G,f1,f2,q⟩:=R.rep j a ej;refine⟨w,G,f1,by rw[VA hij];exact f2,q.keep (.refl _) (fun c hc=>ax fun e=>out ?_) fun c hc=>(q.owned c hc).2⟩
    subst e;exact mFq.mpr ⟨G,mGq (i:=j) (by rw[VA hij];exact f2),hc⟩
  .rw [V8]at ej
   by_cases hij:i=j
   .subst hij;rw[if_pos rfl]at ej;split at ej
    .rename_i hi;rw[VS (R.lenF.symm ▸ hi)]
    .cases ej
   .rw [if_neg hij]at ej;rw[VA hij];exact R.emp j ej
  .rw [ax fun z=>by rw[z,pn]at e;cases e]
   exact R.sub b u e
  .rw [ax fun z=>by rw[z,p0]at e;cases e]
   exact R.fr b u e
 exact R1.again (F:=F) s1 r nd hf
theorem bK.kill(R:bK K H₀ Hf₀ Hf S σ H Fs) (x:Nat):bK K H₀ Hf₀ Hf (S.set x none) σ H (Fs.set x []):=by
 refine⟨by simp[R.len],by simp[R.lenF],fun j a ej=>?_,fun j ej=>?_,cZ x R.nd V6 (fun p hp=>by cases hp),fun p hp=>R.fresh p (cF hp),R.sub,R.fr,R.lim,R.sf⟩
 .rw [V8]at ej
  by_cases hij:x=j
  .subst hij;rw[if_pos rfl]at ej;split at ej <;> cases ej
  .rw [if_neg hij]at ej;obtain⟨w,G,f1,f2,q⟩:=R.rep j a ej;exact⟨w,G,f1,by rw[VA hij];exact f2,q⟩
 .rw [V8]at ej
  by_cases hij:x=j
  .subst hij;rw[if_pos rfl]at ej;split at ej
   .rename_i hi;rw[VS (R.lenF.symm ▸ hi)]
   .cases ej
  .rw [if_neg hij]at ej;rw[VA hij];exact R.emp j ej
theorem bK.any(R:bK K H₀ Hf₀ Hf (S.set x none) σ H Fs) (v:V):bK K H₀ Hf₀ Hf (S.set x none) (σ.set x (some v)) H Fs where
 len:=by rw[R.len,lZq]
 lenF:=R.lenF
 rep:=fun i av e=>by
  by_cases hij:x=i
  .subst hij;rw[V8]at e;rw[if_pos rfl]at e;split at e <;> cases e
  .obtain ⟨w,G,f1,f2,q⟩:=R.rep i av e;exact⟨w,G,by rw[VA hij];exact f1,f2,q⟩
 emp:=R.emp
 nd:=R.nd
 fresh:=R.fresh
 sub:=R.sub
 fr:=R.fr
 lim:=R.lim
 sf:=R.sf
end
def mN(d:D):List AV->Option (List AV)
 | []=>some []
 | .ow as::r=>iD (as.length<dg) ((mN d r).map (.ow (as++[.sh d]) :: ·))
 |_=>none
def OZ(i x:Nat) (d:D):MS:=fun S=>if i=x∨S.length<=x then none else if d.scal=true then (cJ S i).bind fun avs=>(mN d avs).map fun bs=>.nx ((S.set i (some (.ow bs))).set x none) else none
section
variable {K:W.Frag}
theorem vD{d:D}:∀{avs bs:List AV}{j:Nat}{a:AV},mN d avs=some bs->avs[j]?=some a->∃as,a = .ow as/\as.length<dg/\bs[j]?=some (.ow (as++[.sh d]))
 | [],bs,j,a,_,h=>by simp at h
 |b::r,bs,j,a,e,h=>by
  cases b with
  |ow as =>
   simp only[mN]at e;rcases bC e with ⟨hl,e⟩|e
   .obtain ⟨cs,e1,e2⟩:=oMq.mp e;subst e2;cases j with
    |zero =>
     simp at h;subst h;exact⟨as,rfl,hl,rfl⟩
    |succ j=>exact vD (j:=j) e1 (by simpa using h)
   .cases e
  |_=>cases e
end
noncomputable abbrev aI(ns:List Int):AV:=.ow (ns.map fun n=>.sh (.int n))
noncomputable def sq:List AV->Option (List Int)
 | []=>some []
 | .sh (.int i)::r=>(sq r).map (i :: ·)
 |_=>none
def vh:List AV->Option (List (List Int))
 | []=>some []
 | .ow as::r=>(sq as).bind fun ns=>(vh r).map (ns :: ·)
 |_=>none
theorem AF:∀{as:List AV}{ns:List Int},sq as=some ns->as=ns.map fun n=>.sh (.int n)
 | [],ns,h=>by cases h;rfl
 |a::as,ns,h=>by
  cases a with
  |sh d =>
   cases d with
   |int i =>
    obtain⟨ms,h1,h2⟩:=oMq.mp (show (sq as).map (i :: ·)=some ns from h)
    subst h2;rw[AF h1];rfl
   |_=>cases h
  |_=>cases h
theorem AB:∀{as:List AV}{rs:List (List Int)},vh as=some rs->as=rs.map aI
 | [],rs,h=>by cases h;rfl
 |a::as,rs,h=>by
  cases a with
  |ow es =>
   obtain⟨r,h1,h⟩:=oBq.mp (show (sq es).bind (fun ns=>(vh as).map (ns :: ·))=some rs from h)
   obtain⟨ts,h2,h3⟩:=oMq.mp h;subst h3;rw[AB h2,AF h1];rfl
  |_=>cases h
@[simp] theorem DK (ns:List Int):sq (ns.map fun n=>.sh (.int n))=some ns:=by
 induction ns with
 |nil=>rfl
 |cons n ns ih=>show (sq (ns.map fun n=>.sh (.int n))).map (n :: ·)=_;rw[ih];rfl
@[simp] theorem DY (rs:List (List Int)):vh (rs.map aI)=some rs:=by
 induction rs with
 |nil=>rfl
 |cons r rs ih=>show (sq (r.map fun n=>.sh (.int n))).bind (fun ns=>(vh (rs.map aI)).map (ns :: ·))=_;rw[DK,ih];rfl
def tE(k:MK):MK:=fun S=>(k S).bind fun x=>match x.1 with
 | .ow avs=>(vh avs).map fun rs=>(.ow ((mw rs).map aI),x.2)
 |_=>none
section
variable {K:W.Frag}{Hf H:Hp}
theorem Bn{ns:List Int}{v:V}{F:List Addr}(h:bH K Hf H (aI ns) v F):∃p,v = .ref p/\F=[p]/\H p=some (.lst (ns.map V.int))/\Hf p=none:=by
 obtain⟨p,vs,Gs,rfl,rfl,h1,h2,h3⟩:=h.ow_inv;have e:∀{ns:List Int}{vs:List V}{Gs:List (List Addr)},bu K Hf H (ns.map fun n=>AV.sh (.int n)) vs Gs->vs=ns.map V.int/\Gs.flatten=[]:=by
  intro ns
  induction ns with
  |nil =>
   intro vs Gs h;obtain⟨a,b⟩:=h.nil_inv;exact⟨a,by rw[b];rfl⟩
  |cons n ns ih =>
   intro vs Gs h;obtain⟨v,ws,F,Gs',rfl,rfl,r1,r2⟩:=bu.cons_inv (a:=.sh (.int n)) h;obtain⟨f1,f2⟩:=r1.sh_inv;subst f1;cases f2;obtain⟨g1,g2⟩:=ih r2;rw[g1];exact⟨rfl,by rw[fCq,g2];rfl⟩
 obtain⟨e1,e2⟩:=e h3;rw[e2];subst e1;exact⟨p,rfl,rfl,h1,h2⟩
theorem Oh{ns:List Int}{p:Addr}(h1:H p=some (.lst (ns.map V.int))) (h2:Hf p=none):bH K Hf H (aI ns) (.ref p) [p]:=by
 have:=bH.new (K:=K) (Hf:=Hf) (H:=H) (ds:=ns.map D.int) h1 h2 (je ns);rw[←rQ]at this;exact this
theorem nj:∀{rs:List (List Int)}{vs:List V}{Gs:List (List Addr)},bu K Hf H (rs.map aI) vs Gs->∃ps,vs=ps.map V.ref/\Gs=ps.map (fun p=>[p])/\dq H ps rs/\∀p∈ps,Hf p=none
 | [],vs,Gs,h=>by
  obtain⟨a,b⟩:=h.nil_inv;exact⟨[],a,b,.nil,fun p hp=>by cases hp⟩
 |r::rs,vs,Gs,h=>by
  obtain⟨v,ws,F,Gs',rfl,rfl,r1,r2⟩:=bu.cons_inv (a:=aI r) (as:=rs.map aI) h;obtain⟨p,rfl,rfl,h1,h2⟩:=Bn r1;obtain⟨ps,rfl,rfl,h3,h4⟩:=nj r2;exact⟨p::ps,rfl,rfl,dq.cons_iff.mpr ⟨h1,h3⟩,fun q hq=>(VB.mp hq).elim (fun e=>e ▸ h2) (h4 q)⟩
theorem tY:∀{rs:List (List Int)}{ps:List Addr},dq H ps rs->(∀p∈ps,Hf p=none)->bu K Hf H (rs.map aI) (ps.map V.ref) (ps.map fun p=>[p])
 | [],[],_,_=>.nil
 | [],_::_,h,_=>by have:=h.length;simp at this
 |_::_,[],h,_=>by have:=h.length;simp at this
 |r::rs,p::ps,h,n=>by
  obtain⟨h1,h2⟩:=dq.cons_iff.mp h;exact .cons (Oh h1 (n p (by simp))) (tY h2 fun q hq=>n q (mCo _ hq))
theorem AC(ps:List Addr):(ps.map fun p=>[p]).flatten=ps:=by
 induction ps with
 |nil=>rfl
 |cons p ps ih=>rw[VG,fCq,ih];rfl
theorem wK{te:TE}{k:MK}(hk:SK K te k):SK K (OB (fun xs H Q=>∃(a:Addr) (ps:List Addr) (rs:List (List Int)),xs=[.ref a]/\dJ K H a (ps.map V.ref)/\dq H ps rs /\
  ∀p qs,H p=none->qs.Perm ps->dq (bW H p (.lst (qs.map V.ref))) qs (mw rs)->Q (.ref p) (bW H p (.lst (qs.map V.ref)))) (eY te jb)) (tE k):=by
 intro H₀ Hf₀ Hf S σ H Fs av S' R e Q q;obtain⟨x,e1,e⟩:=oBq.mp e;refine hk R (a:=x.1) (S':=x.2) e1 _ fun Hf1 H1 Fs1 v F t1 R1 r1 o1=>?_
 split at e
 .rename_i avs hx;obtain⟨rs,e2,e⟩:=oMq.mp e;cases e;rw[hx,AB e2]at r1;obtain⟨p0,vs,Gs,rfl,rfl,h1,h2,h3⟩:=r1.ow_inv;obtain⟨ps,rfl,rfl,hE,hn⟩:=nj h3;rw[AC]at o1;refine⟨p0,ps,rs,rfl,dJ.of h1,hE,fun p qs hp hq hE2=>?_⟩
  obtain⟨t4,R4,n1,n2,n3⟩:=R1.new (o:=.lst (qs.map V.ref)) hp;have pq:p∉qs:=fun m=>hE.free (H:=H1) hp (hq.mem_iff.mp m)
  have hm:∀z∈qs,z∈p0::ps:=fun z hz=>mCo _ (hq.mem_iff.mp hz)
  refine q _ _ _ (.ref p) (p::(qs.map fun p=>[p]).flatten) (t1.trans t4) R4 (bH.news aL n1 (tY hE2 fun z hz=>hn z (hq.mem_iff.mp hz))) ?_
  rw[AC];refine⟨Vx.mpr ⟨pq,hq.nodup_iff.mpr (Vx.mp o1.nd).2⟩,fun z hz=>?_,fun z hz=>?_,fun z hz=>?_⟩
  .rcases VB.mp hz with y|y
   .rw [y];exact n2
   .exact o1.fr z (hm z y)
  .rcases VB.mp hz with y|y
   .rw [y];exact n3
   .exact o1.out z (hm z y)
  .rcases VB.mp hz with y|y
   .rw [y];exact .inl (t1.sh.free hp)
   .exact o1.new z (hm z y)
 .cases e
def Jp:AV->Option D
 | .sh d=>if d.scal=true then some d else none
 |_=>none
def cK(f:MF) (a:ML):ME:=fun S=>(a S).bind fun x=>(f x.1).bind fun r=>(Jp r).map fun d=>(d,x.2)
theorem dG{f:MF}{ta:TA}{a:ML}(ha:JO K ta a):SR K (jR (bR K f) [] E0 ta) (cK f a):=by
 intro H₀ Hf₀ Hf S σ H Fs d S' R e Q q;obtain⟨x,e1,e⟩:=oBq.mp e;obtain⟨r,e2,e⟩:=oBq.mp e;obtain⟨z,e3,e⟩:=oMq.mp e;cases e;refine ha R (ds:=x.1) (S':=x.2) e1 _ fun Hf1 H1 Fs1 vs t1 R1 r1=>?_
 rw[aNq];refine⟨H1,x.1,r,.refl _,r1,e2,fun Hf' H' v F s1 s2 s3 l rv nd fr=>?_⟩
 have t2:nW Hf1 H1 Fs1 Hf1 H' Fs1:=⟨.refl _,s2,fun _ h=>h,fun b h g=>absurd h g⟩
 cases r with
 |sh d' =>
  simp only[Jp]at e3;split at e3
  .rename_i hs;cases e3;exact q _ _ _ v (t1.trans t2) (R1.laid s2) (rv.sh_inv.2.scal hs)
  .cases e3
 |_=>cases e3
end
section
variable (S:AS)
@[simp] theorem QU (i:Nat):aq i S=(S[i]?.join).map fun a=>(aE a,S):=rfl
@[simp] theorem R7 (i:Nat):aH i S=(S[i]?.join).map fun a=>(.sh (aE a),S.set i (some (.sh (aE a)))):=rfl
@[simp] theorem QL (i:Nat):pP i S=(S[i]?.join).map fun a=>(a,S.set i none):=rfl
@[simp] theorem Tq (k:MK):rOf k S=(k S).map fun x=>(aE x.1,x.2):=rfl
@[simp] theorem SV (m:ME):kSc m S=(m S).bind fun x=>if x.1.scal then some (.sh x.1,x.2) else none:=rfl
@[simp] theorem RH (k:MK):iI k S=(k S).map fun x=>(.sh (aE x.1),x.2):=rfl
@[simp] theorem UT (d:D):rC d S=if d.scal then some (d,S) else none:=rfl
@[simp] theorem TX (f:D->D->Option D) (a b:ME):bV f a b S=(a S).bind fun x=>(b x.2).bind fun y=>(f x.1 y.1).map fun d=>(d,y.2):=rfl
@[simp] theorem TU (f:D->Option D) (a:ME):kr f a S=(a S).bind fun x=>(f x.1).map fun d=>(d,x.2):=rfl
@[simp] theorem Qx (a:ME):Np a S=(a S).bind fun x=>(DV x.1).map fun d=>(d,x.2):=rfl
@[simp] theorem OO (a b:MT):wx a b S=(a S).bind fun x=>if x.1=true then b x.2 else some (false,x.2):=rfl
@[simp] theorem RX (a b:MT):vO a b S=(a S).bind fun x=>if x.1=true then some (true,x.2) else b x.2:=rfl
@[simp] theorem Po (a:MT):eh a S=(a S).map fun x=>(!x.1,x.2):=rfl
def Pb:D->Option Bool
 | .bl b=>some b
 |_=>none
@[simp] theorem TM (a:ME):dC a S=(a S).bind fun x=>(Pb x.1).map fun b=>(b,x.2):=by
 show (a S).bind _=_;congr 1;funext x;obtain⟨d,S'⟩:=x;cases d <;> rfl
@[simp] theorem Rq (a b:ME):AJ a b S=(a S).bind fun x=>(Pb x.1).bind fun c=>if c=true then b x.2 else some (.bl false,x.2):=by
 show (a S).bind _=_;congr 1;funext x;obtain⟨d,S'⟩:=x;cases d <;> try rfl
 rename_i c;cases c <;> rfl
@[simp] theorem Km (b:Bool):Pb (.bl b)=some b:=rfl
@[simp] theorem RP:aK S=some ([],S):=rfl
@[simp] theorem Pr (k:MK) (r:MA):au k r S=(k S).bind fun x=>(r x.2).map fun y=>(x.1::y.1,y.2):=rfl
@[simp] theorem NV:aG S=some ([],S):=rfl
@[simp] theorem Kv (k:ME) (r:ML):ai k r S=(k S).bind fun x=>(r x.2).map fun y=>(x.1::y.1,y.2):=rfl
@[simp] theorem Qg (a:MA):cW a S=(a S).bind fun x=>iD (x.1.length<=dg) (some (.ow x.1,x.2)):=rfl
@[simp] theorem Q1 (a:MA):qr a S=(a S).bind fun x=>iD (x.1.length<=dg) (some (.sh (.tup (x.1.map aE)),x.2)):=rfl
@[simp] theorem Qs (a b:ML):oH a b S=(a S).bind fun x=>(b x.2).bind fun y=>iD (x.1.length+y.1.length<=dg) (some (.ow ((x.1++y.1).map .sh),y.2)):=rfl
@[simp] theorem Ph:mn S=some (none,S):=rfl
@[simp] theorem OE (m:ME):iR m S=(m S).bind fun x=>(intOf x.1).map fun i=>(some i,x.2):=by
 show (m S).bind _=_;congr 1;funext x;obtain⟨d,S'⟩:=x;cases d <;> rfl
@[simp] theorem Ec (i:Int):intOf (.int i)=some i:=rfl
@[simp] theorem T2 (l:ML) (lo hi:MO):CC l lo hi S=(l S).bind fun x=>(lo x.2).bind fun y=>(hi y.2).map fun z=>(.ow ((iU x.1 y.1 z.1).map .sh),z.2):=rfl
@[simp] theorem S6 (l:ML) (b:ME):Rj l b S=(l S).bind fun x=>(b x.2).bind fun y=>(intOf y.1).bind fun i=>(atI x.1 i).map fun d=>(.sh d,y.2):=by
 show (l S).bind _=_;congr 1;funext x;show (b x.2).bind _=_;congr 1;funext y;obtain⟨d,S'⟩:=y;cases d <;> rfl
@[simp] theorem Tc (f:List D->Option D) (a:ML):kF f a S=(a S).bind fun x=>(f x.1).map fun d=>(d,x.2):=rfl
@[simp] theorem Nv (f:MF) (a:MA):bj f a S=(a S).bind fun x=>(f (x.1.map aE)).map fun r=>(r,x.2):=rfl
@[simp] theorem Oa (f:MF) (a:ML):cK f a S=(a S).bind fun x=>(f x.1).bind fun r=>(Jp r).map fun d=>(d,x.2):=rfl
@[simp] theorem Px:bG S=some (.nx S):=rfl
def IE(o:Option wo) (b:MS):Option wo:=o.bind fun o=>match o with
 | .nx S'=>b S'
 |o=>some o
@[simp] theorem HG (b:MS):IE (some (.nx S)) b=b S:=rfl
@[simp] theorem Jl (a:AV) (b:MS):IE (some (.rt a)) b=some (.rt a):=rfl
@[simp] theorem RZ (a b:MS):aJ a b S=IE (a S) b:=rfl
@[simp] theorem Q9 (i:Nat) (k:MK):aZ i k S=(k S).map fun x=>.nx (x.2.set i (some x.1)):=rfl
@[simp] theorem QA (k:MK):cB k S=(k S).map fun x=>.rt x.1:=rfl
@[simp] theorem TB (c:MT) (a b:MS):jl c a b S=(c S).bind fun x=>if x.1=true then a x.2 else b x.2:=rfl
@[simp] theorem Q5 (i:Nat) (k:MK):mB i k S=(cJ S i).bind fun _=>(k S).bind fun x=>(cJ x.2 i).bind fun avs=>iD (avs.length<dg) (some (.nx (x.2.set i (some (.ow (avs++[x.1])))))):=rfl
@[simp] theorem RV (i:Nat) (l:ML):EA i l S=(cJ S i).bind fun _=>(l S).bind fun x=>(cJ x.2 i).bind fun avs=>iD (avs.length+x.1.length<=dg) (some (.nx (x.2.set i (some (.ow (avs++x.1.map .sh)))))):=rfl
@[simp] theorem O1 (i:Nat) (b:ME) (k:MK):oj i b k S=(iI k S).bind fun x=>(jV x.2 i).bind fun _=>(b x.2).bind fun y=>(jV y.2 i).bind fun az=>(jt y.1).bind fun key =>
 iD (az.length<dg) (some (.nx (y.2.set i (some (.owd (ue az key (aE x.1))))))):=rfl
noncomputable def dictOf:D->Option (List (bI×D))
 | .dict az=>some az
 |_=>none
@[simp] theorem Ai (az:List (bI×D)):dictOf (.dict az)=some az:=rfl
@[simp] theorem Fi (i:Int):jt (.int i)=some (.inl i):=rfl
@[simp] theorem Hk (a b:ME):nO a b S=(a S).bind fun x=>(b x.2).bind fun y=>(dictOf y.1).bind fun az=>(jt x.1).map fun key=>(.bl (!(getD az key).isSome),y.2):=by
 show (a S).bind _=_;congr 1;funext x;show (b x.2).bind _=_;congr 1;funext y;obtain⟨d,S'⟩:=y;cases d <;> rfl
@[simp] theorem O8 (a b:ME):Aa a b S=(a S).bind fun x=>(b x.2).bind fun y=>(dictOf x.1).bind fun az=>(jt y.1).bind fun key=>(getD az key).map fun d=>(d,y.2):=by
 show (a S).bind _=_;congr 1;funext x;show (b x.2).bind _=_;congr 1;funext y;obtain⟨d,S'⟩:=x;cases d <;> rfl
@[simp] theorem N4:qt S=some (.owd [],S):=rfl
@[simp] theorem RT (x:Nat) (k:MK) (body:MS):sL x k body S=(iI k S).bind fun y=>(eP (aE y.1)).bind fun ds=>fv x body ds y.2:=rfl
@[simp] theorem La (x:Nat) (a:ML) (body:MS):xv x a body S=(a S).bind fun y=>(xB y.1).bind fun ds=>fv x body ds y.2:=rfl
@[simp] theorem Pi (x y:Nat) (k l:MK) (body:MS):JE x y k l body S=(iI k S).bind fun z=>(iI l z.2).bind fun w=>(eP (aE z.1)).bind fun ds=>(eP (aE w.1)).bind fun es =>
 if ds.length=es.length then oN x y body ds es w.2 else none:=rfl
@[simp] theorem Pe (src:MI) (fr:List Nat) (tf:MT) (te:MK):eX src fr tf te S=(src S).bind fun y=>(fzAll fr y.2).bind fun S2=>(vT S2 fr).bind fun cap=>iD (y.1.length<=dg) ((dh tf te cap y.1).map fun avs=>(.ow avs,S2)):=rfl
@[simp] theorem QT (k:MK):lu k S=(iI k S).bind fun y=>(eP (aE y.1)).map fun ds=>(ds,y.2):=rfl
@[simp] theorem TL (a:ML):RD a S=(a S).bind fun y=>(xB y.1).map fun ds=>(ds,y.2):=rfl
@[simp] theorem Fy:fzAll [] S=some S:=rfl
@[simp] theorem A9 (j:Nat) (js:List Nat):fzAll (j::js) S=(S[j]?.join).bind fun a=>fzAll js (S.set j (some (.sh (aE a)))):=rfl
@[simp] theorem ID:vT S []=some []:=rfl
@[simp] theorem Ep (j:Nat) (js:List Nat):vT S (j::js)=(Oi S[j]?.join).bind fun a=>(vT S js).map (some a :: ·):=rfl
@[simp] theorem Oq (l:ML):uX l S=(l S).map fun x=>(.ow (x.1.map .sh),x.2):=rfl
@[simp] theorem LW (l:ML):Bw l S=(l S).bind fun x=>(eB x.1).map fun ns=>(.ow ((nQ ns).map fun n=>.sh (.int n)),x.2):=rfl
def Py:AV->Option (List AV)
 | .ow avs=>some avs
 |_=>none
@[simp] theorem KM (avs:List AV):Py (.ow avs)=some avs:=rfl
@[simp] theorem Ip (k:MK):tE k S=(k S).bind fun x=>(Py x.1).bind fun avs=>(vh avs).map fun rs=>(.ow ((mw rs).map aI),x.2):=by
 show (k S).bind _=_;congr 1;funext x;obtain⟨d,S'⟩:=x;cases d <;> rfl
@[simp] theorem TV (T:String) (f:D->List D->Option D) (a:ME) (as:ML):P6 T f a as S=(a S).bind fun x=>if Q6 T x.1=true then (as x.2).bind fun y=>(f x.1 y.1).map fun d=>(d,y.2) else none:=rfl
def MD:D->Option (List D)
 | .list ds=>some ds
 |_=>none
@[simp] theorem A3 (ds:List D):MD (.list ds)=some ds:=rfl
@[simp] theorem Nh (a:ME):Gc a S=(a S).bind fun x=>(MD x.1).bind fun ds=>(mK ds).map fun rs=>(.int (rs.countP (·=([]:List Int)):Nat),x.2):=by
 show (a S).bind _=_;congr 1;funext x;obtain⟨d,S'⟩:=x;cases d <;> rfl
@[simp] theorem Qw (a:ME):xp a S=(a S).bind fun x=>(yD x.1).map fun b=>(b,x.2):=rfl
noncomputable def QO:AV->Option (List D)
 | .sh (.list ds)=>some ds
 | .ow avs=>some (avs.map aE)
 |_=>none
@[simp] theorem NU (ds:List D):QO (.sh (.list ds))=some ds:=rfl
@[simp] theorem N7 (avs:List AV):QO (.ow avs)=some (avs.map aE):=rfl
@[simp] theorem Tf (k:MK):lOf k S=(k S).bind fun x=>(QO x.1).map fun ds=>(ds,x.2):=by
 show (k S).bind _=_;congr 1;funext x;obtain⟨a,S'⟩:=x;cases a with
 |sh d=>cases d <;> rfl
 |_=>rfl
end
@[simp] theorem GR (ds:List D):(ds.map AV.sh).map aE=ds:=by
 rw[mPq];have:aE∘AV.sh=id:=by funext d;simp
 rw[this,Zv]
def Su:AV->AV
 | .ow avs=>.ow ((avs.map aE).map .sh)
 |a=>a
@[simp] theorem Ow (d:D):Su (.sh d) = .sh d:=rfl
@[simp] theorem O5 (avs:List AV):Su (.ow avs) = .ow ((avs.map aE).map .sh):=rfl
theorem uE{S:AS}{i:Nat}{a:AV}(h:S[i]?=some (some a)):S.set i (some a)=S:=by
 obtain⟨hk,ev⟩:=gSq.mp h;rw[←ev];exact Xw hk
@[simp] theorem Ra (S:AS) (i:Nat):kE i S=(S[i]?.join).bind fun a=>(QO a).map fun ds=>(ds,S.set i (some (Su a))):=by
 unfold kE;cases e:S[i]?.join with
 |none=>rfl
 |some a =>
  cases a with
  |sh d =>
   cases d with
   |list ds =>
    show some (ds,S)=some (ds,S.set i (some (.sh (.list ds))));rw[uE (bP e)]
   |_=>rfl
  |ow avs=>rfl
  |owd az=>rfl
def Sh:AV->Option (List D)
 | .sh (.scr ns)=>some (ns.map .int)
 |a=>QO a
@[simp] theorem L0 (ns:List Int):Sh (.sh (.scr ns))=some (ns.map .int):=rfl
@[simp] theorem OY (ds:List D):Sh (.sh (.list ds))=some ds:=rfl
@[simp] theorem OT (avs:List AV):Sh (.ow avs)=some (avs.map aE):=rfl
@[simp] theorem Rh (S:AS) (i:Nat):jO i S=(S[i]?.join).bind fun a=>(Sh a).map fun ds=>(ds,S.set i (some (Su a))):=by
 unfold jO;cases e:S[i]?.join with
 |none=>rfl
 |some a =>
  cases a with
  |sh d =>
   cases d with
   |list ds =>
    show some (ds,S)=some (ds,S.set i (some (.sh (.list ds))));rw[uE (bP e)]
   |scr ns =>
    show some (ns.map D.int,S)=some (ns.map D.int,S.set i (some (.sh (.scr ns))));rw[uE (bP e)]
   |_=>rfl
  |ow avs=>rfl
  |owd az=>rfl
@[simp] theorem IP (i:Int):(D.int i).scal=true:=rfl
@[simp] theorem J0 (i:Bool):(D.bl i).scal=true:=rfl
@[simp] theorem Gb (i:Str):(D.str i).scal=true:=rfl
@[simp] theorem Jd:D.non.scal=true:=rfl
@[simp] theorem KA (i:String):(D.ty i).scal=true:=rfl
@[simp] theorem Hq (i:Int):Jp (.sh (.int i))=some (.int i):=rfl
@[simp] theorem KL (i:Bool):Jp (.sh (.bl i))=some (.bl i):=rfl
@[simp] theorem LC (i j:Int):yV (.int i) (.int j)=some (.bl (decide (i=j))):=rfl
@[simp] theorem Ma (i j:Str):yV (.str i) (.str j)=some (.bl (decide (i=j))):=rfl
@[simp] theorem Kh (b:Bool):DV (.bl b)=some (.bl (!b)):=rfl
@[simp] theorem Ko (i j:Int):KB (.int i) (.int j)=some (.bl (!decide (i=j))):=rfl
@[simp] theorem Ew (ds:List D):iz [.list ds]=some (.int ds.length):=rfl
@[simp] theorem JG (ns:List Int):iz [.scr ns]=some (.int ns.length):=rfl
@[simp] theorem Je (ds:List D):iz [.tup ds]=some (.int ds.length):=rfl
@[simp] theorem xG (ds:List D):eP (.list ds)=some ds:=rfl
@[simp] theorem Ha (ds:List D) (i:Int):sD (.list ds) (.int i)=atI ds i:=rfl
@[simp] theorem KS (ns:List Int) (i:Int):sD (.scr ns) (.int i)=(atI ns i).map .int:=rfl
@[simp] theorem LZ (d:D):Oi (some (.sh d))=some (.sh d):=rfl
@[simp] theorem Gy (ds:List D):Q6 "list" (.list ds)=true:=rfl
theorem JZ(S:AS) (i:Nat):cJ S i=(S[i]?.join).bind Py:=by
 unfold cJ;cases S[i]?.join with
 |none=>rfl
 |some a=>cases a <;> rfl
noncomputable def Iy:AV->Option (List (bI×D))
 | .owd az=>some az
 |_=>none
@[simp] theorem EY (az:List (bI×D)):Iy (.owd az)=some az:=rfl
theorem HJ(S:AS) (i:Nat):jV S i=(S[i]?.join).bind Iy:=by
 unfold jV;cases S[i]?.join with
 |none=>rfl
 |some a=>cases a <;> rfl
theorem zB{x:Nat}{body:MS}(P:Nat->AS->Prop):∀{ds:List D}{S:AS}{k:Nat},P k S->(∀i d S,ds[i]?=some d->P (k+i) S->∃S',(body (S.set x (some (.sh d)))=some (.nx S')∨body (S.set x (some (.sh d)))=some (.ct S'))/\P (k+i+1) S')->∃S',fv x body ds S=some (.nx S')/\P (k+ds.length) S'
 | [],S,k,h0,_=>⟨S,rfl,h0⟩
 |d::ds,S,k,h0,hs=>by
  obtain⟨S',e,h1⟩:=hs 0 d S rfl h0;have hs':∀i d S,ds[i]?=some d->P (k+1+i) S->∃S',(body (S.set x (some (.sh d)))=some (.nx S')∨body (S.set x (some (.sh d)))=some (.ct S'))/\P (k+1+i+1) S':=fun i d S h p=>by
   have:=hs (i+1) d S (by simpa using h) (by rw[show k+(i+1)=k+1+i by lia];exact p)
   rw[show k+(i+1)=k+1+i by lia]at this
   exact this
  obtain⟨S2,e2,h2⟩:=zB P (k:=k+1) h1 hs';refine⟨S2,?_,by rw[lCq,show k+(ds.length+1)=k+1+ds.length by lia];exact h2⟩
  show (body _).bind _=_;rcases e with e|e <;> (rw[e];exact e2)
theorem rS{x:Nat}{body:MS}(P:Nat->AS->Prop) {ds:List D}{S:AS}(h0:P 0 S) (hs:∀i d S,ds[i]?=some d->P i S->∃S',body (S.set x (some (.sh d)))=some (.nx S')/\P (i+1) S'):∃S',fv x body ds S=some (.nx S')/\P ds.length S':=by
 have:=zB (x:=x) (body:=body) P (ds:=ds) (k:=0) h0 fun i d S h p=>by
  rw[WT]at p ⊢;obtain⟨S',e,q⟩:=hs i d S h p;exact⟨S',.inl e,q⟩
 rw[WT]at this;exact this
theorem M3{x y:Nat}{body:MS}(P:Nat->AS->Prop):∀{ds es:List D}{S:AS}{k:Nat},ds.length=es.length->P k S->(∀i d e S,ds[i]?=some d->es[i]?=some e->P (k+i) S->∃S',body ((S.set x (some (.sh d))).set y (some (.sh e)))=some (.nx S')/\P (k+i+1) S')->∃S',oN x y body ds es S=some (.nx S')/\P (k+ds.length) S'
 | [],[],S,k,_,h0,_=>⟨S,rfl,h0⟩
 | [],_::_,S,k,hl,_,_=>by simp at hl
 |_::_,[],S,k,hl,_,_=>by simp at hl
 |d::ds,b::es,S,k,hl,h0,hs=>by
  obtain⟨S',e,h1⟩:=hs 0 d b S rfl rfl h0;have hs':∀i d e S,ds[i]?=some d->es[i]?=some e->P (k+1+i) S->∃S',body ((S.set x (some (.sh d))).set y (some (.sh e)))=some (.nx S')/\P (k+1+i+1) S':=fun i d e S h h' p=>by
   have:=hs (i+1) d e S (by simpa using h) (by simpa using h') (by rw[show k+(i+1)=k+1+i by lia];exact p)
   rw[show k+(i+1)=k+1+i by lia]at this
   exact this
  obtain⟨S2,e2,h2⟩:=M3 P (k:=k+1) (by simpa using hl) h1 hs'
  refine⟨S2,?_,by rw[lCq,show k+(ds.length+1)=k+1+ds.length by lia];exact h2⟩
  show (body _).bind _=_;rw[e];exact e2
theorem jy{te:MK}{cap:AS}(g:D->AV):∀{ds:List D},(∀d∈ds,∃S',te (some (.sh d)::cap)=some (g d,S'))->dh gf te cap ds=some (ds.map g)
 | [],_=>rfl
 |d::ds,h=>by
  obtain⟨S',e⟩:=h d (by simp)
  show (te (some (.sh d)::cap)).bind (fun a=>(dh gf te cap ds).map (a.1 :: ·))=_
  rw[e,jy g fun x hx=>h x (mCo _ hx)]
  rfl
theorem fe{tf:MT}{te:MK}{cap:AS}(p:D->Bool) (g:D->AV):∀{ds:List D},(∀d∈ds,∃S1,tf (some (.sh d)::cap)=some (p d,S1)/\(p d=true->∃S',te S1=some (g d,S')))->dh tf te cap ds=some ((ds.filter p).map g)
 | [],_=>rfl
 |d::ds,h=>by
  obtain⟨S1,e1,e2⟩:=h d (by simp)
  have ih:=fe (tf:=tf) (te:=te) (cap:=cap) p g fun x hx=>h x (mCo _ hx)
  show (tf (some (.sh d)::cap)).bind _=_;rw[e1];show (if p d=true then _ else _)=_
  by_cases c:p d=true
  .obtain ⟨S',e3⟩:=e2 c;rw[if_pos c,e3,Wj c];show (dh tf te cap ds).map _=_;rw[ih];rfl
  .rw [if_neg c,Wp c,ih]
theorem gq{α β:Type}(f:α->β) (xs:List α) (lo hi:Option Int):iU (xs.map f) lo hi=(iU xs lo hi).map f:=by
 unfold iU;rw[lMq,Y9,List.map_drop]
theorem rz{α:Type}(xs:List α) (i:Nat) (h:i<=xs.length):iU xs (some (i:Int)) none=xs.drop i:=by
 unfold iU;rw[HT.nB,HT.qm,Xp h,Wh (by rw[VI];exact Vu _)]
theorem sX{α:Type}(xs:List α) (i:Nat) (h:i<=xs.length):iU xs none (some (i:Int))=xs.take i:=by
 unfold iU;rw[HT.nB,HT.qm,Xp h,Xz,ZN]
theorem Gf{α:Type}(xs:List α) (i j:Nat):iU xs (some (i:Int)) (some (j:Int))=(xs.drop i).take (j-i):=by
 unfold iU;rw[HT.nB,HT.nB]
 by_cases h:i<=xs.length
 .rw [Xp h]
  by_cases h2:j<=xs.length
  .rw [Xp h2]
  .rw [X9 (by lia),Wh (by rw[VI];exact Vu _),Wh (by rw[VI];lia)]
 .have e:min i xs.length=xs.length:=X9 (by lia)
  rw[e,W0 (Vu xs.length),W0 (show xs.length<=i by lia)]
  simp
theorem xu{α:Type}{xs:List α}{i:Int}(h0:0<=i):atI xs i=xs[i.toNat]?:=by
 unfold atI yT;rw[if_pos h0]
 by_cases h:i<xs.length
 .rw [if_pos h];rfl
 .rw [if_neg h,Wv (by lia)]
  rfl
theorem Dp{n:Nat}{i:Nat}(h:i<n):yT n (i:Int)=some i:=by
 unfold yT;rw[if_pos (by lia),if_pos (by lia)]
 simp
theorem ql(ns:List Int):(ns.map D.int).map AV.sh=ns.map fun n=>AV.sh (.int n):=by rw[mPq];rfl
theorem CI(ns:List Int):(ns.map fun n=>AV.sh (.int n)).map aE=ns.map D.int:=by rw[mPq];exact mCq fun n _=>by simp
theorem C1(rs:List (List Int)):(rs.map dI).map AV.sh=rs.map fun r=>AV.sh (dI r):=by rw[mPq];rfl
theorem CM(rs:List (List Int)):(rs.map fun r=>AV.sh (dI r)).map aE=rs.map dI:=by rw[mPq];exact mCq fun n _=>by simp
theorem cH(ns:List Int):aE (aI ns)=dI ns:=by
 show aE (.ow (ns.map fun n=>AV.sh (.int n)))=_
 rw[hZ,CI]
theorem K5(i j:Int):lK (.int i) (.int j)=some (.int (i+j)):=kz _
theorem Mg(i j:Int):KH (.int i) (.int j)=some (.int (i-j)):=kz _
theorem P1(i j:Int):JN (.int i) (.int j)=some (.bl (decide (i<j))):=kz _
theorem Pl(i j:Int):A0 (.int i) (.int j)=some (.bl (decide (j<i))):=kz _
theorem Od(i:Int):gn (.int i)=some (.int (-i)):=rfl
theorem Uy:Ga (.int 10) (.int 58)=some (.int (10 ^ 58)):=iV ⟨by decide,by decide,by decide⟩ _
theorem Qv{i j:Int}(h1:-(2 ^ 64)<i) (h2:i<2 ^ 64):xO (.int i) (.int j)=some (.int (i*j)):=iV (.inl ⟨h1,h2⟩) _
theorem Rn{i j:Int}(h1:-(2 ^ 64)<j) (h2:j<2 ^ 64):xO (.int i) (.int j)=some (.int (i*j)):=iV (.inr ⟨h1,h2⟩) _
theorem nu{i j:Int}(h:0<j):il (.int i) (.int j)=some (.int (i % j)):=iV h _
theorem yp{i j:Int}(h:0<j) (h2:j<1073741824):AM (.int i) (.int j)=some (.int (i / j)):=iV ⟨h,h2⟩ _
theorem Re:(0:Nat)<=dg:=by decide
theorem RA:(1:Nat)<=dg:=by decide
theorem Rm:(2:Nat)<=dg:=by decide
theorem dA{n:Nat}(h:n<=16777216):n<=dg:=h
theorem GA{n:Nat}(h:n<16777216):n<dg:=h
theorem tO{n:Nat}(h:n<1000000):xB [.int (n:Int)]=some (cS 0 n):=by
 have e:xB [.int (n:Int)]=some (cS 0 (n:Int).toNat):=iV ⟨by lia,by lia⟩ _
 rw[e,Zh]
theorem rR(n:Nat):cS 0 n=(Wm n).map fun i:Nat=>D.int i:=by
 unfold cS;exact mCq fun i _=>by rw[Int.zero_add]
theorem QF(np n:Nat) (m:MS) (ds:List D):fE np n m ds=if ds.length=np then (m (ds.map (fun d=>some (.sh d))++VM (n-ds.length) none)).bind fun o=>match o with
  | .rt a=>some a
  | .nx _=>some (.sh .non)
  |_=>none
 else none:=rfl
def zq:=Vs @Z.kz (Vs @Z.Re (Vs @Z.RA (Vs @Z.Rm (Vs @Z.QU (Vs @Z.R7 (Vs @Z.QL (Vs @Z.Tq (Vs @Z.SV (Vs @Z.RH (Vs @Z.UT (Vs @Z.TX (Vs @Z.TU (Vs @Z.Qx (Vs @Z.OO (Vs @Z.RX (Vs @Z.Po (Vs @Z.TM (Vs @Z.Rq (Vs @Z.Km (Vs @Z.RP (Vs @Z.Pr (Vs @Z.NV (Vs @Z.Kv (Vs @Z.Qg (Vs @Z.Q1 (Vs @Z.Qs (Vs @Z.Ph (Vs @Z.OE (Vs @Z.Ec (Vs @Z.T2 (Vs @Z.S6 (Vs @Z.Tc (Vs @Z.Nv (Vs @Z.Oa (Vs @Z.Px (Vs @Z.HG (Vs @Z.Jl (Vs @Z.RZ (Vs @Z.Q9 (Vs @Z.QA (Vs @Z.TB (Vs @Z.Q5 (Vs @Z.RV (Vs @Z.O1 (Vs @Z.Ai (Vs @Z.Fi (Vs @Z.Hk (Vs @Z.O8 (Vs @Z.N4 (Vs @Z.RT (Vs @Z.La (Vs @Z.Pi (Vs @Z.Pe (Vs @Z.QT (Vs @Z.TL (Vs @Z.Fy (Vs @Z.A9 (Vs @Z.ID (Vs @Z.Ep (Vs @Z.Oq (Vs @Z.LW (Vs @Z.KM (Vs @Z.Ip (Vs @Z.TV (Vs @Z.A3 (Vs @Z.Nh (Vs @Z.Qw (Vs @Z.NU (Vs @Z.N7 (Vs @Z.Tf (Vs @Z.GR (Vs @Z.Ow (Vs @Z.O5 (Vs @Z.Ra (Vs @Z.L0 (Vs @Z.OY (Vs @Z.OT (Vs @Z.Rh (Vs @Z.IP (Vs @Z.J0 (Vs @Z.Gb (Vs @Z.Jd (Vs @Z.KA (Vs @Z.Hq (Vs @Z.KL (Vs @Z.K5 (Vs @Z.Mg (Vs @Z.P1 (Vs @Z.Pl (Vs @Z.Od (Vs @Z.Uy (Vs @Z.ql (Vs @Z.CI (Vs @Z.C1 (Vs @Z.CM (Vs @Z.LC (Vs @Z.Ma (Vs @Z.Kh (Vs @Z.Ko (Vs @Z.Ew (Vs @Z.JG (Vs @Z.Je (Vs @Z.xG (Vs @Z.Ha (Vs @Z.KS (Vs @Z.LZ (Vs @Z.Gy (Vs @Z.JZ (Vs @Z.HJ (Vs @Z.EY (Vs @Z.iw (Vs @Z.hZ (Vs @Z.qR (Vs @Z.QF (Vs @Z.eZ (Vs @Z.BM (Vs @Z.DY (Vs @List.getElem?_cons_zero.{0} (Vs @List.getElem?_cons_succ.{0} (Vs @List.set_cons_zero.{0} (Vs @List.set_cons_succ.{0} (Vs @Option.join_some.{0} (Vs @Option.map_some.{0, 0} (Vs @Option.bind_some.{0, 0} (Vs @Option.bind_none.{0, 0} (Vs @List.length_cons.{0} (Vs @List.length_nil.{0} (Vs @List.map_cons.{0, 0} (Vs @List.map_nil.{0, 0} (Vs @List.nil_append.{0} (Vs @List.cons_append.{0} (Vs @List.length_map.{0, 0} (Vs @Bool.not_true (Vs @Bool.not_false (Vs @Bool.false_eq_true (Vs @decide_true (Vs @decide_false (Vs @Nat.zero_add (Vs @List.replicate_zero.{0} @List.append_nil.{0})))))))))))))))))))))))))))))))))))))))))))))))))))))))))))))))))))))))))))))))))))))))))))))))))))))))))))))))))))))))))))))))))))))))))))
theorem Kr{K:W.Frag}{f:MF}(h:∀ns:List Int,ns.length<=63->f [.scr ns]=some (.sh (.bl true))):∀vs H Q E,Dc K vs H Q E->bR K f vs H Q E:=by
 rintro vs H Q E ⟨a,ns,rfl,hS,hl,q⟩;refine⟨H,[.scr ns],_,.refl _,.cons (.scr hS) .nil,h ns hl,fun Hf' H' v F _ _ _ _ r _ _=>?_⟩
 cases r.sh_inv.2;exact q H'
end Z
namespace Mr
open PySem PySem.Spec PyProof.Rows L2
section
variable {X:Cx}{tg:Expr}
def Bz{α:Type}(P:α->Prop):List α->Prop
 | []=>True
 |a::l=>P a/\Bz P l
theorem Bz.mem{α:Type}{P:α->Prop}:∀{l:List α},Bz P l->∀a∈l,P a
 | [],_,a,h=>by cases h
 |b::l,hp,a,h=>(VB.mp h).elim (fun e=>e ▸ hp.1) (Bz.mem hp.2 a)
theorem gd.of{scope:Scope}{cl:List (Str×Addr)}{x:Str}{N:List Str}{fr:List Nat}(h1:N.Nodup) (h2:N[0]?=some x) (h3:N.length=fr.length+1)
  (h4:Bz (fun p=>X.env.cells.lookup p.1=some p.2) cl) (h5:Bz (fun p=>(p.2 = .cell∨p.2 = .free)->∃c,cl.lookup p.1=some c) (relabel scope X.env).names)
  (h6:Bz (fun p=>X.N[p.1]?=some p.2/\X.env.scope.names.lookup p.2=some .cell/\(relabel scope X.env).names.lookup p.2=some .cell) (fr.zip (N.drop 1))):gd X scope cl x N fr where
 names:=h1
 own:=h2
 len:=h3
 sub:=fun y c e=>h4.mem (y,c) (PySem.mem_of_lookup e)
 has:=fun y e=>by
  rcases e with e|e
  .exact h5.mem _ (PySem.mem_of_lookup e) (.inl rfl)
  .exact h5.mem _ (PySem.mem_of_lookup e) (.inr rfl)
 get:=fun k j y e1 e2=>by
  have hm:(j,y)∈fr.zip (N.drop 1):=by
   refine mGq (i:=k) ?_;rw[W9];exact⟨e1,by rw[Xj,YF];exact e2⟩
  exact h6.mem _ hm
end
end Mr
namespace Z
open PySem L2 Mr
end Z
namespace Mr
open PySem PySem.W PySem.Spec PyProof.Rows L2
abbrev g2(K:W.Frag):TG:=J9 K 2 (um (gI 0) (um (gI 1) Lq))
end Mr
namespace Mr
open PySem L2
end Mr
namespace Xe
open PySem PySem.Spec PySem.W PyProof.Rows L2 Mr
section
variable {X:Cx}
def Rp(o:Obj) (d:Addr) (az:List (bI×V)):It :=
  ⟨fun i H=>H d=some (.frz o (.dK az))/\∃p,az[i]?=some p,
   fun i H x H'=>H'=H/\∃p,az[i]?=some p/\x=kV p.1,
   fun i H=>H d=some (.frz o (.dK az))/\az.length<=i⟩
theorem EO{P:Program}{w:World}{K:Frag}{tg:Expr}(o:Obj) (d it:Addr) (az:List (bI×V)) (vs:List (bI×Value)) (ep:Nat) (hne:d≠it)
  (ho:∀h:Heap,h.get? d=some o->h.DictAt (dF P w) d vs ep) (kv:KV az vs):Fu P w K tg (Rp o d az) [it] it (fun i h=>h.IsKeyIter it d i vs.length ep) where
 mem:=by simp
 obj:=fun i h st b hb=>by
  have e:b=it:=by simpa using hb
  subst e;obtain⟨o',e,c,dd⟩:=st;exact⟨o',e,fun v z=>by rw[dd]at z;cases z⟩
 keep:=fun i h h' st k=>by
  obtain⟨o',e,c,dd⟩:=st;exact⟨o',k it (by simp) _ e,c,dd⟩
 item:=by
  intro X hP hw hK hc i ae s σ H E I hf st hg;subst hP hw hK;obtain⟨hd,p,hp⟩:=hg;have e1:s.heap.get? d=some o:=(show cx X.prog X.w H s.heap d (.frz o (.dK az)) from I.hok d _ hd).1
  obtain⟨u,hx,ru⟩:=OP kv hp;obtain⟨f0,f1,f2,f3,f4,f5⟩:=hf it (by simp)
  refine wpAny_pyNext_dict_item st (ho _ e1) hx fun key h' hkey st' sb=>?_
  have I1:L2.Inv X ae σ H { s with heap:=h' }:=I.turned (t':=s.toks) (fun b o hb e=>(sb.2 b hb).trans e) f0 f1 f3 f4 f5
  have rk:bO (kV p.1) key:=by
   rcases cU hkey with ⟨j,t,e,rfl⟩|⟨z,t,e,rfl⟩
   .rw [e];exact⟨t,rfl⟩
   .rw [e];exact⟨t,rfl⟩
  obtain⟨o',e,c,dd⟩:=id st';exact⟨key,rfl,GM (s:={ s with heap:=h' }) e c dd (by decide) ⟨_,H,I1,rk,⟨rfl,p,hp,rfl⟩,st',fun b hb=>(hf b hb).1⟩⟩
 done:=by
  intro X hP hw hK hc i ae s σ H E I hf st hg;subst hP hw hK;obtain⟨hd,hl⟩:=hg;have e1:s.heap.get? d=some o:=(show cx X.prog X.w H s.heap d (.frz o (.dK az)) from I.hok d _ hd).1
  have l:=Paired.length kv;obtain⟨f0,f1,f2,f3,f4,f5⟩:=hf it (by simp)
  exact wpAny_pyNext_dict_end (I.ok.hd hc) st (ho _ e1) (Wv (by lia)) fun h' eb=>⟨rfl,I.turned (t':=s.toks) (fun b o hb e=>eb b o hb e) f0 f1 f3 f4 f5⟩
 self:=fun _ _ _ _ _ st h=>wpAny_pyIter_keyiter st h
def M9(te:TE):TI:=fun σ H R=>te σ H fun x H1=>∃d az,x = .ref d/\H1 d=some (.dK az)/\∀o,R (Rp o d az) (bW H1 d (.frz o (.dK az)))
theorem Lr{tg o:Expr}{te:TE}(ho:PE X o te):PI X tg o (M9 te):=by
 intro ae s σ H R I h;refine dB (ho ae s σ H _ I h) fun v s1 ⟨x,H1,I1,r1,d,az,ex,ha,q⟩=>?_
 subst ex;obtain rfl:=(show v=Vw d from r1)
 obtain⟨hz,sa,vs,kv,dd⟩:=(show cx X.prog X.w H1 s1.heap d (.dK az) from I1.hok d _ ha)
 obtain⟨ep,ob,es,hob,rest⟩:=dd.dictAt;have da:∀h:Heap,h.get? d=some ob->h.DictAt (dF X.prog X.w) d vs ep:=fun h e=>⟨ob,es,e,rest⟩
 have hlt:d<s1.heap.objs.size:=Vy hob;refine wpAny_pyIter_dict sa (da _ hob) ?_;have kp:∀b u,s1.heap.get? b=some u->(s1.heap.push { cls:=.type "dict_keyiterator", data:=.fields #[.ref d,.int 0 0,.int vs.length 0,.int ep 0] }).get? b=some u:=fun b u e=>Vt _ e
 have I2:L2.Inv X ae σ (bW H1 d (.frz ob (.dK az))) { s1 with heap:=s1.heap.push { cls:=.type "dict_keyiterator", data:=.fields #[.ref d,.int 0 0,.int vs.length 0,.int ep 0] } } :=
  (I1.kept (t':=s1.toks) kp).write (x:=d) (e:=d) (o:=.frz ob (.dK az)) (t':=s1.toks) (by rw[ha];trivial) (.inl rfl) (fun b u _ e=>e) ⟨_,kp _ _ hob⟩ ⟨kp _ _ hob,hz,sa,vs,kv,(da _ (kp _ _ hob)).dictOf⟩
 refine⟨s1.heap.objs.size,[s1.heap.objs.size],_,_,_,rfl,I2,EO ob d _ az vs ep (VO hlt) da kv,?_,fun b hb=>?_,q ob⟩
 .exact ⟨_,Wa _ rfl,rfl,rfl⟩
 .have e:b=s1.heap.objs.size:=by simpa using hb
  subst e;exact I1.fpOk (Vu _) (by rw[ax (XX hlt)];exact I1.hok.fresh (Vu _))
end
end Xe
namespace Mr
open PySem PySem.Spec PyProof.Rows L2
end Mr
namespace Z
open PySem L2 Mr
theorem K3(c:MT) (body:MS) (n:Nat) (S:AS):jG c body (n+1) S=(c S).bind fun x=>if x.1=true then (body x.2).bind fun o=>match o with
   | .nx S'=>jG c body n S'
   | .ct S'=>jG c body n S'
   | .bk S'=>some (.nx S')
   | .rt a=>some (.rt a)
  else some (.nx x.2):=rfl
end Z
namespace Z
open PySem L2 Mr Xe
inductive KI where
 |ok (a:AV)|ex (c:Str) (fs:List (Str×Int))
abbrev mv:=List D->Option KI
def M6(K:W.Frag) (Hf H:Hp) (Q:VK) (E:XK):KI->Prop
 | .ok a=>∀Hf' H' v F,bB Hf Hf'->bB H H'->bB Hf' H'->(∀b,Hf b=none->H b≠none->Hf' b=none)->bH K Hf' H' a v F->F.Nodup->(∀q∈F,H q=none)->Q v H'
 | .ex c fs=>∀Hf' H' e od,bB Hf Hf'->bB H H'->bB Hf' H'->(∀b,Hf b=none->H b≠none->Hf' b=none)->cT K Hf' (.exc c fs) (.ref e)->E (.ref e) od H'
def og(K:W.Frag) (f:mv):Sp:=fun vs H Q E=>∃(Hf:Hp) (ds:List D) (r:KI),bB Hf H/\bY K Hf ds vs/\f ds=some r/\M6 K Hf H Q E r
noncomputable def U6:KI->Option AV
 | .ok a=>some a
 |_=>none
def okX(f:mv):MF:=fun ds=>(f ds).bind U6
inductive nX where
 |ok (o:wo)|ex (c:Str) (fs:List (Str×Int))
abbrev MX:=AS->Option nX
def uF(K:W.Frag) (H₀ Hf₀ Hf:Hp) (D:ja) (E:XK):nX->Prop
 | .ok o=>qH K H₀ Hf₀ Hf D o
 | .ex c fs=>∀Hf' H' e od,bB Hf₀ Hf'->bB H₀ H'->bB Hf' H'->(∀b,Hf₀ b=none->H₀ b≠none->Hf' b=none)->cT K Hf' (.exc c fs) (.ref e)->E (.ref e) od H'
theorem uF.mono{K:W.Frag}{H₀ Hf₀ Hf Hf':Hp}{D:ja}{E:XK}{o:nX}(s:bB Hf Hf') (h:uF K H₀ Hf₀ Hf D E o):uF K H₀ Hf₀ Hf' D E o:=by
 cases o with
 |ok o=>exact qH.mono s h
 |ex c fs=>exact h
def Dt(K:W.Frag) (E:XK) (t:TS) (m:MX):Prop:=∀{H₀ Hf₀ Hf:Hp}{S:AS}{σ:St}{H:Hp}{Fs:List (List Addr)}{o:nX},bK K H₀ Hf₀ Hf S σ H Fs->m S=some o->∀D:ja,uF K H₀ Hf₀ Hf D E o->t D σ H
def yW(m:MS):MX:=fun S=>(m S).map .ok
def mZ(a b:MX):MX:=fun S=>(a S).bind fun o=>match o with
 | .ok (.nx S')=>b S'
 |o=>some o
noncomputable def MJ(c:MT) (a b:MX):MX:=fun S=>(c S).bind fun x=>if x.1=true then a x.2 else b x.2
noncomputable def qQ(c fld:Str) (a:ML):MX:=fun S=>(a S).bind fun x=>match x.1 with
 | [.int n]=>some (.ex c [(fld,n)])
 |_=>none
section
variable {K:W.Frag}{E:XK}{t u:TS}{m n:MS}{a b:MX}{tt:TT}{c:MT}{ta:TA}
theorem uL(h:SS K t m):Dt K E t (yW m):=by
 intro H₀ Hf₀ Hf S σ H Fs o R e D q;obtain⟨z,e1,e2⟩:=oMq.mp e;subst e2;exact h R e1 D q
theorem tQ(ha:Dt K E t a) (hb:Dt K E u b):Dt K E (BJ t u) (mZ a b):=by
 intro H₀ Hf₀ Hf S σ H Fs o R e D q;obtain⟨z,e1,e2⟩:=oBq.mp e;refine ha R e1 { D with nx:=u D } ?_
 cases z with
 |ok z =>
  cases z with
  |nx S'=>exact fun Hf' σ' H' Fs' s R'=>hb R' e2 D (q.mono s)
  |bk S'=>cases e2;exact q
  |ct S'=>cases e2;exact q
  |rt a=>cases e2;exact q
 |ex c fs=>cases e2;exact q
theorem BN(hc:xj K tt c) (ha:Dt K E t a) (hb:Dt K E u b):Dt K E (HV tt t u) (MJ c a b):=by
 intro H₀ Hf₀ Hf S σ H Fs o R e D q;obtain⟨x,e1,e2⟩:=oBq.mp e;refine hc R (b:=x.1) (S':=x.2) e1 _ fun Hf1 H1 Fs1 t1 R1=>?_
 split at e2
 .rename_i hx;rw[if_pos hx];exact ha R1 e2 D (q.mono t1.sf)
 .rename_i hx;rw[if_neg hx];exact hb R1 e2 D (q.mono t1.sf)
theorem zC{H:Hp}{n:Int}{v:V}(r:cT K H (.int n) v):v = .int n:=by cases r;rfl
theorem DP{cn fld:Str}{C M:Addr}{l:ML}(rf:lF K cn C M) (nf:W.findIn K (.ref C) fld=some none) (hl:JO K ta l):Dt K E (S7 E C (QZ K cn fld ta)) (qQ cn fld l):=by
 intro H₀ Hf₀ Hf S σ H Fs o R e D q;obtain⟨x,e1,e2⟩:=oBq.mp e;refine hl R (ds:=x.1) (S':=x.2) e1 _ fun Hf1 H1 Fs1 vs t1 R1 r1=>?_
 split at e2
 .rename_i k hk;cases e2;rw[hk]at r1;obtain⟨v,ws,rfl,r2,r3⟩:=r1.cons_inv;obtain rfl:=r3.nil_inv;obtain rfl:=zC r2;refine⟨_,C,M,rfl,rf,nf,fun ex dx n1 n2 n3=>⟨ex,some dx,rfl,aL,?_⟩⟩
  rw[yh];have nf1:Hf1 ex=none:=R1.sub.free n1;have nf2:Hf1 dx=none:=R1.sub.free n2;have s1:bB Hf1 (bW (bW Hf1 dx (.xd [(fld,.int k)])) ex (uv ex C (some dx))):=(cX nf2).trans (cX (by rw[ax (Ne.symm n3)];exact nf1))
  have s2:bB H1 (bW (bW H1 dx (.xd [(fld,.int k)])) ex (uv ex C (some dx))):=(cX n2).trans (cX (by rw[ax (Ne.symm n3)];exact n1))
  refine q (bW (bW Hf1 dx (.xd [(fld,.int k)])) ex (uv ex C (some dx))) _ ex (some dx) (R1.sf.trans s1) (R1.fr.trans s2) (fun b o' z=>?_) (fun b z1 z2=>?_) (.exc rf (fun p hp=>?_) aL ?_)
  .by_cases hb:b=ex
   .subst hb;rw[aL]at z ⊢;exact z
   .rw [ax hb]at z ⊢
    by_cases hb2:b=dx
    .subst hb2;rw[aL]at z ⊢;exact z
    .rw [ax hb2]at z ⊢;exact R1.sub b o' z
  .have h1:b≠ex:=fun z=>z2 (by rw[z];exact R1.fr.free n1)
   have h2:b≠dx:=fun z=>z2 (by rw[z];exact R1.fr.free n2)
   rw[ax h1,ax h2];exact R1.lim b z1 z2
  .simp only [mSq]at hp;subst hp;exact nf
  .rw [ax n3,aL];rfl
 .cases e2
end
def kM(np n:Nat) (m:MX):mv:=fun ds=>if ds.length=np then (m (ds.map (fun d=>some (.sh d))++VM (n-ds.length) none)).bind fun o=>match o with
  | .ok (.rt a)=>some (.ok a)
  | .ok (.nx _)=>some (.ok (.sh .non))
  | .ex c fs=>some (.ex c fs)
  |_=>none
 else none
theorem eM{K:W.Frag}{t:TS}{m:MX}{np:Nat}(N:List Str) {E:XK}(h:Dt K E t m) {vs:List V}{H:Hp}{Q:VK}(hs:og K (kM np N.length m) vs H Q E):t { nx:=fun _ H'=>Q .non H',rt:=Q } (L2.eQ N vs) H:=by
 obtain⟨Hf,ds,r,s,rr,e,q⟩:=hs;unfold kM at e;split at e
 .obtain ⟨o,e1,e2⟩:=oBq.mp e;refine h (wq N s rr) e1 _ ?_;cases o with
  |ok o =>
   cases o with
   |rt a'=>cases e2;exact fun Hf' H' v F s1 s2 s3 l r nd fr=>q Hf' H' v F s1 s2 s3 l r nd fr
   |nx S'=>cases e2;exact fun Hf' σ' H' Fs' s1 R=>q Hf' H' .non [] R.sf R.fr R.sub R.lim (.sh .non) V6 fun q h=>(by cases h)
   |bk S'=>cases e2
   |ct S'=>cases e2
  |ex c fs=>cases e2;exact q
 .cases e
theorem gY{K:W.Frag}{m:MX}{np n:Nat}{vs:List V}{H:Hp}{Q:VK}{E:XK}(hs:og K (kM np n m) vs H Q E):vs.length=np:=by
 obtain⟨Hf,ds,a,s,r,e,q⟩:=hs;unfold kM at e;split at e
 .rename_i h;rw[←r.1,h]
 .cases e
abbrev MH:=Str->List (Str×Int)->MS
def SH(K:W.Frag) (th:XH) (hm:MH):Prop:=∀{H₀ Hf₀ Hf:Hp}{S:AS}{σ:St}{H:Hp}{Fs:List (List Addr)}{o:wo}{c:Str}{fs:List (Str×Int)}{e:Addr},bK K H₀ Hf₀ Hf S σ H Fs->hm c fs S=some o ->
 cT K Hf (.exc c fs) (.ref e)->∀D:ja,qH K H₀ Hf₀ Hf D o->∀C M od,lF K c C M->H e=some (uv e C od)->th e C od D σ H
noncomputable def under(c c':Str):Bool:=decide (c'=c∨c' = "MapError")
def T4(i:Nat):wo->wo
 | .nx S=>.nx (S.set i none)
 | .bk S=>.bk (S.set i none)
 | .ct S=>.ct (S.set i none)
 | .rt a=>.rt a
def QB(c':Str) (i:Nat) (mb:MS) (rest:MH):MH:=fun c fs S=>if under c c'=true then (mb (S.set i (some (.sh (.exc c fs))))).map (T4 i) else rest c fs S
def Vk(c':Str) (mb:MS) (rest:MH):MH:=fun c fs S=>if under c c'=true then mb S else rest c fs S
def Ob:MH:=fun _ _ _=>none
theorem lF.mro{K:W.Frag}{c c':Str}{C M C':Addr}(rf:lF K c C M) (h:MM K c' C'):W.mroIn K C (.ref C')=some (under c c'):=by
 obtain⟨_,⟨cd,hcd,hm,hn⟩,_⟩:=jo rf.xc;unfold W.mroIn;rw[hcd,XG,hm];simp only[X4,W3,if_false,V2.injEq];have key:(Vw C::Vw M::jD).contains (Vw C')=decide (C'=C∨C'=M):=by
  have e1:jD.contains (Vw C')=false:=by simp[jD]
  rw[We,We,e1]
  by_cases h1:C'=C
  .simp [h1]
  .by_cases h2:C'=M
   .simp [h2]
   .have a1:(Vw C' == Vw C)=false:=by simp[h1]
    have a2:(Vw C' == Vw M)=false:=by simp[h2]
    rw[a1,a2];simp[h1,h2]
 rw[key];unfold under;rcases h with ⟨hnm,⟨M',rf'⟩|⟨hc,hx⟩⟩
 .obtain rfl:M=M':=by have z:=rf.nmM.symm.trans rf'.nmM;simpa using z
  have n1:C'≠M:=fun z=>by subst z;have y:=(CQ rf'.xc rf.xm).2;simp at y
  have n2:c' ≠ "MapError" := fun z=>by subst z;have y:=rf'.nm.symm.trans rf.nmM;simp at y;exact n1 y
  by_cases hc:c'=c
  .subst hc;have y:=(rf.one rf').1;simp[y]
  .have n3:C'≠C:=fun z=>by subst z;exact hc ((CQ rf'.xc rf.xc).1)
   simp[n1,n2,n3,hc]
 .subst hc;obtain rfl:M=C':=by have z:=rf.nmM.symm.trans hnm;simpa using z
  simp
section
variable {K:W.Frag}{tb:TS}{mb:MS}{tr:XH}{mr:MH}{c':Str}{C':Addr}{i:Nat}
theorem K7{H:Hp}{c:Str}{fs:List (Str×Int)}{e:Addr}(r:cT K H (.exc c fs) (.ref e)):∃C M od,lF K c C M/\H e=some (uv e C od):=by
 cases r with
 |exc rf nf h hx=>exact⟨_,_,_,rf,h⟩
 |exc0 rf h=>exact⟨_,_,_,rf,h⟩
theorem bK.clear{H₀ Hf₀ Hf H:Hp}{S:AS}{σ:St}{Fs:List (List Addr)}(R:bK K H₀ Hf₀ Hf S σ H Fs) (i:Nat):bK K H₀ Hf₀ Hf (S.set i none) (σ.set i none) H (Fs.set i []):=by
 refine⟨by simp[R.len],by simp[R.lenF],fun j a ej=>?_,fun j ej=>?_,cZ i R.nd V6 (fun p hp=>by cases hp),fun p hp=>R.fresh p (cF hp),R.sub,R.fr,R.lim,R.sf⟩
 .rw [V8]at ej
  by_cases hij:i=j
  .subst hij;rw[if_pos rfl]at ej;split at ej <;> cases ej
  .rw [if_neg hij]at ej;obtain⟨w,G,f1,f2,q⟩:=R.rep j a ej;exact⟨w,G,by rw[VA hij];exact f1,by rw[VA hij];exact f2,q⟩
 .rw [V8]at ej
  by_cases hij:i=j
  .subst hij;rw[if_pos rfl]at ej;split at ej
   .rename_i hi;rw[VS (R.lenF.symm ▸ hi)]
   .cases ej
  .rw [if_neg hij]at ej;rw[VA hij];exact R.emp j ej
theorem Na(hC:MM K c' C') (hb:SS K tb mb) (hr:SH K tr mr):SH K (UI K C' i tb tr) (QB c' i mb mr):=by
 intro H₀ Hf₀ Hf S σ H Fs o c fs e R eq rx D q C M od rf hA;unfold QB at eq;split at eq
 .rename_i hu;refine⟨c,M,true,rf,by rw[lF.mro rf hC,hu],?_⟩
  rw[if_pos rfl];obtain⟨z,e1,e2⟩:=oMq.mp eq;subst e2;refine hb (R.setD i rx) e1 _ ?_;cases z with
  |nx S'=>exact fun Hf' σ' H' Fs' s R'=>q Hf' _ H' _ s (bK.clear R' i)
  |bk S'=>exact fun Hf' σ' H' Fs' s R'=>q Hf' _ H' _ s (bK.clear R' i)
  |ct S'=>exact fun Hf' σ' H' Fs' s R'=>q Hf' _ H' _ s (bK.clear R' i)
  |rt a=>exact q
 .rename_i hu;refine⟨c,M,false,rf,by rw[lF.mro rf hC,Zo.mpr hu],?_⟩
  rw[if_neg (by decide)]
  exact hr R eq rx D q C M od rf hA
theorem IC:SH K Ru Ob:=by
 intro H₀ Hf₀ Hf S σ H Fs o c fs e R eq rx D q;cases eq
end
def Um(f:mv) (a:MA) (hm:MH):MS:=fun S=>(a S).bind fun x=>(f (x.1.map aE)).bind fun r=>match r with
 | .ok _=>some (.nx x.2)
 | .ex c fs=>hm c fs x.2
def Dj(i:Nat) (f:mv) (a:MA) (hm:MH):MS:=fun S=>(a S).bind fun x=>(f (x.1.map aE)).bind fun r=>match r with
 | .ok r=>some (.nx (x.2.set i (some r)))
 | .ex c fs=>hm c fs x.2
section
variable {K:W.Frag}{ta:TA}{a:MA}{f:mv}{th:XH}{hm:MH}{i:Nat}
theorem kC{H₀ Hf₀ Hf1 H1 Hf' H':Hp}{S:AS}{σ:St}{Fs1:List (List Addr)}(R2:bK K H₀ Hf₀ Hf1 S σ H1 Fs1) (s1:bB Hf1 Hf') (s2:bB H1 H') (s3:bB Hf' H') (l:∀b,Hf1 b=none->H1 b≠none->Hf' b=none):bK K H₀ Hf₀ Hf' S σ H' Fs1 :=
 R2.more s2 s1 s3 (fun q hq=>l q (R2.mem hq).2 (R2.mem hq).1) fun b h1 h2=>l b (R2.lim b h1 h2) (Dx R2.fr h2)
theorem DF(ha:SA K ta a) (hh:SH K th hm):SS K (Mx i (og K f) ta th) (Dj i f a hm):=by
 intro H₀ Hf₀ Hf S σ H Fs o R e D q;obtain⟨x,e1,e⟩:=oBq.mp e;obtain⟨r,e2,e⟩:=oBq.mp e;refine ha R (as:=x.1) (S':=x.2) e1 _ fun Hf1 H1 Fs1 vs Gs t1 R1 r1 o1=>?_
 obtain⟨R2,r2,t2⟩:=R1.gives t1 r1 o1;refine⟨_,_,r,R2.sub,r2,e2,?_⟩;cases r with
 |ok av=>cases e;exact fun Hf' H' v F s1 s2 s3 l ra nd fr=>q _ _ _ _ (t2.sf.trans s1) ((kC R2 s1 s2 s3 l).set i ra nd fun q hq=>⟨R2.fr.free (fr q hq),fun m=>(R2.mem m).1 (fr q hq)⟩)
 |ex c fs =>
  intro Hf' H' ex od s1 s2 s3 l rx e0 he;cases he;have R3:=kC R2 s1 s2 s3 l;obtain⟨C,M,od',rf,hA⟩:=K7 rx;exact⟨C,od',R3.sub _ _ hA,hh R3 e rx D (q.mono (t2.sf.trans s1)) C M od' rf (R3.sub _ _ hA)⟩
end
def we(f:Str):D->Option D
 | .exc _ fs=>(fs.lookup f).map .int
 |_=>none
section
variable {K:W.Frag}{te:TE}{m:ME}{f:Str}
theorem vv{fs:List (Str×Int)}{f:Str}{n:Int}(h:fs.lookup f=some n):(f,n)∈fs/\(fs.map fun p=>(p.1,V.int p.2)).lookup f=some (.int n):=by
 induction fs with
 |nil=>cases h
 |cons p fs ih =>
  obtain⟨g,k⟩:=p;simp only[WB]at h ⊢;cases e:f == g with
  |true=>rw[e]at h;cases h;simp[WB,e,eq_of_beq e]
  |false=>rw[e]at h;obtain⟨a,b⟩:=ih h;exact⟨mCo _ a,by simp[WB,e,b]⟩
theorem C8(ha:SR K te m):SR K (Up K te f) (kr (we f) m):=by
 intro H₀ Hf₀ Hf S σ H Fs d S' R e Q q;obtain⟨x,e1,e⟩:=oBq.mp e;obtain⟨z,e2,e⟩:=oMq.mp e;cases e;refine ha R (d:=x.1) (S':=x.2) e1 _ fun Hf1 H1 Fs1 v t1 R1 r1=>?_
 cases hx:x.1 <;> rw[hx]at e2 r1 <;> simp only[we]at e2
 all_goals first|(exfalso;simp at e2;done)|skip
 rename_i c fs;obtain⟨n,e3,rfl⟩:=oMq.mp e2;cases r1 with
 |exc rf nf h hx=>exact⟨_,c,_,_,_,_,n,rfl,h,hx,rf,nf _ (vv e3).1,(vv e3).2,q _ _ _ _ t1 R1 .int⟩
 |exc0 rf h=>simp at e3
def DG(c:Str):ME:=fun S=>some (.cls c,S)
theorem yE{c:Str}{C:Addr}(h:MM K c C):SR K (fun _ H Q=>Q (.ref C) H) (DG c):=by
 intro H₀ Hf₀ Hf S σ H Fs d S' R e Q q;cases e;exact q _ _ _ _ .refl R (.cls h)
def rq(c:Str):D->Option Bool
 | .cls c'=>some (under c c')
 | .ty T=>if T = "ValueError" then some true else none
 |_=>none
def pV(c:Str):List D->Option Bool
 | []=>some false
 |d::ds=>(rq c d).bind fun b=>(pV c ds).map fun b2=>b || b2
def vW:List D->Option D
 | [.exc c _,.tup ds]=>(pV c ds).map .bl
 | [.exc c _,d]=>(rq c d).map .bl
 |_=>none
theorem IL{c':Str}{C':Addr}(h:MM K c' C'):(W.clsIn K C').isSome=true/\W.typeIn K (.ref C')=some (.type "type"):=by
 have key:∀{bm:List Value},kc K c' C' bm=true->(W.clsIn K C').isSome=true/\W.typeIn K (.ref C')=some (.type "type"):=fun {bm} e=>by
  obtain⟨⟨N,q',bs,sn,sub,ab,col,dd,k0,k1,k2,k3,k5,hC⟩,⟨cd,hcd,_,_⟩,_⟩:=jo e;refine⟨by rw[hcd];rfl,?_⟩
  show (K.lookup C').map (·.cls)=_;rw[hC];rfl
 rcases h with ⟨_,⟨M',rf'⟩|⟨rfl,hx⟩⟩
 .exact key rf'.xc
 .exact key hx
theorem wj{c:Str}{C M:Addr}{d:D}{v:V}{b:Bool}{H:Hp}(rf:lF K c C M) (r:cT K H d v) (e:rq c d=some b):∃u,yz v=some u/\W.kitOne K (.ref C) u=some b:=by
 cases r <;> simp only[rq]at e
 all_goals first|(exfalso;simp at e;done)|skip
 .rename_i n;split at e
  .rename_i hn;subst hn;cases e;refine⟨_,rfl,?_⟩;obtain⟨_,⟨cd,hcd,hm,hn⟩,_⟩:=jo rf.xc;have h1:W.mroIn K C (.type "ValueError")=some true:=by
    unfold W.mroIn;rw[hcd,XG,hm];simp only[X4,W3,if_false,V2.injEq];rw[We,We,show jD.contains (Xd "ValueError")=true by decide,Xh,Xh]
   show (if (Vw C == Xd "ValueError")=true then some true else if W.kitMeta "ValueError" = true then W.mroIn K C (.type "ValueError") else none)=some true
   rw[h1,show W.kitMeta "ValueError" = true by decide +kernel]
   simp
  .cases e
 .rename_i c' C' h;cases e;refine⟨_,rfl,?_⟩;obtain⟨g1,g2⟩:=IL h;have h1:=lF.mro rf h;show (if (Vw C == Vw C')=true then some true else if ((W.clsIn K C').isSome && W.typeIn K (.ref C') == some (.type "type"))=true then W.mroIn K C (.ref C') else none)=_
  rw[g1,g2,h1]
  by_cases hz:(Vw C == Vw C')=true
  .have hz':C=C':=Vw.inj (beq_iff_eq.mp hz);subst hz';rw[if_pos hz];obtain⟨_,⟨cd,hcd,hm,hn⟩,_⟩:=jo rf.xc;unfold W.mroIn at h1;rw[hcd,XG,hm]at h1;simp only[X4,W3,if_false,V2.injEq]at h1;rw[←h1];simp
  .rw [if_neg hz];simp
theorem Cu{c:Str}{C M:Addr}{H:Hp}(rf:lF K c C M):∀{ds:List D}{vs:List V}{b:Bool},bY K H ds vs->pV c ds=some b->∃us,vs.mapM yz=some us/\W.kitAny K (.ref C) us=some b
 | [],vs,b,r,e=>by
  obtain rfl:=r.nil_inv;cases e;exact⟨[],rfl,rfl⟩
 |d::ds,vs,b,r,e=>by
  obtain⟨v,ws,rfl,r1,r2⟩:=r.cons_inv;obtain⟨b1,e1,e2⟩:=oBq.mp e;obtain⟨b2,e3,e4⟩:=oMq.mp e2;obtain⟨u,h1,h2⟩:=wj rf r1 e1;obtain⟨us,h3,h4⟩:=Cu rf r2 e3;refine⟨u::us,by rw[ZF,h1,h3];rfl,?_⟩
  subst e4;unfold W.kitAny;rw[h2];cases b1 with
  |true=>rfl
  |false=>exact h4
theorem uu:Oz K (Pp K) vW:=by
 intro vs H Q ds d r e q;have main:∀(c:Str) (fs:List (Str×Int)) (dv:D),ds=[.exc c fs,dv]->((∃es b,dv = .tup es/\pV c es=some b/\d = .bl b)∨∃b,rq c dv=some b/\d = .bl b)->Pp K vs H Q:=by
  intro c fs dv hd hb;subst hd;obtain⟨v,ws,rfl,r1,r2⟩:=r.cons_inv;obtain⟨v2,ws2,rfl,r3,r4⟩:=r2.cons_inv;obtain rfl:=r4.nil_inv;obtain⟨e0,C,M,od,he,rf,hA⟩:∃e0 C M od,v = .ref e0/\lF K c C M/\H e0=some (uv e0 C od):=by
   cases r1 with
   |exc rf nf h hx=>exact⟨_,_,_,_,rfl,rf,h⟩
   |exc0 rf h=>exact⟨_,_,_,_,rfl,rf,h⟩
  subst he;rcases hb with ⟨es,b,rfl,hb,rfl⟩|⟨b,hb,rfl⟩
  .obtain ⟨p,us,rfl,h1,h2⟩:=r3.tup_inv;obtain⟨cs,h3,h4⟩:=Cu rf h2 hb;exact⟨e0,c,C,M,od,_,b,rfl,hA,rf,.inr ⟨p,us,cs,rfl,h1,h3,h4⟩,q _ .bl⟩
  .obtain ⟨u,h1,h2⟩:=wj rf r3 hb;exact⟨e0,c,C,M,od,_,b,rfl,hA,rf,.inl ⟨u,h1,h2⟩,q _ .bl⟩
 unfold vW at e;split at e
 .rename_i c fs es;obtain⟨b,h1,h2⟩:=oMq.mp e;exact main c fs _ rfl (.inl ⟨es,b,rfl,h1,h2.symm⟩)
 .rename_i c fs dv _;obtain⟨b,h1,h2⟩:=oMq.mp e;exact main c fs _ rfl (.inr ⟨b,h1,h2.symm⟩)
 .cases e
end
def kD:bI->D
 | .inl i=>.int i
 | .inr x=>.str x
theorem Ld{K:W.Frag}{H:Hp}(k:bI):cT K H (kD k) (kV k):=by
 cases k with
 |inl i=>exact .int
 |inr x=>exact .str
def BG(x y:Nat) (body:MS):List (bI×D)->AS->Option wo
 | [],S=>some (.nx S)
 |p::ps,S=>(body ((S.set x (some (.sh (kD p.1)))).set y (some (.sh p.2)))).bind fun o=>match o with
  | .nx S'=>BG x y body ps S'
  | .ct S'=>BG x y body ps S'
  | .bk S'=>some (.nx S')
  | .rt a=>some (.rt a)
def Ug(x y:Nat) (k:MK) (body:MS):MS:=fun S=>(k S).bind fun z=>(Iy z.1).bind fun az=>BG x y body az z.2
section
variable {K:W.Frag}{te tf:TE}{k:MK}{tb:TS}{body:MS}{x y:Nat}
theorem bK.fix{H₀ Hf₀ Hf H:Hp}{S:AS}{σ:St}{Fs:List (List Addr)}(R:bK K H₀ Hf₀ Hf S σ H Fs) {p:Addr}{o:HO}(h1:p∉Fs.flatten) (h2:Hf p=none) (h3:H₀ p=none):bK K H₀ Hf₀ (bW Hf p o) S σ (bW H p o) Fs:=by
 have s:bB Hf (bW Hf p o):=cX h2;refine⟨R.len,R.lenF,fun i av e=>?_,R.emp,R.nd,R.fresh,fun b u z=>?_,fun b u z=>?_,fun b z1 z2=>?_,R.sf.trans s⟩
 .obtain ⟨v,F,e1,e2,r⟩:=R.rep i av e;have hne:∀q∈F,q≠p:=fun q hq z=>h1 (by rw[←z];exact mFq.mpr ⟨F,mGq e2,hq⟩)
  exact⟨v,F,e1,e2,r.keep s (fun q hq=>ax (hne q hq)) fun q hq=>by rw[ax (hne q hq)];exact(r.owned q hq).2⟩
 .by_cases hb:b=p
  .subst hb;rw[aL]at z ⊢;exact z
  .rw [ax hb]at z ⊢;exact R.sub b u z
 .have hb:b≠p:=fun q=>by rw[q,h3]at z;cases z
  rw[ax hb];exact R.fr b u z
 .have hb:b≠p:=fun q=>z2 (by rw[q];exact h3)
  rw[ax hb];exact R.lim b z1 z2
def TK(a:ME):MK:=fun S=>(a S).bind fun x=>(dictOf x.1).map fun az=>(.ow (az.map fun p=>.sh (kD p.1)),x.2)
end
theorem J4:bootBuiltins "ValueError" = some (.type "ValueError"):=by decide +kernel
structure Ft (K:W.Frag) (mg:Str->Option Value) (cn:Str) (C:Addr) (bm:List Value):Prop where
 c:MM K cn C
 xc:kc K cn C bm=true
 base:bm.contains (.type "BaseException")=true
 mgc:mg cn=some (.ref C)
structure Oe (P:Program) (w:World) (K:W.Frag) (mg:Str->Option Value) (bs:Heap) (cn fld prm:Str) (C M f:Addr) (fd:FuncData):Prop where
 c:MM K cn C
 xc:kc K cn C (.ref M::jD)=true
 base:(Vw M::jD).contains (.type "BaseException")=true
 mgc:mg cn=some (.ref C)
 i:Tb P w K mg bs 1 cn fld prm C M f fd
theorem Ba(M:Addr):(Vw M::jD).contains (.type "BaseException")=true:=by rw[We,show jD.contains (Xd "BaseException")=true by decide,Xh]
section
variable {K:W.Frag}{h:Heap}{mg:Str->Option Value}{c:Str}{C M:Addr}
theorem xw(a:W.nsIn K mainGlobals c=some (some (.ref C))) (aM:W.nsIn K mainGlobals "MapError" = some (some (.ref M))) (x:kc K c C (.ref M::jD)=true) (xM:kc K "MapError" M jD=true) (l:Ov K C=true):lF K c C M:=⟨a,aM,x,xM,l⟩
theorem FY(X:K.In h) (G:h.Ns mainGlobals mg) (r:lF K c C M):Ft K mg c C (.ref M::jD):=⟨⟨r.nm,.inl ⟨M,r⟩⟩,r.xc,Ba M,W.mg_of X G r.nm⟩
theorem Lu(X:K.In h) (G:h.Ns mainGlobals mg) (aM:W.nsIn K mainGlobals "MapError" = some (some (.ref M))) (xM:kc K "MapError" M jD=true):Ft K mg "MapError" M jD:=⟨⟨aM,.inr ⟨rfl,xM⟩⟩,xM,by decide,W.mg_of X G aM⟩
end
section
variable {P:Program}{w:World}{K:W.Frag}{mg:Str->Option Value}{base:Heap}
theorem Hu{c fld:Str}{prm:Str}{vs:List V}{H:Hp}{Q:VK}{E:XK}{tx:Str}(hs:Ia K c fld vs H Q E) :
  BJ (mh (Ui K (eY (iE 0) (eY (tC (.str tx)) jb)))) (Us K (iE 0) (iE 1) fld) { nx:=fun _ H'=>Q .non H',rt:=Q } (eQ ["self", prm] vs) H:=by
 obtain⟨e,v,C,M,rfl,hE,rf,nf,q⟩:=hs;exact⟨_,rfl,e,_,c,C,M,rfl,hE,rf,_,rfl,_,rfl,e,c,C,M,rfl,hE,rf,nf,q⟩
end
def Vb(c:Str):MK:=fun S=>some (.sh (.cls c),S)
def Gw:Option nX->MX->Option nX
 |none,_=>none
 |some (.ok (.nx S)),b=>b S
 |some o,_=>some o
noncomputable def CL(c fld:Str):List D->Option nX
 | [.int n]=>some (.ex c [(fld,n)])
 |_=>none
def CV:nX->Option KI
 | .ok (.rt a)=>some (.ok a)
 | .ok (.nx _)=>some (.ok (.sh .non))
 | .ex c fs=>some (.ex c fs)
 |_=>none
def Vj(hm:MH) (S:AS):KI->Option wo
 | .ok _=>some (.nx S)
 | .ex c fs=>hm c fs S
def N6(i:Nat) (hm:MH) (S:AS):KI->Option wo
 | .ok r=>some (.nx (S.set i (some r)))
 | .ex c fs=>hm c fs S
variable (S:AS)
theorem Tj(m:MS):yW m S=(m S).map .ok:=rfl
theorem JC(b:MX):Gw (some (.ok (.nx S))) b=b S:=rfl
theorem HM(c:Str) (fs:List (Str×Int)) (b:MX):Gw (some (.ex c fs)) b=some (.ex c fs):=rfl
theorem Rw(a b:MX):mZ a b S=Gw (a S) b:=by
 show (a S).bind _=_;cases a S with
 |none=>rfl
 |some o =>
  cases o with
  |ok o=>cases o <;> rfl
  |ex c fs=>rfl
theorem T5(c:MT) (a b:MX):MJ c a b S=(c S).bind fun x=>if x.1=true then a x.2 else b x.2:=rfl
theorem zQ(c fld:Str) (n:Int):CL c fld [.int n]=some (.ex c [(fld,n)]):=rfl
theorem J8(c fld:Str) (a:ML):qQ c fld a S=(a S).bind fun x=>CL c fld x.1:=rfl
theorem GH(a:AV):CV (.ok (.rt a))=some (.ok a):=rfl
theorem JH:CV (.ok (.nx S))=some (.ok (.sh .non)):=rfl
theorem Gk(c:Str) (fs:List (Str×Int)):CV (.ex c fs)=some (.ex c fs):=rfl
theorem Qn(np n:Nat) (m:MX) (ds:List D):kM np n m ds=if ds.length=np then (m (ds.map (fun d=>some (.sh d))++VM (n-ds.length) none)).bind CV else none:=by
 show (if ds.length=np then (m _).bind _ else none)=_
 first|rfl|(congr 2;funext o;cases o with
 |ok o=>cases o <;> rfl
 |ex c fs=>rfl)
theorem Ly(i:Nat) (hm:MH) (a:AV):N6 i hm S (.ok a)=some (.nx (S.set i (some a))):=rfl
theorem K2(i:Nat) (hm:MH) (c:Str) (fs:List (Str×Int)):N6 i hm S (.ex c fs)=hm c fs S:=rfl
theorem ND(i:Nat) (f:mv) (a:MA) (hm:MH):Dj i f a hm S=(a S).bind fun x=>(f (x.1.map aE)).bind (N6 i hm x.2):=by
 show (a S).bind _=_;congr 1
theorem SZ(c':Str) (i:Nat) (mb:MS) (rest:MH) (c:Str) (fs:List (Str×Int)):QB c' i mb rest c fs S=if under c c'=true then (mb (S.set i (some (.sh (.exc c fs))))).map (T4 i) else rest c fs S:=rfl
theorem NR(i:Nat):T4 i (.nx S) = .nx (S.set i none):=rfl
theorem BX(c:Str):under c c=true:=by simp[under]
theorem Jj(c c':Str) (fs:List (Str×Int)):vW [.exc c fs,.cls c']=some (.bl (under c c')):=rfl
theorem K8(c:Str) (fs:List (Str×Int)):vW [.exc c fs,.ty "ValueError"]=some (.bl true):=by simp[vW,rq]
theorem DT(f c:Str) (n:Int):we f (.exc c [(f,n)])=some (.int n):=by simp[we,WB]
theorem Q4(c:Str):DG c S=some (.cls c,S):=rfl
def Vi:=Vs @Tj (Vs @JC (Vs @HM (Vs @Rw (Vs @T5 (Vs @zQ (Vs @J8 (Vs @GH (Vs @JH (Vs @Gk (Vs @Qn (Vs @Ly (Vs @K2 (Vs @ND (Vs @SZ (Vs @NR (Vs @BX (Vs @Jj (Vs @K8 (Vs @DT @Q4)))))))))))))))))))
def Jt(x:Nat) (body:MX):List D->AS->Option nX
 | [],S=>some (.ok (.nx S))
 |d::ds,S=>(body (S.set x (some (.sh d)))).bind fun o=>match o with
  | .ok (.nx S')=>Jt x body ds S'
  | .ok (.ct S')=>Jt x body ds S'
  | .ok (.bk S')=>some (.ok (.nx S'))
  | .ok (.rt a)=>some (.ok (.rt a))
  | .ex c fs=>some (.ex c fs)
def PQ(x:Nat) (k:MK) (body:MX):MX:=fun S=>(iI k S).bind fun y=>(eP (aE y.1)).bind fun ds=>Jt x body ds y.2
def lZ(f:AV->Option nX):KI->Option nX
 | .ok r=>f r
 | .ex c fs=>some (.ex c fs)
def pK(f:mv) (a:MA):MX:=fun S=>(a S).bind fun x=>(f (x.1.map aE)).bind (lZ fun _=>some (.ok (.nx x.2)))
def UR(i:Nat) (f:mv) (a:MA):MX:=fun S=>(a S).bind fun x=>(f (x.1.map aE)).bind (lZ fun r=>some (.ok (.nx (x.2.set i (some r)))))
def BD(f:mv) (a:MA):MX:=fun S=>(a S).bind fun x=>(f (x.1.map aE)).bind (lZ fun r=>some (.ok (.rt r)))
def tG(c:Str):MX:=fun _=>some (.ex c [])
section
variable {K:W.Frag}{E:XK}{te:TE}{tb:TS}{k:MK}{body:MX}{x:Nat}{ta:TA}{a:MA}{f:mv}
theorem tK{H₀ Hf₀ Hf:Hp}{S':AS}{σ:St}{o:nX}{D:ja}{Hf1 H1:Hp}{Fs1:List (List Addr)}{r:KI}{g:AV->Option nX}{Q:VK}(R2:bK K H₀ Hf₀ Hf1 S' σ H1 Fs1) (e:lZ g r=some o) (s0:bB Hf Hf1)
  (q:uF K H₀ Hf₀ Hf D E o) (hg:∀av,g av=some o->∀Hf' H' v F,bB Hf1 Hf'->bK K H₀ Hf₀ Hf' S' σ H' Fs1->bH K Hf' H' av v F->F.Nodup->(∀p∈F,H1 p=none)->Q v H'):M6 K Hf1 H1 Q E r:=by
 cases r with
 |ok av=>exact fun Hf' H' v F s1 s2 s3 l ra nd fr=>hg av e Hf' H' v F s1 (kC R2 s1 s2 s3 l) ra nd fr
 |ex c fs =>
  cases e;intro Hf' H' ex od s1 s2 s3 l rx;have R3:=kC R2 s1 s2 s3 l;exact q Hf' H' ex od R3.sf R3.fr R3.sub R3.lim rx
theorem vp(ha:SA K ta a):Dt K E (mh (jR (og K f) [] E ta)) (pK f a):=by
 intro H₀ Hf₀ Hf S σ H Fs o R e D q;obtain⟨x,e1,e⟩:=oBq.mp e;obtain⟨r,e2,e⟩:=oBq.mp e;refine ha R (as:=x.1) (S':=x.2) e1 _ fun Hf1 H1 Fs1 vs Gs t1 R1 r1 o1=>?_
 obtain⟨R2,r2,t2⟩:=R1.gives t1 r1 o1;rw[aNq];exact⟨_,_,r,R2.sub,r2,e2,tK R2 e t2.sf q fun av z Hf' H' v F s1 R' ra nd fr=>by cases z;exact q _ _ _ _ (t2.sf.trans s1) R'⟩
theorem uV{cn:Str}{C M:Addr}(rf:lF K cn C M):Dt K E (S7 E C (Ry K cn)) (tG cn):=by
 intro H₀ Hf₀ Hf S σ H Fs o R e D q;cases e;refine⟨C,M,rf,fun ex n1=>⟨ex,none,rfl,aL,?_⟩⟩
 rw[yh];have nf1:Hf ex=none:=R.sub.free n1;refine q (bW Hf ex (uv ex C none)) _ ex none (R.sf.trans (cX nf1)) (R.fr.trans (cX n1)) (fun b o' z=>?_) (fun b z1 z2=>?_) (.exc0 rf aL)
 .by_cases hb:b=ex
  .subst hb;rw[aL]at z ⊢;exact z
  .rw [ax hb]at z ⊢;exact R.sub b o' z
 .have h1:b≠ex:=fun z=>z2 (by rw[z];exact R.fr.free n1)
  rw[ax h1];exact R.lim b z1 z2
noncomputable def Tp(c fld:Str) (S:AS):List D->Option (D×AS)
 | [.int n]=>some (.exc c [(fld,n)],S)
 |_=>none
def Vp(c fld:Str) (a:ML):ME:=fun S=>(a S).bind fun x=>Tp c fld x.2 x.1
noncomputable def Td(c f1 f2:Str) (S:AS):List D->Option (D×AS)
 | [.int n,.int m]=>some (.exc c [(f1,n),(f2,m)],S)
 |_=>none
def UW(c f1 f2:Str) (a:ML):ME:=fun S=>(a S).bind fun x=>Td c f1 f2 x.2 x.1
noncomputable def UM:D->D->Option D
 | .tup [.str u,.int i],.tup [.str v,.int j]=>some (.bl (decide (u=v/\i=j)))
 |_,_=>none
noncomputable def UJ:D->D->Option D
 | .tup [.str u,.int i],.tup [.str v,.int j]=>some (.bl (!decide (u=v/\i=j)))
 |_,_=>none
end
theorem rJ{X:Cx}{E:XK}{k:Nat}{f:Addr}{fd:FuncData}{ps:List Str}{x:Str}{p pos:Pos}{e:Expr}{es:List Expr}{t:TA}{st:Stmt}{g:mv}(G:EW X.prog X.w X.K X.mg X.base k x st ps (og X.K g) f fd) (hr:dX k X.A) (hx:iK (JQ X.prog X.w) X E) (ha:PA X (e::es) t) (hg:Gl X x:=by rfl) (hdb:(x == ("__debug__" : Str))=false:=by decide)
  (he:starEach (e::es) X.env=(false,eval e X.env)::starEach es X.env:=by rfl) (hpl:(backTo pos (starEach es X.env)).any (·.1)=false:=by rfl) :
  PE X (.Call (.Name x p) (e::es) [] pos) (jR (og X.K g) [] E t):=Cv G.ok hr hg G.D.m G.D.F.kp G.D.b .nil hx ha hdb he hpl
structure Ht (K:W.Frag) (mg:Str->Option Value) (cn:Str) (C M:Addr):Prop where
 c:MM K cn C
 xc:kc K cn C (.ref M::jD)=true
 base:(Vw M::jD).contains (.type "BaseException")=true
 mgc:mg cn=some (.ref C)
 i:RL K mg cn C M
theorem Lf{K:W.Frag}{h:Heap}{mg:Str->Option Value}{c:Str}{C M:Addr}(X:K.In h) (G:h.Ns mainGlobals mg) (r:lF K c C M) (ini:W.findIn K (.ref C) "__init__" = some (some (.builtin "ValueError.__init__"))) (kp:W.keepIn K (.ref C)=true):Ht K mg c C M :=
 ⟨⟨r.nm,.inl ⟨M,r⟩⟩,r.xc,Ba M,W.mg_of X G r.nm,⟨r,ini,kp,W.mg_of X G r.nm⟩⟩
theorem FS(g:AV->Option nX) (r:AV):lZ g (.ok r)=g r:=rfl
theorem HK(g:AV->Option nX) (c:Str) (fs:List (Str×Int)):lZ g (.ex c fs)=some (.ex c fs):=rfl
theorem OS(S:AS) (f:mv) (a:MA):pK f a S=(a S).bind fun x=>(f (x.1.map aE)).bind (lZ fun _=>some (.ok (.nx x.2))):=rfl
theorem FO(S:AS) (c:Str):tG c S=some (.ex c []):=rfl
def UV:=Vs @FS (Vs @HK (Vs @OS @FO))
def FP:D->Option Str
 | .str x=>some x
 |_=>none
noncomputable def Sr:D->List D->Option D
 | .str a,[.str b]=>some (.bl (Txt.startswith a b))
 |_,_=>none
noncomputable def Vg:D->D->Option D
 | .str i,.str j=>some (.bl (!(Builtin.Str.occurrences j i 0 j.length 1).isEmpty))
 |_,_=>none
noncomputable def Sm:D->D->Option D
 | .str i,.str j=>some (.bl (!(!(Builtin.Str.occurrences j i 0 j.length 1).isEmpty)))
 |_,_=>none
noncomputable def vM:D->D->Option D
 | .non,.non=>some (.bl true)
 | .int _,.non=>some (.bl false)
 | .str _,.non=>some (.bl false)
 | .bl _,.non=>some (.bl false)
 | .list _,.non=>some (.bl false)
 | .tup _,.non=>some (.bl false)
 |_,_=>none
def UD:List D->Option D
 | [.str x]=>(intText? x).bind fun n=>iD (x.length<=640) (some (.int n))
 |_=>none
noncomputable def Sd:D->List D->Option D
 | .str a,[.str b]=>((Builtin.Str.occurrences a b 0 a.length 1).head?).map fun i=>.int (i:Nat)
 |_,_=>none
noncomputable def CH:List D->Option (List Bool)
 | []=>some []
 | .bl b::ds=>(CH ds).map (b :: ·)
 |_=>none
def UQ:List D->Option D
 | [.list ds]=>(CH ds).map fun bs=>.bl (bs.all id)
 |_=>none
section
variable {K:W.Frag}
theorem xl:yX K (fun x y H Q=>y = .non/\Q (.bl (decide (x = .non))) H) vM:=by
 intro x y H Q dx dy d rx ry e q;unfold vM at e;split at e
 all_goals first|(cases e;done)|skip
 .cases e;cases rx;cases ry;exact⟨rfl,q _ (by simpa using cT.bl)⟩
 .cases e;cases rx;cases ry;exact⟨rfl,q _ (by simpa using cT.bl)⟩
 .cases e;cases rx;cases ry;exact⟨rfl,q _ (by simpa using cT.bl)⟩
 .cases e;cases rx;cases ry;exact⟨rfl,q _ (by simpa using cT.bl)⟩
 .cases e;cases ry;obtain⟨p,vs,rfl,_⟩:=rx.list_inv;exact⟨rfl,q _ (by simpa using cT.bl)⟩
 .cases e;cases ry;obtain⟨p,vs,rfl,_⟩:=rx.tup_inv;exact⟨rfl,q _ (by simpa using cT.bl)⟩
def U5(a:ME) (lo hi:MO):ME:=fun S=>(a S).bind fun x=>(lo x.2).bind fun y=>(hi y.2).bind fun z=>(FP x.1).bind fun t=>iD (t.length<=dg) (some (.str (Txt.slice t y.1 z.1),z.2))
def KU:D->List D->Option (List Str)
 | .str a,[.str b]=>iD ((b.length == 0)=false/\a.length<=dg/\(Builtin.Str.partsBetween a (Builtin.Str.occurrences a b 0 a.length (a.length+1)) b.length).length<=dg/\(Txt.split a b).length<=dg) (some (Txt.split a b))
 |_,_=>none
def TY(a:ME) (as:ML):MK:=fun S=>(a S).bind fun x=>(as x.2).bind fun y=>(KU x.1 y.1).map fun ws=>(.ow (ws.map fun w=>.sh (.str w)),y.2)
noncomputable def MB(x:Str):List D:=x.cps.toList.map fun c=>.str ⟨#[c]⟩
def Vq(a:ME):MI:=fun S=>(a S).bind fun x=>(FP x.1).map fun t=>(MB t,x.2)
def Uv(x:Nat) (a:ME) (body:MS):MS:=fun S=>(a S).bind fun y=>(FP y.1).bind fun t=>fv x body (MB t) y.2
def Bs(x y:Nat) (body:MX):Nat->List D->AS->Option nX
 |_,[],S=>some (.ok (.nx S))
 |i,d::ds,S=>(body ((S.set x (some (.sh (.int i)))).set y (some (.sh d)))).bind fun o=>match o with
  | .ok (.nx S')=>Bs x y body (i+1) ds S'
  | .ok (.ct S')=>Bs x y body (i+1) ds S'
  | .ok (.bk S')=>some (.ok (.nx S'))
  | .ok (.rt a)=>some (.ok (.rt a))
  | .ex c fs=>some (.ex c fs)
def Uw(x y:Nat) (k:MK) (body:MX):MX:=fun S=>(iI k S).bind fun z=>(eP (aE z.1)).bind fun ds=>Bs x y body 0 ds z.2
theorem tF{E:XK}{ta:TA}{a:MA}{f:mv}(ha:SA K ta a):Dt K E (Gr (jR (og K f) [] E ta)) (BD f a):=by
 intro H₀ Hf₀ Hf S σ H Fs o R e D q;obtain⟨x,e1,e⟩:=oBq.mp e;obtain⟨r,e2,e⟩:=oBq.mp e;refine ha R (as:=x.1) (S':=x.2) e1 _ fun Hf1 H1 Fs1 vs Gs t1 R1 r1 o1=>?_
 obtain⟨R2,r2,t2⟩:=R1.gives t1 r1 o1;rw[aNq];exact⟨_,_,r,R2.sub,r2,e2,tK R2 e t2.sf q fun av z Hf' H' v F s1 R' ra nd fr=>by cases z;exact q _ _ _ _ R'.sf R'.fr R'.sub R'.lim ra nd fun p hp=>R2.fr.free (fr p hp)⟩
end
theorem GK:vM .non .non=some (.bl true):=rfl
theorem Ag(i:Int):vM (.int i) .non=some (.bl false):=rfl
theorem zK(x:Str):vM (.str x) .non=some (.bl false):=rfl
theorem Ei(ds:List D):vM (.list ds) .non=some (.bl false):=rfl
theorem RM(S:AS) (f:mv) (a:MA):BD f a S=(a S).bind fun x=>(f (x.1.map aE)).bind (lZ fun r=>some (.ok (.rt r))):=rfl
def UN:=Vs @GK (Vs @Ag (Vs @zK (Vs @Ei @RM)))
def SM(K:W.Frag) (te:TE) (m:ME):Prop:=∀{H₀ Hf₀ Hf:Hp}{S:AS}{σ:St}{H:Hp}{Fs:List (List Addr)}{d:D}{S':AS},bK K H₀ Hf₀ Hf S σ H Fs->m S=some (d,S')->∀Q:VK,
 (∀Hf' H' Fs' v,bB Hf Hf'->bK K H₀ Hf₀ Hf' S' σ H' Fs'->cT K Hf' d v->Q v H')->te σ H Q
def Pm:AV->Option D
 | .sh d=>some d
 |_=>none
theorem HD{a:AV}{d:D}(h:Pm a=some d):a = .sh d:=by
 unfold Pm at h;split at h <;> cases h
 rfl
def tJ(i:Nat) (b:ME):ME:=fun S=>(cJ S i).bind fun _=>(b S).bind fun y=>(intOf y.1).bind fun z=>(cJ y.2 i).bind fun avs=>iD (0<=z/\z<avs.length/\avs.length<=dg) ((avs[z.toNat]?.bind Pm).map fun d=>(d,y.2.set i (some (.ow (avs.eraseIdx z.toNat)))))
def wZ(i:Nat):ME:=fun S=>(cJ S i).bind fun avs=>(avs[avs.length-1]?.bind Pm).map fun d=>(d,S.set i (some (.ow avs.dropLast)))
noncomputable def QD(az:List (bI×D)) (k:bI):List (bI×D):=az.filter fun kv=>decide (kv.1≠k)
def Ur(i:Nat) (b:ME):ME:=fun S=>(jV S i).bind fun _=>(b S).bind fun y=>(jt y.1).bind fun key=>(jV y.2 i).bind fun az=>(getD az key).map fun d=>(d,y.2.set i (some (.owd (QD az key))))
section
variable {K:W.Frag}
theorem bu.erase{Hf H:Hp}{as:List AV}{vs:List V}{Gs:List (List Addr)}(r:bu K Hf H as vs Gs) (k:Nat):bu K Hf H (as.eraseIdx k) (vs.eraseIdx k) (Gs.eraseIdx k):=by
 obtain⟨h1,h2,h3⟩:=r;refine⟨by rw[XD,XD,h1],by rw[XD,XD,h2],fun i b w G e1 e2 e3=>?_⟩
 rw[List.getElem?_eraseIdx]at e1 e2 e3;split at e1
 .rename_i q;rw[if_pos q]at e2 e3;exact h3 i b w G e1 e2 e3
 .rename_i q;rw[if_neg q]at e2 e3;exact h3 (i+1) b w G e1 e2 e3
theorem BE{Gs:List (List Addr)}{k:Nat}(h:Gs[k]?=some []):(Gs.eraseIdx k).flatten=Gs.flatten:=by
 induction Gs generalizing k with
 |nil=>cases h
 |cons g r ih =>
  cases k with
  |zero =>
   simp at h;subst h;rfl
  |succ k =>
   rw[WS,fCq,fCq,ih (by simpa using h)]
theorem bK.lose{H₀ Hf₀ Hf H:Hp}{S:AS}{σ:St}{Fs:List (List Addr)}(R:bK K H₀ Hf₀ Hf S σ H Fs) {i k:Nat}{avs:List AV}{d:D}(h:S[i]?=some (some (.ow avs))) (hk:avs[k]?=some (.sh d)) :
  ∃p vs y F',σ[i]?=some (some (.ref p))/\H p=some (.lst vs)/\avs.length=vs.length/\vs[k]?=some y/\cT K Hf d y/\bK K H₀ Hf₀ Hf (S.set i (some (.ow (avs.eraseIdx k)))) σ (bW H p (.lst (vs.eraseIdx k))) (Fs.set i F'):=by
 obtain⟨p,vs,Gs,s1,s2,h1,h2,h3,h4,h5,h6⟩:=R.ow h;have lk:k<avs.length:=(gSq.mp hk).1;obtain⟨y,hy⟩:∃y,vs[k]?=some y:=⟨_,gEg (by rw[←h3.1];exact lk)⟩
 obtain⟨G,hG⟩:∃G,Gs[k]?=some G:=⟨_,gEg (by rw[←h3.2.1];exact lk)⟩
 obtain⟨hG0,ry⟩:=(h3.2.2 k _ _ _ hk hy hG).sh_inv;subst hG0;have hf:=BE hG;refine⟨p,vs,y,p::(Gs.eraseIdx k).flatten,s1,h1,h3.1,hy,ry,R.turn s1 s2 (by simp) (bH.news aL h2 ((h3.keepUpd h4).erase k)) ?_ ?_⟩
 .rw [hf];exact Vx.mpr ⟨h4,h5⟩
 .rw [hf];exact h6
theorem Jr{i:Nat}{tb:TE}{b:ME}(hb:SR K tb b):SM K (DO K "list" Jm (iE i) (eY tb jb)) (tJ i b):=by
 intro H₀ Hf₀ Hf S σ H Fs d S' R e Q q;obtain⟨a0,e0,e⟩:=oBq.mp e;obtain⟨y,e1,e⟩:=oBq.mp e;obtain⟨z,e2,e⟩:=oBq.mp e;obtain⟨avs,e3,e⟩:=oBq.mp e;rcases bC e with ⟨⟨z0,z1,z2⟩,e⟩|e
 .obtain ⟨d',e4,e⟩:=oMq.mp e;cases e;obtain⟨a,e4,e5⟩:=oBq.mp e4;have e5:=HD e5;subst e5;obtain⟨p,vs,Gs,s1,_,h1,_⟩:=R.ow (bh e0);refine⟨.ref p,s1,.inl ⟨rfl,vs,dJ.of h1⟩,hb R (d:=y.1) (S':=y.2) e1 _ fun Hf1 H1 Fs1 v t1 R1 r1=>?_⟩
  obtain⟨p',vs',w,F',s1',hp,hl,hw,rw',R2⟩:=R1.lose (bh e3) e4;rw[s1]at s1';cases s1';have hv:v = .int z:=by
   have:y.1 = .int z:=by
    revert e2
    unfold intOf;split <;> intro e2 <;> cases e2
    assumption
   rw[this]at r1;cases r1;rfl
  subst hv;have hz:(avs.length:Int)<=16777216:=by
   have:avs.length<=16777216:=z2;lia
  refine⟨p,vs',z,z.toNat,w,rfl,rfl,hp,by lia,by lia,?_,hw,q _ _ _ _ t1.sf R2 rw'⟩
  rw[←hl];unfold seqIndex?;have n1:¬ z<0:=by lia
  have n2:(decide (0<=z) && decide (z<(avs.length:Int)))=true:=by
   rw[decide_eq_true z0,decide_eq_true z1];rfl
  simp only[n1,if_false];exact if_pos n2
 .cases e
theorem PM{i:Nat}:SM K (DO K "list" O4 (iE i) jb) (wZ i):=by
 intro H₀ Hf₀ Hf S σ H Fs d S' R e Q q;obtain⟨avs,e0,e⟩:=oBq.mp e;obtain⟨d',e4,e⟩:=oMq.mp e;cases e;obtain⟨a,e4,e5⟩:=oBq.mp e4;have e5:=HD e5;subst e5;obtain⟨p,vs,w,F',s1,hp,hl,hw,rw',R2⟩:=R.lose (bh e0) e4;refine⟨.ref p,s1,.inl ⟨rfl,vs,dJ.of hp⟩,p,vs,w,rfl,rfl,hp,by rw[←hl];exact hw,?_⟩
 rw[pd,hl,pd]at R2;exact q _ _ _ _ (.refl _) R2 rw'
def RG(i:Nat) (m:ME):MS:=fun S=>(m S).map fun x=>.nx (x.2.set i (some (.sh x.1)))
def Uk(i:Nat) (m:ME):MS:=fun S=>(cJ S i).bind fun _=>(m S).bind fun x=>(cJ x.2 i).bind fun avs=>iD (avs.length<dg) (some (.nx (x.2.set i (some (.ow (avs++[.sh x.1]))))))
def Th(i:Nat) (b:ME) (m:ME):MS:=fun S=>(m S).bind fun x=>(jV x.2 i).bind fun _=>(b x.2).bind fun y=>(jV y.2 i).bind fun az=>(jt y.1).bind fun key =>
 iD (az.length<dg) (some (.nx (y.2.set i (some (.owd (ue az key x.1))))))
end
theorem NO(d:D):Pm (.sh d)=some d:=rfl
theorem IW(S:AS) (i:Nat) (b:ME):tJ i b S=(cJ S i).bind fun _=>(b S).bind fun y=>(intOf y.1).bind fun z=>(cJ y.2 i).bind fun avs=>iD (0<=z/\z<avs.length/\avs.length<=dg) ((avs[z.toNat]?.bind Pm).map fun d=>(d,y.2.set i (some (.ow (avs.eraseIdx z.toNat))))):=rfl
theorem Nr(S:AS) (i:Nat):wZ i S=(cJ S i).bind fun avs=>(avs[avs.length-1]?.bind Pm).map fun d=>(d,S.set i (some (.ow avs.dropLast))):=rfl
def U4:=Vs @NO (Vs @IW @Nr)
def ES(x y:D):Option D:=match x with
 | .tup _=>NA x y
 |_=>sD x y
def GS:MF:=fun _=>none
def UP(i:Nat) (b:ME) (k:MK):MS:=fun S=>(cJ S i).bind fun _=>(b S).bind fun y=>(intOf y.1).bind fun z=>(iI k y.2).bind fun x=>(cJ x.2 i).bind fun avs=>iD (0<=z/\z<=avs.length/\avs.length<dg) (some (.nx (x.2.set i (some (.ow (avs.take z.toNat++x.1::avs.drop z.toNat))))))
section
variable {K:W.Frag}
theorem HE:yX K (fun x y H Q=>Fd K x y H Q∨NB K x y H Q) ES:=by
 intro x y H Q dx dy d rx ry e q;unfold ES at e;split at e
 .exact .inr (NT rx ry e q)
 .exact .inl (lY rx ry e q)
theorem L9{P:Program}{w:World}{mg:Str->Option Value}{base:Heap}{k:Nat}{x:Str}{st:Stmt}{ps:List Str}{f:Addr}{fd:FuncData}(D:fU K mg x st ps f fd):Fn P w K mg base k x st ps (bR K GS) f fd :=
 ⟨D,⟨fun vs H Q E h=>(by obtain⟨Hf,ds,a,s,r,e,q⟩:=h;cases e),fun A outer s H args us vs Q E _ _ _ _ h=>(by obtain⟨Hf,ds,a,s,r,e,q⟩:=h;cases e)⟩⟩
end
theorem Eb(ds:List D) (i:Int):ES (.list ds) (.int i)=atI ds i:=rfl
theorem Hh(ds:List D) (i:Int):ES (.tup ds) (.int i)=atI ds i:=rfl
def U8:=Vs @Eb @Hh
noncomputable def vJ:List D->Option D
 | [.int _,.ty T]=>if T = "list" ∨ T = "tuple" ∨ T = "str" then some (.bl false) else none
 | [.str _,.ty T]=>if T = "list" ∨ T = "tuple" then some (.bl false) else none
 | [.non,.ty T]=>if T = "list" ∨ T = "tuple" then some (.bl false) else none
 | [.list _,.ty T]=>if T = "tuple" then some (.bl false) else none
 | [.tup _,.ty T]=>if T = "list" then some (.bl false) else none
 |_=>none
def eT(ds:List D):Option D:=match oV ds with
 |some d=>some d
 |none=>vJ ds
section
variable {K:W.Frag}
theorem N9:Oz K (fun xs H Q=>∃x T,xs=[x,.ty T]/\Ng K x H T/\Q (.bl false) H) vJ:=by
 intro vs H Q ds d r e q;unfold vJ at e;split at e
 all_goals first|(exact absurd e (fun z=>by cases z))|skip
 all_goals
  obtain⟨v,ws,rfl,h1,h2⟩:=r.cons_inv;obtain⟨u,zs,rfl,h3,h4⟩:=h2.cons_inv;rw[h4.nil_inv];cases h3;split at e
 all_goals first|(cases e;done)|skip
 all_goals
  rename_i hT;cases e
 .cases h1;exact⟨_,_,rfl,hT,q _ .bl⟩
 .cases h1;exact⟨_,_,rfl,hT,q _ .bl⟩
 .cases h1;exact⟨_,_,rfl,hT,q _ .bl⟩
 .obtain ⟨p,xs,rfl,h,_⟩:=h1.list_inv;exact⟨_,_,rfl,.inl ⟨hT,xs,dJ.of h⟩,q _ .bl⟩
 .obtain ⟨p,xs,rfl,h,_⟩:=h1.tup_inv;exact⟨_,_,rfl,.inr ⟨hT,xs,vH.of h⟩,q _ .bl⟩
theorem ka:Oz K (fun xs H Q=>(∃x T b,xs=[x,.ty T]/\O3 K x H T b/\Q (.bl b) H)∨∃x T,xs=[x,.ty T]/\Ng K x H T/\Q (.bl false) H) eT:=by
 intro vs H Q ds d r e q;unfold eT at e;split at e
 .rename_i e';cases e;exact .inl (Ou r e' q)
 .exact .inr (N9 r e q)
end
theorem ON(ds:List D):eT [.list ds,.ty "list"]=some (.bl true):=by simp[eT,oV]
theorem NF(ds:List D):eT [.list ds,.ty "tuple"]=some (.bl false):=by simp[eT,oV,vJ]
theorem N8(ds:List D):eT [.tup ds,.ty "list"]=some (.bl false):=by simp[eT,oV,vJ]
theorem NC(ds:List D):eT [.tup ds,.ty "tuple"]=some (.bl true):=by simp[eT,oV]
theorem Pj(x:Str):eT [.str x,.ty "list"]=some (.bl false):=by simp[eT,oV,vJ]
theorem NL(x:Str):eT [.str x,.ty "tuple"]=some (.bl false):=by simp[eT,oV,vJ]
theorem PN(x:Str):eT [.str x,.ty "str"]=some (.bl true):=by simp[eT,oV]
theorem Oo(i:Int):eT [.int i,.ty "list"]=some (.bl false):=by simp[eT,oV,vJ]
theorem PD(i:Int):eT [.int i,.ty "tuple"]=some (.bl false):=by simp[eT,oV,vJ]
theorem NP(i:Int):eT [.int i,.ty "str"]=some (.bl false):=by simp[eT,oV,vJ]
theorem Pg(i:Int):eT [.int i,.ty "int"]=some (.bl true):=by simp[eT,oV]
theorem Oc(i:Int):eT [.int i,.ty "bool"]=some (.bl false):=by simp[eT,oV]
def Vd:=Vs @ON (Vs @NF (Vs @N8 (Vs @NC (Vs @Pj (Vs @NL (Vs @PN (Vs @Oo (Vs @PD (Vs @NP (Vs @Pg @Oc))))))))))
section
variable {K:W.Frag}{H₀ Hf₀ Hf H:Hp}{S:AS}{σ:St}{Fs:List (List Addr)}{te tb:TE}{k:MK}{b:ME}
def NS(b:ME) (k:MK):MK:=fun S=>(b S).bind fun y=>(iI k y.2).bind fun x=>(jt y.1).map fun key=>(.owd [(key,aE x.1)],x.2)
theorem Lz{i:Nat}:SM K (Qp K "list" O4 (iE i)) (wZ i):=PM
noncomputable def Nb:List (bI×D)->Option (List Int)
 | []=>some []
 | (.inl i,_)::r=>(Nb r).map (i :: ·)
 |_=>none
def O7(a:ME):MK:=fun S=>(a S).bind fun x=>match x.1 with
 | .dict az=>(Nb az).map fun ns=>(.ow ((nQ ns).map fun n=>.sh (.int n)),x.2)
 |_=>none
end
noncomputable def Jv:D->Option V
 | .non=>some .non
 | .bl b=>some (.bl b)
 | .int i=>some (.int i)
 | .str s=>some (.str s)
 |_=>none
def rh:List D->Option (List V)
 | []=>some []
 |d::ds=>(Jv d).bind fun v=>(rh ds).map (v :: ·)
noncomputable def Nq:D->Option (List D)
 | .list ds=>some ds
 | .tup ds=>some ds
 |_=>none
def qp(neg:Bool) (x y:D):Option D:=(Jv x).bind fun v=>(Nq y).bind fun ds=>(rh ds).map fun vs=>.bl (if neg then !P3 v vs else P3 v vs)
section
variable {K:W.Frag}{te:TE}
theorem wV{H:Hp}{d:D}{v w:V}(e:Jv d=some v) (r:cT K H d w):w=v/\oa v=true:=by
 cases d <;> first|(cases e;cases r;exact⟨rfl,rfl⟩)|cases e
theorem nq{H:Hp}:∀{ds:List D}{vs ws:List V},rh ds=some vs->bY K H ds ws->ws=vs/\vs.all oa=true
 | [],vs,ws,e,r=>by
  cases e;exact⟨r.nil_inv,rfl⟩
 |d::ds,vs,ws,e,r=>by
  obtain⟨v,e1,e⟩:=oBq.mp e;obtain⟨us,e2,rfl⟩:=oMq.mp e;obtain⟨w,ws',rfl,r1,r2⟩:=r.cons_inv;obtain⟨rfl,f1⟩:=wV e1 r1;obtain⟨rfl,f2⟩:=nq e2 r2;exact⟨rfl,by rw[Y4,f1,f2];rfl⟩
theorem oC(neg:Bool):yX K (Tn K neg) (qp neg):=by
 intro x y H Q dx dy d rx ry e q;obtain⟨v,e1,e⟩:=oBq.mp e;obtain⟨ds,e2,e⟩:=oBq.mp e;obtain⟨vs,e3,e⟩:=oMq.mp e;subst e;obtain⟨rfl,f1⟩:=wV e1 rx;cases dy with
 |list xs =>
  cases e2;obtain⟨p,us,rfl,h1,h2⟩:=ry.list_inv;obtain⟨rfl,f2⟩:=nq e3 h2;exact⟨p,us,rfl,.inl (dJ.of h1),f1,f2,q _ .bl⟩
 |tup xs =>
  cases e2;obtain⟨p,us,rfl,h1,h2⟩:=ry.tup_inv;obtain⟨rfl,f2⟩:=nq e3 h2;exact⟨p,us,rfl,.inr (vH.of h1),f1,f2,q _ .bl⟩
 |_=>cases e2
end
theorem Aj(ns:List Int):rh (ns.map D.int)=some (ns.map V.int):=by
 induction ns with
 |nil=>rfl
 |cons n ns ih=>rw[VG,rh,ih];rfl
theorem IA(i:Int) (ns:List Int):P3 (.int i) (ns.map V.int)=decide (i∈ns):=by
 unfold P3
 induction ns with
 |nil=>rfl
 |cons n ns ih =>
  rw[VG,Xm,ih];show (n == i || decide (i∈ns))=_
  by_cases h:i=n
  .subst h;simp
  .have h':¬ n=i:=fun z=>h z.symm
   simp[h,h']
theorem uq(neg:Bool) (i:Int) (ns:List Int):qp neg (.int i) (.list (ns.map D.int))=some (.bl (if neg then !decide (i∈ns) else decide (i∈ns))):=by
 show (rh (ns.map D.int)).map _=_;rw[Aj,W6,IA]
noncomputable def yd(tf:MT) (te:MK) (cap:AS):List (D×D)->Option (List AV)
 | []=>some []
 |d::ds=>(tf (some (.sh d.1)::some (.sh d.2)::cap)).bind fun b=>if b.1=true then (te b.2).bind fun a=>(yd tf te cap ds).map (a.1 :: ·) else yd tf te cap ds
noncomputable def M5:Nat->List D->List (D×D)
 |_,[]=>[]
 |n,d::ds=>(.int (n:Int),d)::M5 (n+1) ds
def SD(k:MK) (fr:List Nat) (tf:MT) (te:MK):MK:=fun S=>(iI k S).bind fun y=>(eP (aE y.1)).bind fun ds=>(fzAll fr y.2).bind fun S2=>(vT S2 fr).bind fun cap=>iD (ds.length<=dg) ((yd tf te cap (M5 0 ds)).map fun avs=>(.ow avs,S2))
def U3:=@uq
section
variable {K:W.Frag}{H₀ Hf₀ Hf Hf' H H':Hp}{S S':AS}{σ σ':St}{Fs Fs':List (List Addr)}
theorem vI.same(s:bB H H'):∀{path:List Nat}{v w:V},vI H v path w->vI H' v path w
 | [],v,w,h=>h
 |j::js,v,w,⟨p,vs,u,h1,h2,h3,h4⟩=>⟨p,vs,u,h1,s _ _ h2,h3,vI.same s h4⟩
theorem vI.one:∀{path:List Nat}{v w w':V},vI H v path w->vI H v path w'->w=w'
 | [],v,w,w',h,h'=>h.symm.trans h'
 |j::js,v,w,w',⟨p,vs,u,h1,h2,h3,h4⟩,⟨p',vs',u',g1,g2,g3,g4⟩=>by
  rw[h1]at g1;cases g1;rw[h2]at g2;cases g2;rw[h3]at g3;cases g3;exact h4.one g4
theorem vI.snoc:∀{path:List Nat}{v:V}{p:Addr}{vs:List V}{n:Nat}{u:V},vI H v path (.ref p)->H p=some (.lst vs)->vs[n]?=some u->vI H v (path++[n]) u
 | [],v,p,vs,n,u,h,h1,h2=>⟨p,vs,u,h,h1,h2,rfl⟩
 |j::js,v,p,vs,n,u,⟨p',vs',u',g1,g2,g3,g4⟩,h1,h2=>⟨p',vs',u',g1,g2,g3,g4.snoc h1 h2⟩
theorem vI.kept:∀{path:List Nat}{av:AV}{v w:V}{F:List Addr}{as:List AV},bH K Hf H av v F->bF av path=some as->vI H v path w->(∀q∈F,H' q=H q)->vI H' v path w
 | [],av,v,w,F,as,_,_,h,_=>h
 |j::js,av,v,w,F,as,r,e,⟨p,vs,u,h1,h2,h3,h4⟩,hk=>by
  cases av with
  |ow avs =>
   obtain⟨p',vs',Gs,e1,e2,e3,e4,e5⟩:=r.ow_inv;rw[h1]at e1;cases e1;rw[h2]at e3;cases e3;obtain⟨a,ea,e⟩:=oBq.mp (show (avs[j]?).bind (fun a=>bF a js)=some as from e)
   have hj:j<avs.length:=(gSq.mp ea).1;have hG:=gEg (e5.2.1 ▸ hj);have rj:=e5.2.2 j a u _ ea h3 hG;refine⟨p,vs,u,h1,by rw[hk p (by rw[e2];simp)];exact h2,h3,h4.kept rj e fun q hq=>hk q ?_⟩
   rw[e2];exact mCo _ (bT hG hq)
  |_=>cases e
noncomputable def Sb(H₀ H:Hp) (F:List Addr):Hp:=fun b=>if b∈F then H b else H₀ b
theorem yG{F:List Addr}{b:Addr}(h:b∈F):Sb H₀ H F b=H b:=if_pos h
theorem nH{F:List Addr}{b:Addr}(h:b∉F):Sb H₀ H F b=H₀ b:=if_neg h
theorem bK.frame(R:bK K H₀ Hf₀ Hf S σ H Fs) {i:Nat}{F:List Addr}(s2:Fs[i]?=some F):bK K (Sb H₀ H F) Hf₀ Hf (S.set i none) σ H (Fs.set i []):=by
 have R1:=R.kill i;have hF:∀q∈F,q∈Fs.flatten:=fun q hq=>bT s2 hq
 refine⟨R1.len,R1.lenF,R1.rep,R1.emp,R1.nd,fun p hp=>?_,R1.sub,fun b u e=>?_,fun b h1 h2=>?_,R1.sf⟩
 .have hn:p∉F:=fun z=>gF R.nd s2 z hp
  rw[nH hn];exact R1.fresh p hp
 .by_cases hb:b∈F
  .rw [yG hb]at e;exact e
  .rw [nH hb]at e;exact R.fr b u e
 .by_cases hb:b∈F
  .exact (R.mem (hF b hb)).2
  .rw [nH hb]at h2;exact R.lim b h1 h2
theorem BO{α:Type}{l:List α}{i:Nat}{a:α}(h:l[i]?=some a):l.set i a=l:=by
 obtain⟨hk,ev⟩:=gSq.mp h;rw[←ev];exact Xw hk
theorem bK.unframe(R:bK K H₀ Hf₀ Hf S σ H Fs) {i:Nat}{av:AV}{v:V}{F:List Addr}(s2:Fs[i]?=some F) (r:bH K Hf H av v F) (nd:F.Nodup) (h0:∀q∈F,H₀ q=none)
  (R':bK K (Sb H₀ H F) Hf₀ Hf' S' σ' H' Fs') (e':S'[i]?=some none) (s1:σ'[i]?=some (some v)) (sf:bB Hf Hf') :
  (∀q∈F,H' q=H q)/\bH K Hf' H' av v F/\bK K H₀ Hf₀ Hf' (S'.set i (some av)) σ' H' (Fs'.set i F):=by
 have hk:∀q∈F,H' q=H q:=fun q hq=>by
  have hn:=(R.mem (bT s2 hq)).1;cases hu:H q with
  |none=>exact absurd hu hn
  |some u=>exact R'.fr q u (by rw[yG hq];exact hu)
 have hf:∀q∈F,Hf' q=none:=fun q hq=>by
  have hm:=R.mem (bT s2 hq);refine R'.lim q ?_ (by rw[yG hq];exact hm.1)
  cases hz:Hf₀ q with
  |none=>rfl
  |some u=>rw[R.sf q u hz]at hm;exact absurd hm.2 (by simp)
 have r':=r.keep sf hk hf;refine⟨hk,r',?_⟩;have R1:bK K H₀ Hf₀ Hf' (S'.set i none) σ' H' (Fs'.set i []):=by
  rw[BO e',BO (R'.emp i e')];refine⟨R'.len,R'.lenF,R'.rep,R'.emp,R'.nd,fun p hp=>?_,R'.sub,fun b u e=>?_,fun b h1 h2=>?_,R'.sf⟩
  .have:=R'.fresh p hp
   by_cases hb:p∈F
   .exact h0 p hb
   .rwa [nH hb]at this
  .refine R'.fr b u ?_;rw[nH fun z=>by rw[h0 b z]at e;cases e]
   exact e
  .refine R'.lim b h1 ?_;rw[nH fun z=>h2 (h0 b z)]
   exact h2
 refine R1.again (F:=F) s1 r' nd fun q hq=>⟨h0 q hq,fun m=>?_⟩
 rw[BO (R'.emp i e')]at m;have:=R'.fresh q m;rw[yG hq]at this;exact(R.mem (bT s2 hq)).1 this
end
abbrev MP:=AS->Option (List Nat×AS)
def Bb(i:Nat):MP:=fun S=>(cJ S i).map fun _=>([],S)
def JM(i:Nat) (pf:MP) (b:ME):MP:=fun S=>(pf S).bind fun x=>(b x.2).bind fun y=>(intOf y.1).bind fun j=>(cJ y.2 i).bind fun avs=>(bF (.ow avs) x.1).bind fun as=>(yT as.length j).map fun n=>(x.1++[n],y.2)
def P2(K:W.Frag) (i:Nat) (te:TE) (pf:MP):Prop:=∀{H₀ Hf₀ Hf:Hp}{S:AS}{σ:St}{H:Hp}{Fs:List (List Addr)}{path:List Nat}{S':AS},bK K H₀ Hf₀ Hf S σ H Fs->pf S=some (path,S')->∀Q:VK,
 (∀Hf' H' Fs' v w,nW Hf H Fs Hf' H' Fs'->bK K H₀ Hf₀ Hf' S' σ H' Fs'->σ[i]?=some (some v)->vI H' v path w->Q w H')->te σ H Q
section
variable {K:W.Frag}
theorem xI(i:Nat):P2 K i (iE i) (Bb i):=by
 intro H₀ Hf₀ Hf S σ H Fs path S' R e Q q;obtain⟨avs,e1,e⟩:=oMq.mp e;cases e;obtain⟨p,vs,Gs,s1,_⟩:=R.ow (bh e1);exact⟨_,s1,q _ _ _ _ _ .refl R s1 rfl⟩
theorem jc{H₀ Hf₀ Hf H:Hp}{S:AS}{σ:St}{Fs:List (List Addr)}{i:Nat}{avs as:List AV}{path:List Nat}{v w:V}(R:bK K H₀ Hf₀ Hf S σ H Fs) (e:S[i]?=some (some (.ow avs))) (s1:σ[i]?=some (some v)) (en:bF (.ow avs) path=some as) (h:vI H v path w) :
  ∃p vs,w = .ref p/\H p=some (.lst vs)/\vs.length=as.length:=by
 obtain⟨v',F,t1,t2,r,nd,_⟩:=R.move e;rw[s1]at t1;cases t1;obtain⟨p,vs,Gs,g1,g2,g3,g4,_⟩:=r.path nd en;exact⟨p,vs,h.one g1,g2,g4.1.symm⟩
theorem ud{i:Nat}{te tb:TE}{pf:MP}{b:ME}(hp:P2 K i te pf) (hb:SR K tb b):P2 K i (Lb (Fd K) te tb) (JM i pf b):=by
 intro H₀ Hf₀ Hf S σ H Fs path S' R e Q q;obtain⟨x,e1,e⟩:=oBq.mp e;obtain⟨y,e2,e⟩:=oBq.mp e;obtain⟨j,e3,e⟩:=oBq.mp e;obtain⟨avs,e4,e⟩:=oBq.mp e;obtain⟨as,e5,e⟩:=oBq.mp e;obtain⟨n,e6,e⟩:=oMq.mp e;cases e;refine hp R (path:=x.1) (S':=x.2) e1 _ fun Hf1 H1 Fs1 v w t1 R1 s1 a1=>hb R1 (d:=y.1) (S':=y.2) e2 _ fun Hf2 H2 Fs2 u t2 R2 r2=>?_
 have hy:y.1 = .int j:=by
  cases hx:y.1 <;> rw[hx]at e3 <;> first|(cases e3;rfl)|cases e3
 rw[hy]at r2;cases r2;have a2:=a1.same t2.sh;obtain⟨p,vs,rfl,h1,h2⟩:=jc R2 (bh e4) s1 e5 a2;have hix:=e6;obtain⟨_,hn,_⟩:=Cw e6;have hn':n<vs.length:=by rw[h2];exact hn
 obtain⟨u,hv⟩:∃u,vs[n]?=some u:=⟨_,gEg hn'⟩;refine⟨p,vs,j,u,rfl,rfl,dJ.of h1,?_,q _ _ _ v _ (t1.trans t2) R2 s1 (a2.snoc h1 hv)⟩;unfold atI;rw[h2,e6];exact hv
end
section
variable {K:W.Frag}
theorem bK.grow{H₀ Hf₀ Hf H:Hp}{S:AS}{σ:St}{Fs:List (List Addr)}{i:Nat}{avs as:List AV}{path:List Nat}{v:V}{p:Addr}(R:bK K H₀ Hf₀ Hf S σ H Fs) (e:S[i]?=some (some (.ow avs))) (s1:σ[i]?=some (some v)) (en:bF (.ow avs) path=some as) (h:vI H v path (.ref p)) :
  ∃vs,H p=some (.lst vs)/\as.length=vs.length/\∀(bs:List AV) (ws:List V) (Gs:List (List Addr)),bu K Hf H bs ws Gs->Gs.flatten.Nodup->(∀q∈Gs.flatten,H₀ q=none/\q∉Fs.flatten) ->
   ∃Fs',bK K H₀ Hf₀ Hf (S.set i (some (putAt (.ow avs) path (as++bs)))) σ (bW H p (.lst (vs++ws))) Fs':=by
 obtain⟨v',F,t1,t2,r,nd,oo,_⟩:=R.move e;rw[s1]at t1;cases t1;obtain⟨p',vs,Es,g1,g2,g3,g4,g5,g6,g6',g7,g8⟩:=r.path nd en;have hpp:V.ref p=V.ref p':=h.one g1;cases hpp;refine⟨vs,g2,g4.1,fun bs ws Gs rb nG oG=>?_⟩
 have pG:p∉Gs.flatten:=fun m=>(oG p m).2 (bT t2 g5)
 have hfl:(Es++Gs).flatten=Es.flatten++Gs.flatten:=fAq;obtain⟨F',k1,k2,k3⟩:=g8 (as++bs) (vs++ws) (Es++Gs) ((g4.keepUpd g6).append (rb.keepUpd pG)) (by
  rw[hfl];refine Vx.mpr ⟨fun m=>(mAq.mp m).elim g6 pG,nAq.mpr ⟨g6',nG,fun a ha b hb z=>(oG b hb).2 (bT t2 (g7 b (z ▸ ha)))⟩⟩) (fun q hq=>by
  rw[hfl]at hq;exact(mAq.mp hq).imp id fun m z=>(oG q m).2 (bT t2 z))
 refine⟨_,R.turnAny s1 t2 g5 k1 k2 fun q hq=>?_⟩
 rcases k3 q hq with z|z
 .exact oo q z
 .rw [hfl]at z;rcases mAq.mp z with z|z
  .exact oo q (g7 q z)
  .exact ⟨(oG q z).1,fun m=>(oG q z).2 (cF m)⟩
def Cq(i:Nat) (pf:MP) (k:MK):MS:=fun S=>(pf S).bind fun x=>(cJ x.2 i).bind fun a0=>(bF (.ow a0) x.1).bind fun _=>(k x.2).bind fun y=>(cJ y.2 i).bind fun avs=>(bF (.ow avs) x.1).bind fun as=>iD (as.length<dg) (some (.nx (y.2.set i (some (putAt (.ow avs) x.1 (as++[y.1]))))))
theorem Ll{i:Nat}{tp te:TE}{pf:MP}{k:MK}(hp:P2 K i tp pf) (hk:SK K te k):SS K (mh (DO K "list" ny tp (eY te jb))) (Cq i pf k):=by
 intro H₀ Hf₀ Hf S σ H Fs o R e D h;obtain⟨x,e1,e⟩:=oBq.mp e;obtain⟨a0,e2,e⟩:=oBq.mp e;obtain⟨n0,e3,e⟩:=oBq.mp e;obtain⟨y,e4,e⟩:=oBq.mp e;obtain⟨avs,e5,e⟩:=oBq.mp e;obtain⟨as,e6,e⟩:=oBq.mp e;rcases bC e with ⟨hl,e⟩|e
 .cases e;refine hp R (path:=x.1) (S':=x.2) e1 _ fun Hf1 H1 Fs1 v w t1 R1 s1 a1=>?_
  obtain⟨p,vs,rfl,h1,h2⟩:=jc R1 (bh e2) s1 e3 a1;refine⟨.inl ⟨rfl,vs,dJ.of h1⟩,hk R1 (a:=y.1) (S':=y.2) e4 _ fun Hf2 H2 Fs2 u F t2 R2 r2 o2=>?_⟩
  obtain⟨vs',g1,g2,g3⟩:=R2.grow (bh e5) s1 e6 (a1.same t2.sh);obtain⟨Fs',R3⟩:=g3 [y.1] [u] [F] (bu.nil.snoc r2) (by rw[VZ];exact o2.nd) (fun q hq=>by rw[VZ]at hq;exact⟨o2.fr q hq,o2.out q hq⟩)
  exact⟨p,vs',u,rfl,rfl,g1,by rw[gC,←g2];exact hl,h _ _ _ _ (t1.sf.trans t2.sf) R3⟩
 .cases e
def Io(i:Nat) (pf:MP) (l:ML):MS:=fun S=>(pf S).bind fun x=>(cJ x.2 i).bind fun a0=>(bF (.ow a0) x.1).bind fun _=>(l x.2).bind fun y=>(cJ y.2 i).bind fun avs=>(bF (.ow avs) x.1).bind fun as=>iD (as.length+y.1.length<=dg) (some (.nx (y.2.set i (some (putAt (.ow avs) x.1 (as++y.1.map .sh))))))
theorem JW{i:Nat}{tp te:TE}{pf:MP}{l:ML}(hp:P2 K i tp pf) (hk:SL K te l):SS K (mh (DO K "list" sW tp (eY te jb))) (Io i pf l):=by
 intro H₀ Hf₀ Hf S σ H Fs o R e D h;obtain⟨x,e1,e⟩:=oBq.mp e;obtain⟨a0,e2,e⟩:=oBq.mp e;obtain⟨n0,e3,e⟩:=oBq.mp e;obtain⟨y,e4,e⟩:=oBq.mp e;obtain⟨avs,e5,e⟩:=oBq.mp e;obtain⟨as,e6,e⟩:=oBq.mp e;rcases bC e with ⟨hl,e⟩|e
 .cases e;refine hp R (path:=x.1) (S':=x.2) e1 _ fun Hf1 H1 Fs1 v w t1 R1 s1 a1=>?_
  obtain⟨p,vs,rfl,h1,h2⟩:=jc R1 (bh e2) s1 e3 a1;refine⟨.inl ⟨rfl,vs,dJ.of h1⟩,hk R1 (ds:=y.1) (S':=y.2) e4 _ fun Hf2 H2 Fs2 b ws t2 R2 hb r2=>?_⟩
  obtain⟨vs',g1,g2,g3⟩:=R2.grow (bh e5) s1 e6 (a1.same t2.sh);obtain⟨Fs',R3⟩:=g3 (y.1.map .sh) ws (VM y.1.length []) (xo r2) (by rw[eJ];exact V6) (fun q hq=>by rw[eJ]at hq;cases hq)
  exact⟨p,b,vs',ws,rfl,rfl,g1,hb,by rw[gC,←g2,←r2.1];exact hl,h _ _ _ _ (t1.sf.trans t2.sf) R3⟩
 .cases e
def Ul(x i:Nat) (path:List Nat) (S:AS) (σ:St) (H:Hp):Prop:=∃v p avs as,S[i]?=some (some (.ow avs))/\bF (.ow avs) path=some as/\σ[x]?=some (some (.ref p))/\σ[i]?=some (some v)/\vI H v path (.ref p)
def FA(K:W.Frag) (x i:Nat) (t:TS) (m:List Nat->MS):Prop:=∀{path:List Nat}{H₀ Hf₀ Hf:Hp}{S:AS}{σ:St}{H:Hp}{Fs:List (List Addr)}{o:wo},bK K H₀ Hf₀ Hf S σ H Fs->Ul x i path S σ H->m path S=some o->∀D:ja,qH K H₀ Hf₀ Hf D o->t D σ H
def Kl(x i:Nat) (pf:MP) (m:List Nat->MS):MS:=fun S=>(pf S).bind fun y=>(cJ y.2 i).bind fun avs=>(bF (.ow avs) y.1).bind fun _=>iD (x≠i/\x<y.2.length) (m y.1 (y.2.set x none))
theorem OV{x i:Nat}{te:TE}{pf:MP}{t:TS}{m:List Nat->MS}(hp:P2 K i te pf) (hm:FA K x i t m):SS K (BJ (IZ te (gI x)) t) (Kl x i pf m):=by
 intro H₀ Hf₀ Hf S σ H Fs o R e D h;obtain⟨y,e1,e⟩:=oBq.mp e;obtain⟨avs,e2,e⟩:=oBq.mp e;obtain⟨as,e3,e⟩:=oBq.mp e;rcases bC e with ⟨⟨hne,hlt⟩,e⟩|e
 .refine hp R (path:=y.1) (S':=y.2) e1 _ fun Hf1 H1 Fs1 v w t1 R1 s1 a1=>?_
  obtain⟨p,vs,rfl,h1,h2⟩:=jc R1 (bh e2) s1 e3 a1;have R2:=(R1.kill x).any (V.ref p);refine hm R2 ⟨v,p,avs,as,?_,e3,?_,?_,a1⟩ e D (h.mono t1.sf)
  .rw [VA hne];exact bh e2
  .exact VS (by rw[←R1.len];exact hlt)
  .rw [VA hne];exact s1
 .cases e
theorem MQ{x i:Nat}{t:TS}{m:MS}(h:SS K t m):FA K x i t (fun _=>m):=fun R _ e D o=>h R e D o
theorem Gp{x i:Nat}{t u:TS}{a:List Nat->MS}{b:MS}(ha:FA K x i t a) (hb:SS K u b):FA K x i (BJ t u) (fun path=>aJ (a path) b):=by
 intro path H₀ Hf₀ Hf S σ H Fs o R A e D h;obtain⟨y,e1,e⟩:=oBq.mp e;refine ha R A e1 _ ?_;cases y with
 |nx S'=>exact fun Hf' σ' H' Fs' s R'=>hb R' e D (h.mono s)
 |rt a=>cases e;exact h
 |bk a=>cases e;exact h
 |ct a=>cases e;exact h
def vK(i:Nat) (c:MT) (a b:List Nat->MS):List Nat->MS:=fun path S=>(c S).bind fun y=>(cJ y.2 i).bind fun avs=>(bF (.ow avs) path).bind fun _=>if y.1=true then a path y.2 else b path y.2
theorem Co{x i:Nat}{c:TT}{m:MT}{t u:TS}{a b:List Nat->MS}(hc:xj K c m) (ha:FA K x i t a) (hb:FA K x i u b):FA K x i (HV c t u) (vK i m a b):=by
 intro path H₀ Hf₀ Hf S σ H Fs o R A e D h;obtain⟨y,e1,e⟩:=oBq.mp e;obtain⟨avs,e2,e⟩:=oBq.mp e;obtain⟨as,e3,e⟩:=oBq.mp e;obtain⟨v,p,_,_,_,_,s2,s1,at0⟩:=A;refine hc R (b:=y.1) (S':=y.2) e1 _ fun Hf1 H1 Fs1 t1 R1=>?_
 have A1:Ul x i path y.2 σ H1:=⟨v,p,avs,as,bh e2,e3,s2,s1,at0.same t1.sh⟩;split at e
 .rename_i hx;rw[hx];exact zR (ha R1 A1 e D (h.mono t1.sf))
 .rename_i hx;rw[W1]at hx;rw[hx];exact yZ (hb R1 A1 e D (h.mono t1.sf))
def Cg(i:Nat) (k:MK):List Nat->MS:=fun path S=>(k S).bind fun y=>(cJ y.2 i).bind fun avs=>(bF (.ow avs) path).bind fun as=>iD (as.length<dg) (some (.nx (y.2.set i (some (putAt (.ow avs) path (as++[y.1]))))))
theorem PP{x i:Nat}{te:TE}{k:MK}(hk:SK K te k):FA K x i (mh (DO K "list" ny (iE x) (eY te jb))) (Cg i k):=by
 intro path H₀ Hf₀ Hf S σ H Fs o R A e D h;obtain⟨y,e4,e⟩:=oBq.mp e;obtain⟨avs,e5,e⟩:=oBq.mp e;obtain⟨as,e6,e⟩:=oBq.mp e;rcases bC e with ⟨hl,e⟩|e
 .cases e;obtain⟨v,p,a0,n0,e2,e3,s2,s1,at0⟩:=A;obtain⟨p',vs,hp,h1,h2⟩:=jc R e2 s1 e3 at0;cases hp;refine⟨.ref p,s2,.inl ⟨rfl,vs,dJ.of h1⟩,hk R (a:=y.1) (S':=y.2) e4 _ fun Hf2 H2 Fs2 u F t2 R2 r2 o2=>?_⟩
  obtain⟨vs',g1,g2,g3⟩:=R2.grow (bh e5) s1 e6 (at0.same t2.sh);obtain⟨Fs',R3⟩:=g3 [y.1] [u] [F] (bu.nil.snoc r2) (by rw[VZ];exact o2.nd) (fun q hq=>by rw[VZ]at hq;exact⟨o2.fr q hq,o2.out q hq⟩)
  exact⟨p,vs',u,rfl,rfl,g1,by rw[gC,←g2];exact hl,h _ _ _ _ t2.sf R3⟩
 .cases e
def DC(i:Nat) (l:ML):List Nat->MS:=fun path S=>(l S).bind fun y=>(cJ y.2 i).bind fun avs=>(bF (.ow avs) path).bind fun as=>iD (as.length+y.1.length<=dg) (some (.nx (y.2.set i (some (putAt (.ow avs) path (as++y.1.map .sh))))))
theorem N2{x i:Nat}{te:TE}{l:ML}(hk:SL K te l):FA K x i (mh (DO K "list" sW (iE x) (eY te jb))) (DC i l):=by
 intro path H₀ Hf₀ Hf S σ H Fs o R A e D h;obtain⟨y,e4,e⟩:=oBq.mp e;obtain⟨avs,e5,e⟩:=oBq.mp e;obtain⟨as,e6,e⟩:=oBq.mp e;rcases bC e with ⟨hl,e⟩|e
 .cases e;obtain⟨v,p,a0,n0,e2,e3,s2,s1,at0⟩:=A;obtain⟨p',vs,hp,h1,h2⟩:=jc R e2 s1 e3 at0;cases hp;refine⟨.ref p,s2,.inl ⟨rfl,vs,dJ.of h1⟩,hk R (ds:=y.1) (S':=y.2) e4 _ fun Hf2 H2 Fs2 b ws t2 R2 hb r2=>?_⟩
  obtain⟨vs',g1,g2,g3⟩:=R2.grow (bh e5) s1 e6 (at0.same t2.sh);obtain⟨Fs',R3⟩:=g3 (y.1.map .sh) ws (VM y.1.length []) (xo r2) (by rw[eJ];exact V6) (fun q hq=>by rw[eJ]at hq;cases hq)
  exact⟨p,b,vs',ws,rfl,rfl,g1,hb,by rw[gC,←g2,←r2.1];exact hl,h _ _ _ _ t2.sf R3⟩
 .cases e
def yP(i:Nat) (mm:ME):List Nat->MS:=fun path S=>(cJ S i).bind fun avs=>(bF (.ow avs) path).bind fun as=>(mm (S.set i none)).bind fun y=>iD (y.2[i]?=some none/\as.length<dg) (some (.nx (y.2.set i (some (putAt (.ow avs) path (as++[.sh y.1]))))))
theorem LS{x i:Nat}{te:TE}{mm:ME}(hk:SM K te mm):FA K x i (mh (DO K "list" ny (iE x) (eY te jb))) (yP i mm):=by
 intro path H₀ Hf₀ Hf S σ H Fs o R A e D h;obtain⟨avs,e2,e⟩:=oBq.mp e;obtain⟨as,e3,e⟩:=oBq.mp e;obtain⟨y,e4,e⟩:=oBq.mp e;rcases bC e with ⟨⟨hn,hl⟩,e⟩|e
 .cases e;obtain⟨v,p,a0,n0,_,_,s2,s1,at0⟩:=A;have e2':=bh e2;obtain⟨p',vs,hp,h1,h2⟩:=jc R e2' s1 e3 at0;cases hp;obtain⟨v',F,t1,t2,r,nd,oo,_⟩:=R.move e2';rw[s1]at t1;cases t1;refine⟨.ref p,s2,.inl ⟨rfl,vs,dJ.of h1⟩,hk (R.frame t2) (d:=y.1) (S':=y.2) e4 _ fun Hf2 H2 Fs2 u t3 R2 r2=>?_⟩
  obtain⟨k1,k2,R3⟩:=R.unframe t2 r nd (fun q hq=>(oo q hq).1) R2 hn s1 t3
  have hlt:i<y.2.length:=(gSq.mp hn).1;have e5:(y.2.set i (some (.ow avs)))[i]?=some (some (.ow avs)):=VS hlt;obtain⟨vs',g1,g2,g3⟩:=R3.grow e5 s1 e3 (at0.kept r e3 k1);obtain⟨Fs',R4⟩:=g3 [.sh y.1] [u] [[]] (bu.nil.snoc (.sh r2)) (by simp) (fun q hq=>by simp at hq)
  rw[Yh]at R4;exact⟨p,vs',u,rfl,rfl,g1,by rw[gC,←g2];exact hl,h _ _ _ _ t3 R4⟩
 .cases e
def Qb(K:W.Frag) (J:List Nat) (t:TS) (m:MS):Prop:=∀{H₀ Hf₀ Hf:Hp}{S:AS}{σ:St}{H:Hp}{Fs:List (List Addr)}{S':AS},bK K H₀ Hf₀ Hf S σ H Fs->m S=some (.nx S')->∀D:ja,(∀Hf' σ' H' Fs',bB Hf Hf'->bK K H₀ Hf₀ Hf' S' σ' H' Fs'->(∀j∈J,σ'[j]?=σ[j]?)->D.nx σ' H')->t D σ H
theorem Ii{J:List Nat}{t:TS}(h:∀D σ H,D.nx σ H->t D σ H):Qb K J t bG:=by
 intro H₀ Hf₀ Hf S σ H Fs S' R e D q;cases e;exact h _ _ _ (q _ _ _ _ (.refl _) R fun _ _=>rfl)
theorem Df{J:List Nat}{y:Nat}{te:TE}{k:MK}(hk:SK K te k) (hJ:y∉J):Qb K J (IZ te (gI y)) (aZ y k):=by
 intro H₀ Hf₀ Hf S σ H Fs S' R e D q;obtain⟨x,e1,e⟩:=oMq.mp e;cases e;refine hk R (a:=x.1) (S':=x.2) e1 _ fun Hf1 H1 Fs1 v F t1 R1 r1 o1=>?_
 exact q _ _ _ _ t1.sf (R1.set y r1 o1.nd fun q hq=>⟨o1.fr q hq,o1.out q hq⟩) fun j hj=>VA (show y≠j from fun z=>hJ (by rw[z];exact hj))
theorem PX{J:List Nat}{c:TT}{m:MT}{t u:TS}{a b:MS}(hc:xj K c m) (ha:Qb K J t a) (hb:Qb K J u b):Qb K J (HV c t u) (jl m a b):=by
 intro H₀ Hf₀ Hf S σ H Fs S' R e D q;obtain⟨x,e1,e⟩:=oBq.mp e;refine hc R (b:=x.1) (S':=x.2) e1 _ fun Hf1 H1 Fs1 t1 R1=>?_
 split at e
 .rename_i hx;rw[hx];exact zR (ha R1 e D fun Hf' σ' H' Fs' s R' j=>q _ _ _ _ (t1.sf.trans s) R' j)
 .rename_i hx;rw[W1]at hx;rw[hx];exact yZ (hb R1 e D fun Hf' σ' H' Fs' s R' j=>q _ _ _ _ (t1.sf.trans s) R' j)
def Bo(i:Nat) (a:MS) (m:List Nat->MS):List Nat->MS:=fun path S=>(cJ S i).bind fun avs=>(a (S.set i none)).bind fun o=>match o with
 | .nx S1=>iD (S1[i]?=some none) (m path (S1.set i (some (.ow avs))))
 |_=>none
theorem II{x i:Nat}{t u:TS}{a:MS}{m:List Nat->MS}(ha:Qb K [x,i] t a) (hm:FA K x i u m):FA K x i (BJ t u) (Bo i a m):=by
 intro path H₀ Hf₀ Hf S σ H Fs o R A e D h;obtain⟨avs,e2,e⟩:=oBq.mp e;obtain⟨oo,e3,e⟩:=oBq.mp e;cases oo with
 |nx S1 =>
  rcases bC (show iD (S1[i]?=some none) (m path (S1.set i (some (.ow avs))))=some o from e) with ⟨hn,e⟩|e
  .obtain ⟨v,p,a0,n0,e2',e4,s2,s1,at0⟩:=A;have e5:=bh e2;rw[e5]at e2';cases e2';obtain⟨v',F,t1,t2,r,nd,ow,_⟩:=R.move e5;rw[s1]at t1;cases t1;refine ha (R.frame t2) e3 _ fun Hf' σ' H' Fs' s R' hJ=>?_
   have j1:σ'[x]?=σ[x]?:=hJ x (by simp)
   have j2:σ'[i]?=σ[i]?:=hJ i (by simp)
   obtain⟨k1,k2,R3⟩:=R.unframe t2 r nd (fun q hq=>(ow q hq).1) R' hn (j2.trans s1) s
   have hlt:i<S1.length:=(gSq.mp hn).1;exact hm R3 ⟨v,p,avs,n0,VS hlt,e4,j1.trans s2,j2.trans s1,at0.kept r e4 k1⟩ e D (h.mono s)
  .cases e
 |_=>cases e
end
theorem Rc(S:AS) (i:Nat):Bb i S=(cJ S i).map fun _=>([],S):=rfl
theorem TZ(S:AS) (i:Nat) (pf:MP) (b:ME):JM i pf b S=(pf S).bind fun x=>(b x.2).bind fun y=>(intOf y.1).bind fun j=>(cJ y.2 i).bind fun avs=>(bF (.ow avs) x.1).bind fun as=>(yT as.length j).map fun n=>(x.1++[n],y.2):=rfl
theorem OH(S:AS) (i:Nat) (pf:MP) (k:MK):Cq i pf k S=(pf S).bind fun x=>(cJ x.2 i).bind fun a0=>(bF (.ow a0) x.1).bind fun _=>(k x.2).bind fun y=>(cJ y.2 i).bind fun avs=>(bF (.ow avs) x.1).bind fun as=>iD (as.length<dg) (some (.nx (y.2.set i (some (putAt (.ow avs) x.1 (as++[y.1])))))):=rfl
theorem OG(S:AS) (i:Nat) (pf:MP) (l:ML):Io i pf l S=(pf S).bind fun x=>(cJ x.2 i).bind fun a0=>(bF (.ow a0) x.1).bind fun _=>(l x.2).bind fun y=>(cJ y.2 i).bind fun avs=>(bF (.ow avs) x.1).bind fun as=>iD (as.length+y.1.length<=dg) (some (.nx (y.2.set i (some (putAt (.ow avs) x.1 (as++y.1.map .sh)))))):=rfl
theorem QR(S:AS) (x i:Nat) (pf:MP) (m:List Nat->MS):Kl x i pf m S=(pf S).bind fun y=>(cJ y.2 i).bind fun avs=>(bF (.ow avs) y.1).bind fun _=>iD (x≠i/\x<y.2.length) (m y.1 (y.2.set x none)):=rfl
theorem RU(S:AS) (i:Nat) (c:MT) (a b:List Nat->MS) (path:List Nat):vK i c a b path S=(c S).bind fun y=>(cJ y.2 i).bind fun avs=>(bF (.ow avs) path).bind fun _=>if y.1=true then a path y.2 else b path y.2:=rfl
theorem OK(S:AS) (i:Nat) (k:MK) (path:List Nat):Cg i k path S=(k S).bind fun y=>(cJ y.2 i).bind fun avs=>(bF (.ow avs) path).bind fun as=>iD (as.length<dg) (some (.nx (y.2.set i (some (putAt (.ow avs) path (as++[y.1])))))):=rfl
theorem Os(S:AS) (i:Nat) (l:ML) (path:List Nat):DC i l path S=(l S).bind fun y=>(cJ y.2 i).bind fun avs=>(bF (.ow avs) path).bind fun as=>iD (as.length+y.1.length<=dg) (some (.nx (y.2.set i (some (putAt (.ow avs) path (as++y.1.map .sh)))))):=rfl
theorem KP(S:AS) (i:Nat) (mm:ME) (path:List Nat):yP i mm path S=(cJ S i).bind fun avs=>(bF (.ow avs) path).bind fun as=>(mm (S.set i none)).bind fun y=>iD (y.2[i]?=some none/\as.length<dg) (some (.nx (y.2.set i (some (putAt (.ow avs) path (as++[.sh y.1])))))):=rfl
def Rb(i:Nat) (avs:List AV) (m:List Nat->MS) (path:List Nat):wo->Option wo
 | .nx S1=>iD (S1[i]?=some none) (m path (S1.set i (some (.ow avs))))
 |_=>none
theorem Qj(S:AS) (i:Nat) (a:MS) (m:List Nat->MS) (path:List Nat):Bo i a m path S=(cJ S i).bind fun avs=>(a (S.set i none)).bind (Rb i avs m path):=by
 unfold Bo;congr 1
theorem Kp(i:Nat) (avs:List AV) (m:List Nat->MS) (path:List Nat) (S1:AS):Rb i avs m path (.nx S1)=iD (S1[i]?=some none) (m path (S1.set i (some (.ow avs)))):=rfl
theorem B6(avs:List AV):bF (.ow avs) []=some avs:=rfl
theorem ni(avs:List AV) (j:Nat) (js:List Nat):bF (.ow avs) (j::js)=(avs[j]?).bind fun a=>bF a js:=rfl
theorem oZ{avs:List AV}{j:Nat}{js:List Nat}{as:List AV}{a:AV}(h:avs[j]?=some a):putAt (.ow avs) (j::js) as = .ow (avs.set j (putAt a js as)):=by
 show (match avs[j]? with|some a=>_|none=>_)=_
 rw[h]
def UZ:=Vs @Rc (Vs @TZ (Vs @OH (Vs @OG (Vs @QR (Vs @RU (Vs @OK (Vs @Os (Vs @KP (Vs @Qj (Vs @Kp @B6))))))))))
section
variable {K:W.Frag}
def yK(m:ME):MS:=fun S=>(m S).map fun x=>.nx x.2
theorem JA{te:TE}{m:ME}(h:SM K te m):SS K (mh te) (yK m):=by
 intro H₀ Hf₀ Hf S σ H Fs o R e D hd;obtain⟨x,e1,e⟩:=oMq.mp e;cases e;exact h R (d:=x.1) (S':=x.2) e1 _ fun Hf1 H1 Fs1 v t1 R1 r1=>hd _ _ _ _ t1 R1
def U1(i:Nat):MS:=fun S=>(cJ S i).map fun avs=>.nx (S.set i (some (.ow avs.reverse)))
end
theorem JS(S:AS) (m:ME):yK m S=(m S).map fun x=>.nx x.2:=rfl
def U0:=@JS
section
variable {K:W.Frag}
theorem cT.fd_inv{H:Hp}{ds:List (bI×D)}{v:V}(h:cT K H (.fd ds) v):∃p o az,v = .ref p/\H p=some (.frz o (.dK az))/\gO K H ds az:=by
 cases h with
 |fd h l e=>exact⟨_,_,_,rfl,h,l,e⟩
def Ky:D->Option (List (bI×D))
 | .fd az=>some az
 |_=>none
theorem J3{d:D}{az:List (bI×D)}(h:Ky d=some az):d = .fd az:=by
 cases d <;> first|(cases h;rfl)|cases h
def BH(a b:ME):ME:=fun S=>(a S).bind fun x=>(b x.2).bind fun y=>(Ky x.1).bind fun az=>(jt y.1).bind fun key=>(getD az key).map fun d=>(d,y.2)
theorem HY{ta tb:TE}{a b:ME}(ha:SR K ta a) (hb:SR K tb b):SR K (Hs ta tb) (BH a b):=by
 intro H₀ Hf₀ Hf S σ H Fs d S' R e Q q;obtain⟨x,e1,e⟩:=oBq.mp e;obtain⟨y,e2,e⟩:=oBq.mp e;obtain⟨az,e3,e⟩:=oBq.mp e;obtain⟨key,e4,e⟩:=oBq.mp e;obtain⟨d',e5,e⟩:=oMq.mp e;cases e;refine ha R (d:=x.1) (S':=x.2) e1 _ fun Hf1 H1 Fs1 v1 t1 R1 r1=>hb R1 (d:=y.1) (S':=y.2) e2 _ fun Hf2 H2 Fs2 v2 t2 R2 r2=>?_
 rw[J3 e3]at r1;obtain⟨p,o,vs,rfl,h1,h2⟩:=(r1.mono t2.sh).fd_inv;have g:=qz (key:=key) h2;rw[e5]at g;obtain⟨v,g1,g2⟩:=g;exact⟨p,v,rfl,by rw[nv e4 r2,←g1];exact .inl ⟨vs,key,.inr ⟨o,h1⟩,rfl,rfl⟩,q _ _ _ _ (t1.trans t2) R2 g2⟩
theorem IK{ob:Obj}{d:Addr}{az:List (bI×V)}{i1:Nat}{tb:TS}{D:ja}{σ:St}{H:Hp}(Pv:Nat->St->Hp->Prop) (h0:Pv 0 σ H) (hl:∀i σ H,Pv i σ H->H d=some (.frz ob (.dK az)))
  (hs:∀i p σ H,az[i]?=some p->Pv i σ H->tb { D with nx:=Pv (i+1),ct:=Pv (i+1),bk:=D.nx } (σ.set i1 (some (kV p.1))) H) (hd:∀σ H,Pv az.length σ H->D.nx σ H) :
  ∃W:Nat->Nat->St->Hp->Prop,(∃m,W 0 m σ H)/\∀i m σ H,W i m σ H ->
   ((Rp ob d az).stop i H/\D.nx σ H)∨((Rp ob d az).go i H/\∃N:St->Hp->Prop,(∀σ' H',N σ' H'->∃m',m'<m/\W (i+1) m' σ' H')/\∀x H',(Rp ob d az).yld i H x H'->gI i1 x σ H' fun σ2 H2=>tb { D with nx:=N,ct:=N,bk:=D.nx } σ2 H2):=by
 refine⟨fun i m σ H=>m=az.length-i/\i<=az.length/\Pv i σ H,⟨az.length,by simp,Wf _,h0⟩,?_⟩
 rintro i m σ H ⟨rfl,hi,p⟩;have q:=hl i σ H p
 by_cases hlt:i<az.length
 .refine .inr ⟨⟨q,az[i],by simp[hlt]⟩,Pv (i+1),fun σ' H' p'=>⟨az.length-(i+1),by lia,rfl,hlt,p'⟩,fun v H' y=>?_⟩
  obtain⟨rfl,x,hx,rfl⟩:=y;exact hs i x σ H' hx p
 .have e:i=az.length:=by lia
  subst e;exact .inl ⟨⟨q,Vu _⟩,hd σ H p⟩
def FU(x i:Nat) (body:MS):MS:=fun S=>(jV S i).bind fun az=>iD (x≠i) (fv x body (az.map fun p=>kD p.1) (S.set i (some (.sh (.fd az)))))
theorem Mh{x i:Nat}{tb:TS}{body:MS}(hb:SS K tb body):SS K (Ex (M9 (iE i)) (gI x) tb) (FU x i body):=by
 intro H₀ Hf₀ Hf S σ H Fs o R e D h;obtain⟨ds,e1,e⟩:=oBq.mp e;rcases bC e with ⟨hne,e⟩|e
 .have e1':=oP e1;obtain⟨p,az,s1,s2,h1,h2,h3,h4,h5⟩:=R.owd e1';refine⟨_,s1,p,az,rfl,h1,fun ob=>?_⟩
  obtain⟨v,F,t1,t2,r,nd,oo,R1⟩:=R.move e1';rw[s2]at t2;cases t2;have R2:=bK.fix R1 (p:=p) (o:=.frz ob (.dK az)) h5 h2 h4;have s3:bB Hf (bW Hf p (.frz ob (.dK az))):=cX h2;have h3':gO K (bW Hf p (.frz ob (.dK az))) ds az:=⟨h3.1,fun i d v a b=>(h3.2 i d v a b).mono s3⟩
  have R3:bK K H₀ Hf₀ (bW Hf p (.frz ob (.dK az))) (S.set i (some (.sh (.fd ds)))) σ (bW H p (.frz ob (.dK az))) (Fs.set i []) :=
   R2.again (F:=[]) s1 (.sh (.fd aL h3'.1 h3'.2)) V6 fun q hq=>by cases hq
  have hlen:ds.length=az.length:=by have:=congrArg WR h3.1;simpa using this
  refine IK (fun n σ' H'=>∃Hf' S' Fs',bK K H₀ Hf₀ Hf' S' σ' H' Fs'/\bB (bW Hf p (.frz ob (.dK az))) Hf'/\fv x body ((ds.map fun p=>kD p.1).drop n) S'=some o) ⟨_,_,_,R3,.refl _,e⟩
   (fun n σ' H' ⟨Hf',S',Fs',R',s',_⟩=>R'.sub _ _ (s' _ _ aL)) ?_ ?_
  .rintro n w σ' H' hw ⟨Hf',S',Fs',R',s',e'⟩;have hn:n<ds.length:=by rw[hlen];exact(gSq.mp hw).1
   have hk:(ds.map fun p=>kD p.1)[n]?=some (kD w.1):=by
    have:=congrArg (fun l=>l[n]?) h3.1
    simp only[gMq,hw,W6]at this;rw[gMq];cases hd:ds[n]? with
    |none=>rw[hd]at this;cases this
    |some dd =>
     rw[hd]at this;rw[W6,show dd.1=w.1 from V2.inj this]
   have hlt:n<(ds.map fun p=>kD p.1).length:=by rw[lMq];exact hn
   rw[VW hlt,(gSq.mp hk).2]at e';obtain⟨o2,e3,e4⟩:=oBq.mp e';refine hb (R'.setD x (Ld w.1)) e3 _ ?_;cases o2 with
   |nx S2=>exact fun Hf2 σ2 H2 Fs2 s4 R4=>⟨Hf2,S2,Fs2,R4,s'.trans s4,e4⟩
   |ct S2=>exact fun Hf2 σ2 H2 Fs2 s4 R4=>⟨Hf2,S2,Fs2,R4,s'.trans s4,e4⟩
   |bk S2=>cases e4;exact fun Hf2 σ2 H2 Fs2 s4 R4=>h _ _ _ _ ((s3.trans s').trans s4) R4
   |rt a=>cases e4;exact h
  .rintro σ' H' ⟨Hf',S',Fs',R',s',e'⟩;rw[←hlen,show ds.length=(ds.map fun p=>kD p.1).length from (lMq _).symm,Xf]at e'
   cases e';exact h _ _ _ _ (s3.trans s') R'
 .cases e
end
theorem Ki(az:List (bI×D)):Ky (.fd az)=some az:=rfl
theorem KG(S:AS) (a b:ME):BH a b S=(a S).bind fun x=>(b x.2).bind fun y=>(Ky x.1).bind fun az=>(jt y.1).bind fun key=>(getD az key).map fun d=>(d,y.2):=rfl
theorem Nk(S:AS) (x i:Nat) (body:MS):FU x i body S=(jV S i).bind fun az=>iD (x≠i) (fv x body (az.map fun p=>kD p.1) (S.set i (some (.sh (.fd az))))):=rfl
def Vf:=Vs @Ki (Vs @KG @Nk)
end Z
namespace Mr
open PySem PySem.Spec PyProof.Rows L2
end Mr
namespace Z
open PySem L2 Mr
end Z
namespace Xe
open PySem PySem.Spec PySem.W PyProof.Rows L2 Mr
section
variable {X:Cx}{k:Nat}{x:Str}{st:Stmt}{ps:List Str}{sp:Sp}{f:Addr}{fd:FuncData}{p pos pos2 pos3:Pos}{e:Expr}{es:List Expr}{t u:TA}{h₀:ExceptHandler}{hs:List ExceptHandler}{th:XH}
def UH(X:Cx) (sts:List Stmt) (h₀:ExceptHandler) (hs:List ExceptHandler) (t:TS):Prop :=
 ∀(ae:List (Addr×Obj)) (s:Shared) (σ:St) (H:Hp) (D:ja),Inv X ae σ H s->t D σ H->wpAny (model X.prog X.w) X.A (execs sts X.env) (SP X ae D)
  (fun e s₁=>wpAny (model X.prog X.w) X.A (noteFrame e X.env) (fun _ s₂=>wpAny (model X.prog X.w) X.A (setFlight e none) (fun _ s₃=>wpAny (model X.prog X.w) X.A (handleBy e X.env (h₀::hs)) (SP X ae D) X.xe s₃) X.xe s₂) X.xe s₁) s
theorem CG{sts:List Stmt}{t:TS}(h:UH X sts h₀ hs t):PS X (.Try sts (h₀::hs) [] [] pos3) t:=by
 intro ae s σ H D I q;refine wpAny_Try_except (dB (h ae s σ H D I q) fun f s1 z=>?_)
 cases f with
 |next=>exact wpAny_execs_nil z
 |brk=>exact z
 |cont=>exact z
 |ret u=>exact z
end
end Xe
namespace Z
open PySem L2 Mr Xe
end Z
namespace HT
open PySem PyProof.Rows
open PySem.SeqAt
open PySem.AutoSeq1 (wpAny_loadPart')
open PySem.MeetsSeq PySem.MeetsSeq2 PySem.MeetsSeq3
end HT
namespace Mr
open PySem PySem.Spec PyProof.Rows L2
end Mr
namespace Z
open PySem L2 Mr
section
variable {K:W.Frag}
theorem bH.part{Hf H:Hp}{avs:List AV}{p:Addr}{F:List Addr}{vs:List V}{j:Nat}{a:AV}{v:V}(r:bH K Hf H (.ow avs) (.ref p) F) (nd:F.Nodup) (h:H p=some (.lst vs)) (ha:avs[j]?=some a) (hv:vs[j]?=some v):∃G,bH K Hf H a v G/\G.Nodup/\p∉G:=by
 obtain⟨p',vs',Gs,e1,e2,e3,_,e5⟩:=r.ow_inv;cases e1;rw[h]at e3;cases e3;subst e2;have hj:j<avs.length:=(gSq.mp ha).1;have hG:=gEg (e5.2.1 ▸ hj);refine⟨_,e5.2.2 j _ _ _ ha hv hG,?_,fun m=>(Vx.mp nd).1 (bT hG m)⟩
 exact V1.sublist (VX (mGq hG)) (Vx.mp nd).2
end
end Z
namespace L2
open PySem PySem.Spec PyProof.Rows
structure gv (k:Nat) (A:Around):Prop where
 dp:A.depth+3*k+5<recursionLimit
 un:A.units+16*k+200<cLine
theorem dX.h{k:Nat}{A:Around}(r:dX k A) (v:Option Value):gv k (A.mark v):=⟨r.dp,r.un⟩
theorem gv.mono{j k:Nat}{A:Around}(r:gv k A) (h:j<=k):gv j A:=⟨by have:=r.dp;lia,by have:=r.un;lia⟩
theorem gv.deeper{k:Nat}{A:Around}(r:gv (k+1) A) (env:Env):gv k (A.deeper env) :=
 ⟨by have:=r.dp;show A.depth+1+3*k+5<_;lia,by have:=r.un;show A.units+3+16*k+200<_;lia⟩
theorem gv.depth{k:Nat}{A:Around}(r:gv k A):A.depth<recursionLimit:=by have:=r.dp;lia
theorem gv.units{k:Nat}{A:Around}(r:gv k A):A.units+64<cLine:=by have:=r.un;lia
theorem gv.units65{k:Nat}{A:Around}(r:gv k A):A.units+65<cLine:=by have:=r.un;lia
structure Ao (P:Program) (w:World) (K:W.Frag) (mg:Str->Option Value) (base:Heap) (CX:zU) (k:Nat) (f:Addr) (fd:FuncData) (ps:List Str) (sp:Sp):Prop where
 len:∀vs H Q E,sp vs H Q E->vs.length=ps.length
 run:∀(A:Around) (outer:List Env) (s:Shared) (H:Hp) (args:Args) (us:List Value) (vs:List V) (Q:VK) (E:XK),gv k A->yH P w K mg base A outer s H->BindsTo s fd args (ps.zip us)->bq vs us->sp vs H Q E ->
  codeAny (model P w) A (.call (.ref f) args) (CR CX outer P w H s Q E) s
noncomputable def xh(CX:zU) (P:Program) (w:World) (K:W.Frag) (mg:Str->Option Value) (base:Heap) (N:List Str) (qual:Str) (scope:Scope) (f:Addr) (cd:Value) (A:Around) (outer:List Env) (s:Shared) (H:Hp) (E:XK):Cx where
 prog:=P
 w:=w
 K:=K
 mg:=mg
 base:=base
 A:=A.deeper (envOfC qual scope s.heap.objs.size f cd)
 N:=N
 s₀:=s
 H₀:=H
 env:=envOfC qual scope s.heap.objs.size f cd
 outer:=outer
 stack:=envOfC qual scope s.heap.objs.size f cd::outer
 ex:=[]
 calm:=false
 fn:=fun _=>true
 pn:=[]
 xe:=fun e s'=>wpAny (model P w) (A.deeper (envOfC qual scope s.heap.objs.size f cd)) (leaving (envOfC qual scope s.heap.objs.size f cd) e) (fun _ s''=>CX outer H s E e s'') (fun e' s''=>CX outer H s E e' s'') s'
theorem BR{CX:zU}{P:Program}{w:World}{K:W.Frag}{mg:Str->Option Value}{base:Heap}{N ps:List Str}{qual:Str}{scope:Scope}{f:Addr}{cd:Value}{A:Around}{outer:List Env}{s s1:Shared}{H:Hp}{E:XK}{us:List Value}{vs:List V}
  (S:aR N ps scope) (e0:yH P w K mg base A outer s H) (hl:vs.length=ps.length) (r:bq vs us)
  (x:InCallC s s.heap.objs.size (bindL (envOfC qual scope s.heap.objs.size f cd).kindOf (ps.zip us) fun _=>none) (cellsFrom (s.heap.objs.size+1) scope.names []) (bindC (envOfC qual scope s.heap.objs.size f cd).kindOf (ps.zip us) fun _=>none) s1) :
  Inv (xh CX P w K mg base N qual scope f cd A outer s H E) [] (eQ N vs) H s1:=by
 have hpl:ps.length<=N.length:=by have:=congrArg WR S.pre;rw[lTq]at this;lia
 obtain⟨h1,tk,rfl,hk⟩:=x.done;have noA:∀b:Addr,b∉(xh CX P w K mg base N qual scope f cd A outer s H E).ex:=fun b z=>absurd (show b∈([]:List Addr) from z) (by simp)
 refine⟨⟨e0.mod,S.kind,rfl,rfl,Vu _,fun y z c h1 h2=>?_,fun y hy=>?_,fun y c _ h=>?_,fun z=>Zw z,Around.frames_deeper e0.frames,.inr ⟨rfl,rfl⟩,fun b z=>absurd z (noA b),e0.bs,e0.bsz,fun b _ _=>noA b,fun b z=>absurd z (noA b),e0.funs,e0.frf⟩,
  rfl,e0.bare,Un.kept hk,⟨_,x.toInCall.ns,fun i y v h1 h2 h3=>?_⟩,fun y c h=>⟨_,x.cell y c h⟩,e0.hok.fresh (Vu _),fun y c h=>?_,fun p hp=>absurd (show p∈([]:List (Addr×Obj)) from hp) (by simp),e0.hok.kept hk,?_⟩
 .exact name_of_addr x.apart (PySem.mem_of_lookup h1) (PySem.mem_of_lookup h2)
 .have hy:scope.names.lookup y=some .cell∨scope.names.lookup y=some .free:=hy;rcases hy with hy|hy
  .exact ph hy
  .exact absurd rfl (S.nofree _ (PySem.mem_of_lookup hy))
 .exact Wu (x.above y c (PySem.mem_of_lookup h))
 .have hi:i<vs.length:=by
   unfold eQ at h2
   by_cases hi:i<vs.length
   .exact hi
   .rw [gYq (by simpa using hi)]at h2
    rw[Wz]at h2;split at h2 <;> cases h2
  have ha:vs[i]?=some v:=by
   unfold eQ at h2;rw[gZq (by simpa using hi),gMq]at h2
   cases e:vs[i]? with
   |none=>rw[e]at h2;cases h2
   |some a=>rw[e]at h2;cases h2;rfl
  obtain⟨u,hu,rv⟩:=r.get ha;have hp:ps[i]?=some y:=by
   rw[←S.pre,Ww (by lia)];exact h1
  have ndP:ps.Nodup:=by rw[←S.pre];exact S.nd.sublist (Wc _ _)
  refine⟨u,rv,?_⟩;rcases S.par y (mGq hp) with k|k
  .exact .inl ⟨k,rH ndP hp hu k⟩
  .obtain ⟨c,e⟩:=ph (n:=s.heap.objs.size+1) k;refine .inr ⟨.inl k,c,e,?_⟩;have q:=x.cell y c e;rw[rD ndP hp hu (by show scope.names.lookup y≠_;rw[k];decide)]at q
   exact q
 .exact e0.hok.fresh (Wu (x.above y c (PySem.mem_of_lookup h)))
 .unfold eQ;show _=N.length;rw[lAq,lMq,Xu];lia
theorem PZ{CX:zU}{P:Program}{w:World}{K:W.Frag}{mg:Str->Option Value}{base:Heap}{k:Nat}{f:Addr}{name qual:Str}{params:Arguments}{body:List Stmt}{scope:Scope}{dV kV doc pm ee ct oc:Value}{an od:Option Addr}
  {osl:Array (Option Value)}{N ps:List Str}{sp:Sp}(lk:K.lookup f=some ⟨oc,od,.func (W.fnOf name qual params body scope dV kV doc pm an ee ct),osl⟩) (hcd:W.codeIn K ee qual=true) (S:aR N ps scope)
  (len:∀vs H Q E,sp vs H Q E->vs.length=ps.length)
  (hbody:∀(A:Around) (outer:List Env) (s:Shared) (H:Hp) (vs:List V) (Q:VK) (E:XK),gv k (A.deeper (envOfC qual scope s.heap.objs.size f ee))->sp vs H Q E ->
   ∃t,Au (xh CX P w K mg base N qual scope f ee A outer s H E) body t/\t { nx:=fun _ H'=>Q .non H',rt:=Q } (eQ N vs) H) :
  Ao P w K mg base CX (k+1) f (W.fnOf name qual params body scope dV kV doc pm an ee ct) ps sp:=by
 refine⟨len,fun A outer s H args us vs Q E hr e0 hb r hsp=>?_⟩
 have hl:=len _ _ _ _ hsp;have KX:K.In s.heap:=e0.mod.kin.keeps fun b o e=>(e0.bs b o e).1
 have lim:s.heap.NoLimit:=e0.mod.nolimit.keeps fun b o e=>(e0.bs b o e).1
 have hkind:∀y∈ps.zip us,scope.names.lookup y.1=some .local∨(scope.names.lookup y.1=some .cell/\((cellsFrom (s.heap.objs.size+1) scope.names []).lookup y.1).isSome=true):=fun⟨n,v⟩ hy=>by
  rcases S.par n (Ye hy).1 with q|q
  .exact .inl q
  .exact .inr ⟨q,W.cellsFrom_some _ _ _ (.inl q)⟩
 refine codeAny_call_function hr.depth (KX _ _ lk) rfl S.co S.gen rfl (W.codeRec_of KX hcd) (hb _ _ _ _ ?_);refine wpAny_newFunctionEnv_cells S.kind hkind fun env he s1 x=>?_
 subst he;refine⟨lim.keeps x.toInCall.keep,codeAny_func ?_⟩;obtain⟨t,ht,hq⟩:=hbody A outer s H vs Q E (hr.deeper _) hsp;have I:Inv (xh CX P w K mg base N qual scope f ee A outer s H E) [] (eQ N vs) H s1:=BR S e0 hl r x;refine wpAny_mono (ht [] s1 (eQ N vs) H _ I hq) (fun fl s' hs=>?_) fun e s' hs=>hs
 have fin:∀{σ':St}{H':Hp}{v:V}{u:Value},Inv (xh CX P w K mg base N qual scope f ee A outer s H E) [] σ' H' s'->bO v u->Q v H'->CE outer P w H s Q u s' :=
  fun {σ' H' v u} J rv q=>⟨v,H',J.os,J.bare,J.base,J.hok,rv,q⟩
 cases fl with
 |ret u =>
  obtain⟨v,σ',H',J,rv,q⟩:=hs;exact fin J rv q
 |next =>
  obtain⟨σ',H',J,q⟩:=hs;exact fin (v:=V.non) (u:=WV) J rfl q
 |brk =>
  obtain⟨_,_,_,q⟩:=hs;exact False.elim q
 |cont =>
  obtain⟨_,_,_,q⟩:=hs;exact False.elim q
section
variable {X:Cx}{CX:zU}{k:Nat}{f C:Addr}{fd:FuncData}{ps:List Str}{sp:Sp}{dvs:List V}{ds:List Value}{E:XK}{x m:Str}{p pos apos:Pos}{e o:Expr}{es:List Expr}{ta:TE}{t:TA}
theorem KO{ae:List (Addr×Obj)}{σ:St}{H:Hp}{s:Shared}{Q:VK}{us:List Value}{vs:List V}(F:Ao X.prog X.w X.K X.mg X.base CX k f fd ps sp) (hr:gv k X.A) (hb:dY X.K fd ps ds) (hd:bq dvs ds) (hx:iK CX X E)
  (I:Inv X ae σ H s) (r:bq vs us) (h:sp (vs++dvs) H Q E):wpAny (model X.prog X.w) X.A (call (.ref f) us) (EP X ae σ Q) X.xe s:=by
 have r2:bq (vs++dvs) (us++ds):=r.append hd;have hl:(us++ds).length=ps.length:=by rw[←r2.length];exact F.len _ _ _ _ h
 refine wpAny_call (codeAny_mono (F.run X.A X.stack s H ⟨us,[]⟩ (us++ds) (vs++dvs) Q E hr I.env0 (hb s us I.kIn hl) r2 h) fun r s' hq=>?_)
 cases r with
 |error e=>exact hx ae σ H s e s' I hq
 |ok fl =>
  cases fl with
  |ret u=>exact I.after hq
  |next=>exact False.elim hq
  |brk=>exact False.elim hq
  |cont=>exact False.elim hq
theorem JB(F:Ao X.prog X.w X.K X.mg X.base CX k f fd ps sp) (hr:gv k X.A) (hg:Gl X x) (hm:X.mg x=some (.ref f)) (hk:W.keepIn X.K (.ref f)=true) (hb:dY X.K fd ps ds) (hd:bq dvs ds) (hx:iK CX X E)
  (ha:PA X (e::es) t) (hdb:(x == ("__debug__" : Str))=false:=by decide) (he:starEach (e::es) X.env=(false,eval e X.env)::starEach es X.env:=by rfl) (hpl:(backTo pos (starEach es X.env)).any (·.1)=false:=by rfl) :
  PE X (.Call (.Name x p) (e::es) [] pos) (jR sp dvs E t):=by
 intro ae s σ H Q I h;refine wpAny_Call_Name_kw (jT I hg hm ?_ hdb);refine W.callWith_K (h₀:=X.base) I.ok.mod.kin hk (dB (ha pos ae s σ H _ I h) fun us s1 ⟨vs,H1,I1,r,q⟩=>⟨I1.kIn,?_⟩) he hpl
 exact KO F hr hb hd hx I1 r q
end
section
variable {P:Program}{w:World}{K:W.Frag}{mg:Str->Option Value}{base:Heap}
theorem yU.okH{x qual:Str}{st:Stmt}{f:Addr}{fd:FuncData}{N ps:List Str}{k:Nat}{sp:Sp}(F:yU K x qual st f fd) (S:aR N ps (aj st)) (len:∀vs H Q E,sp vs H Q E->vs.length=ps.length)
  (hbody:∀(ee:Value) (A:Around) (outer:List Env) (s:Shared) (H:Hp) (vs:List V) (Q:VK) (E:XK),gv k (A.deeper (envOfC qual (aj st) s.heap.objs.size f ee))->sp vs H Q E ->
   ∃t,Au (xh Fx P w K mg base N qual (aj st) f ee A outer s H E).nox (aO st) t/\t { nx:=fun _ H'=>Q .non H',rt:=Q } (eQ N vs) H):Ao P w K mg base Fx (k+1) f fd ps sp:=by
 obtain⟨oc,od,kV,doc,pm,an,ee,ct,osl,rfl,lk,hcd⟩:=F.ex;refine PZ lk hcd S len fun A outer s H vs Q E hr hsp=>?_
 obtain⟨t,h,q⟩:=hbody ee A outer s H vs Q E hr hsp;exact⟨t,h.nox,q⟩
end
end L2
namespace Mr
open PySem PySem.Spec PyProof.Rows L2
structure Sy (P:Program) (w:World) (K:W.Frag) (mg:Str->Option Value) (base:Heap) (k:Nat) (x:Str) (st:Stmt) (ps:List Str) (sp:Sp) (f:Addr) (fd:FuncData):Prop where
 D:fU K mg x st ps f fd
 ok:Ao P w K mg base Fx k f fd ps sp
section
variable {X:Cx}{k:Nat}{f:Addr}{fd:FuncData}{ps:List Str}{sp:Sp}{x:Str}{p pos:Pos}{e:Expr}{es:List Expr}{t:TA}{st:Stmt}
theorem Ih(G:Sy X.prog X.w X.K X.mg X.base k x st ps sp f fd) (hr:gv k X.A) (ha:PA X (e::es) t) (hg:Gl X x:=by rfl) (hdb:(x == ("__debug__" : Str))=false:=by decide)
  (he:starEach (e::es) X.env=(false,eval e X.env)::starEach es X.env:=by rfl) (hpl:(backTo pos (starEach es X.env)).any (·.1)=false:=by rfl) :
  PE X (.Call (.Name x p) (e::es) [] pos) (jR sp [] E0 t):=JB G.ok hr hg G.D.m G.D.F.kp G.D.b .nil Da ha hdb he hpl
end
end Mr
namespace Z
open PySem L2 Mr Xe
structure ko (K:W.Frag) (c:Str) (C:Addr):Prop where
 ns:W.nsIn K mainGlobals c=some (some (.ref C))
 cl:Ah K C
def vU(c f:Str):D->Option D
 | .ins c' fs=>if c'=c then fs.lookup f else none
 |_=>none
def vL(c m:Str):AV->Option D
 | .sh (.ins c' fs)=>if c'=c/\fs.lookup m=none then some (.ins c' fs) else none
 |_=>none
def Mq(ds:List D):Bool:=ds.all D.scal
def zX(c:Str) (fl:List Str) (a:ML):MK:=fun S=>(a S).bind fun x=>if x.1.length=fl.length/\Mq x.1=true then some (.sh (.ins c (fl.zip x.1)),x.2) else none
noncomputable def HS(c:Str) (b:Bool) (a:ME):ME:=fun S=>(a S).bind fun x=>match x.1 with
 | .ins c' _=>if c'=c then some (.bl b,x.2) else none
 |_=>none
section
variable {K:W.Frag}{H:Hp}
theorem cT.ins_inv{c:Str}{fs:List (Str×D)}{v:V}(h:cT K H (.ins c fs) v):∃a C dx gs,v = .ref a/\W.nsIn K mainGlobals c=some (some (.ref C))/\H a=some (.ins C dx gs)/\fs.map (·.1)=gs.map (·.1)/\∀(i:Nat) (d:Str×D) (v:Str×V),fs[i]?=some d->gs[i]?=some v->cT K H d.2 v.2:=by
 cases h with
 |ins rf h l e=>exact⟨_,_,_,_,rfl,rf,h,l,e⟩
theorem ot{f:Str}:∀{fs:List (Str×D)}{gs:List (Str×V)},fs.map (·.1)=gs.map (·.1)->(∀(i:Nat) (d:Str×D) (v:Str×V),fs[i]?=some d->gs[i]?=some v->cT K H d.2 v.2)->(fs.lookup f=none->gs.lookup f=none)/\∀d,fs.lookup f=some d->∃v,gs.lookup f=some v/\cT K H d v
 | [],[],_,_=>⟨fun _=>rfl,fun d h=>by cases h⟩
 | [],_::_,h,_=>by cases h
 |_::_,[],h,_=>by cases h
 | (k,d)::fs,(k',v)::gs,h,e=>by
  rw[VG,VG]at h;injection h with h1 h2
  have h1:k=k':=h1;subst h1;obtain⟨i1,i2⟩:=ot (f:=f) h2 fun i d v a b=>e (i+1) d v (by simpa using a) (by simpa using b)
  rw[Zx,Zx];cases hk:(f == k) with
  |true =>
   refine⟨fun q=>?_,fun d' q=>?_⟩
   .cases q
   .cases q;exact⟨v,rfl,e 0 _ _ rfl rfl⟩
  |false=>exact⟨i1,i2⟩
variable {c f m:Str}{C:Addr}{ta:TE}{t:TA}
theorem tH{a:ME}(I:ko K c C) (na:cO K C f) (ha:SR K ta a):SR K (QG K ta f) (kr (vU c f) a):=by
 intro H₀ Hf₀ Hf S σ H Fs d S' R e Q q;obtain⟨x,e1,e⟩:=oBq.mp e;obtain⟨z,e3,e⟩:=oMq.mp e;cases e;refine ha R (d:=x.1) (S':=x.2) e1 _ fun Hf1 H1 Fs1 v t1 R1 r1=>?_
 cases hx:x.1 with
 |ins c' fs =>
  rw[hx]at r1 e3;have e5:(if c'=c then fs.lookup f else none)=some d:=e3
  clear e3
  split at e5
  .rename_i hc;subst hc;obtain⟨a',C',dx,gs,rfl,hns,ha',hk,he⟩:=r1.ins_inv;rw[I.ns]at hns;cases hns;obtain⟨w,hw,rw'⟩:=(ot (f:=f) hk he).2 d e5;exact⟨a',C,dx,gs,w,rfl,ha',I.cl,na,hw,q _ _ _ w t1 R1 rw'⟩
  .cases e5
 |_=>rw[hx]at e3;cases e3
def ui(C:Addr) (fl:List Str):Sp:=fun vs H Q _=>∃(x dx:Addr) (ws:List V),vs = .ref x::ws/\ws.length=fl.length/\H x=some (.ins C dx [])/\Q .non (bW H x (.ins C dx (fl.zip ws)))
theorem IR{H:Hp}:∀{fl:List Str}{ds:List D}{vs:List V},ds.length=fl.length->bY K H ds vs->(fl.zip ds).map (·.1)=(fl.zip vs).map (·.1)/\∀(i:Nat) (d:Str×D) (v:Str×V),(fl.zip ds)[i]?=some d->(fl.zip vs)[i]?=some v->cT K H d.2 v.2:=by
 intro fl ds vs hl hr;refine⟨?_,fun i d v e1 e2=>?_⟩
 .rw [Yz (by lia),Yz (by rw[←hr.1];lia)]
 .obtain ⟨_,h2⟩:=W9.mp e1;obtain⟨_,g2⟩:=W9.mp e2;exact hr.2 i _ _ h2 g2
theorem JD{fl:List Str}{a:ML}{E:XK}(I:ko K c C) (ha:JO K t a):SK K (HI C (ui C fl) [] E t) (zX c fl a):=by
 intro H₀ Hf₀ Hf S σ H Fs av S' R e Q q;obtain⟨x,e1,e⟩:=oBq.mp e;split at e
 .rename_i hc;cases e;refine ha R (ds:=x.1) (S':=x.2) e1 _ fun Hf1 H1 Fs1 vs t1 R1 r1 p dx hp hdx hne=>?_
  rw[aNq];have hx':bW H1 dx (.own p) p=none:=by rw[ax (Ne.symm hne)];exact hp
  refine⟨p,dx,vs,rfl,by rw[←r1.1,hc.1],aL,rfl,?_⟩
  rw[yh];obtain⟨t2,R2⟩:=R1.layF (o:=.own p) hdx;obtain⟨t3,R3⟩:=R2.layF (o:=.ins C dx (fl.zip vs)) hx';have sc:∀(i:Nat) (d:D) (v:V),x.1[i]?=some d->vs[i]?=some v->cT K (bW (bW Hf1 dx (.own p)) p (.ins C dx (fl.zip vs))) d v:=fun i d v h1 h2=>(r1.2 i d v h1 h2).scal (List.all_eq_true.mp hc.2 d (mGq h1))
  obtain⟨z1,z2⟩:=IR (K:=K) (fl:=fl) hc.1 ⟨r1.1,sc⟩;exact q _ _ _ (.ref p) [] ((t1.trans t2).trans t3) R3 (.sh (.ins I.ns aL z1 z2)) .nil
 .cases e
structure Ts (K:W.Frag) (C:Addr):Prop where
 ha:W.findIn K (.ref C) "__class__" = some (some (.builtin "object.__class__"))
 hn:W.specialIn K (.builtin "object.__class__") "__get__" = some (some (.builtin "getset_descriptor.__get__"))
 htk:W.takesIn K (.builtin "object.__class__")=some true
 hm:W.mroIn K C (.type "object")=some true
def MN(K:W.Frag) (C:Addr) (u:Value) (b:Bool):List V->Hp->VK->Prop:=fun xs H Q=>∃(a dx:Addr) (gs:List (Str×V)) (w:V),xs=[.ref a,w]/\bO w u/\H a=some (.ins C dx gs)/\Q (.bl b) H
theorem Gh{X:Cx}{u:Value}{b:Bool}(cl:Ah X.K C) (I:Ts X.K C) (hk:W.kitOne X.K (.ref C) u=some b) (one:∀w v,bO w u->bO w v->v=u):eG X (.builtin "isinstance") (MN X.K C u b):=by
 intro ae s σ H xs us Q I0 r h;obtain⟨a,dx,gs,w,rfl,rw',h1,q⟩:=h;obtain⟨u1,u2,rfl,r1,r2⟩:=CT r;cases one w u2 rw' r2;exact E2 I0 r1 (.ins h1 cl I.ha I.hn I.htk I.hm) hk fun tk=>⟨.bl b,H,I0.kept (h':=s.heap) (t':=tk) fun _ _ e=>e,rfl,q⟩
end
theorem MZ(S:AS) (c:Str) (fl:List Str) (a:ML):zX c fl a S=(a S).bind fun x=>if x.1.length=fl.length/\Mq x.1=true then some (.sh (.ins c (fl.zip x.1)),x.2) else none:=rfl
end Z
namespace Xe
open PySem PySem.Spec PySem.W PyProof.Rows L2 Mr
def LR(C:Addr) (m:Str) (ta:TE) (t:TA):TA:=fun σ H Q=>ta σ H fun x H1=>∃a dx fs,x = .ref a/\H1 a=some (.ins C dx fs)/\fs.lookup m=none/\t σ H1 fun vs H2=>Q (x::vs) H2
structure IV (P:Program) (w:World) (K:Frag) (mg:Str->Option Value) (base:Heap) (k:Nat) (C:Addr) (m:Str) (ps:List Str) (sp:Sp) (f:Addr) (fd:FuncData):Prop where
 cl:Ah K C
 mt:uZ K C m f
 b:dY K fd ps []
 ok:jx P w K mg base (JQ P w) k f fd ps sp
structure P5 (P:Program) (w:World) (K:Frag) (mg:Str->Option Value) (base:Heap) (k:Nat) (C:Addr) (m:Str) (ps:List Str) (sp:Sp) (f:Addr) (fd:FuncData):Prop where
 cl:Ah K C
 mt:uZ K C m f
 b:dY K fd ps []
 ok:jx P w K mg base Fx k f fd ps sp
section
variable {X:Cx}{k:Nat}{C:Addr}{m:Str}{ps:List Str}{sp:Sp}{f:Addr}{fd:FuncData}{p pos pos2 pos3 apos:Pos}{o e:Expr}{es:List Expr}{ta:TE}{t:TA}{h₀:ExceptHandler}{hs:List ExceptHandler}{th:XH}
theorem Bg{pl:Sem Bool}(G:P5 X.prog X.w X.K X.mg X.base k C m ps sp f fd) (hr:dX k X.A) (he:PE X o ta)
  (ht:eval (.Call (.Attribute o m apos) [] [] pos) X.env=(do
   let ov ←eval o X.env
   standAt apos.atName
   let (f,first) ←holding [ov] (getMethod ov m pl)
   callWith pos f first (backTo pos (starEach [] X.env)) (backToKw pos (keywordEach [] X.env))):=by rfl):PE X (.Call (.Attribute o m apos) [] [] pos) (jR sp [] E0 (LR C m ta jb)) :=
 Ig he G.cl G.mt G.ok hr G.b .nil Da ht
theorem CZ{i:Nat}{y:Str}{py:Pos}{pl:Sem Bool}(G:IV X.prog X.w X.K X.mg X.base k C m ps sp f fd) (hr:dX k X.A) (he:PE X.nox o ta) (ha:PA X.nox (e::es) t) (hh:PH X (h₀::hs) th) (hN:X.N.Nodup) (hi:X.N[i]?=some y) (hx:P8 X.env.scope y)
  (hf:X.fn y=true∨X.env.scope.names.lookup y=some .local:=by first|exact .inl rfl|exact .inr rfl|assumption) (hstk:X.stack=X.env::X.outer:=by rfl) (hfr:X.env.frame=some X.env.locals:=by rfl)
  (hst:starEach (e::es) X.env=(false,eval e X.env)::starEach es X.env:=by rfl) (hpl:(backTo pos (starEach es X.env)).any (·.1)=false:=by rfl)
  (ht:eval (.Call (.Attribute o m apos) (e::es) [] pos) X.env=(do
   let ov ←eval o X.env
   standAt apos.atName
   let (f,first) ←holding [ov] (getMethod ov m pl)
   callWith pos f first (backTo pos (starEach (e::es) X.env)) (backToKw pos (keywordEach [] X.env))):=by rfl)
  (hsw:swapsWith (.Call (.Attribute o m apos) (e::es) [] pos) (some (.Name y py)) pos2.line X.env=pure false:=by rfl) :
  UH X [.Assign [.Name y py] (.Call (.Attribute o m apos) (e::es) [] pos) pos2] h₀ hs (Mx i sp (LR C m ta t) th):=by
 intro ae s σ H D I h;refine wpAny_execs_cons (wpAny_Assign_Name (W.methodCall_KW (pl:=pl) (wpAny_mono (he ae s σ H _ (I.wish _) h) (fun u s1 z=>?_) fun _ _ z=>z.elim) ht) hsw)
 obtain⟨x,H1,I1,rx,a,dx,fs,ex,ea,l,q⟩:=z;subst ex;obtain rfl:u=Vw a:=rx;refine oQ (X:=X.nox) I1 ea G.cl G.mt l ?_;refine W.callWith_K (first:=[.ref a]) (h₀:=X.base) I.ok.mod.kin G.mt.kp (wpAny_mono (ha pos ae s1 σ H1 _ I1 q) (fun us s2 z=>?_) fun _ _ z=>z.elim) hst hpl
 obtain⟨vs,H2,I2,r,q2⟩:=z;refine⟨I2.kIn,?_⟩;exact Jx (us:=.ref a::us) (vs:=.ref a::vs) G.ok G.b hr hstk hfr hh I2.unwish (.cons rfl r) q2 fun u s' ⟨v,H2,I2,rv,q2⟩=>pX I2 hN hi hx rv (fun s3 I3=>wpAny_execs_nil ⟨_,H2,I3,q2⟩) hf
end
end Xe
namespace Z
open PySem L2 Mr Xe
def tS(c m:Str) (k:MK) (a:MA):MA:=fun S=>(k S).bind fun o=>(vL c m o.1).bind fun d=>(a o.2).map fun x=>(.sh d::x.1,x.2)
section
variable {K:W.Frag}{c m:Str}{C:Addr}{ta:TE}{t:TA}
theorem LX{o:AV}{d:D}(h:vL c m o=some d):∃fs,o = .sh (.ins c fs)/\d = .ins c fs/\fs.lookup m=none:=by
 unfold vL at h;split at h
 .rename_i c' fs;split at h
  .rename_i hc;cases h;obtain⟨rfl,hc⟩:=hc;exact⟨fs,rfl,rfl,hc⟩
  .cases h
 .cases h
theorem bu.cons'{Hf H:Hp}{a:AV}{as:List AV}{v:V}{vs:List V}{F:List Addr}{Gs:List (List Addr)}(h:bH K Hf H a v F) (r:bu K Hf H as vs Gs):bu K Hf H (a::as) (v::vs) (F::Gs):=by
 obtain⟨l1,l2,e⟩:=r;refine⟨by simp[l1],by simp[l2],fun i b w G e1 e2 e3=>?_⟩
 cases i with
 |zero=>cases e1;cases e2;cases e3;exact h
 |succ i=>exact e i b w G (by simpa using e1) (by simpa using e2) (by simpa using e3)
theorem mT{k:MK}{a:MA}(I:ko K c C) (hk:SK K ta k) (ha:SA K t a):SA K (LR C m ta t) (tS c m k a):=by
 intro H₀ Hf₀ Hf S σ H Fs as S' R e Q q;obtain⟨o,e1,e⟩:=oBq.mp e;obtain⟨d,e2,e⟩:=oBq.mp e;obtain⟨x,e3,e⟩:=oMq.mp e;cases e;refine hk R (a:=o.1) (S':=o.2) e1 _ fun Hf0 H0 Fs0 v0 F0 t0 R0 r0 o0=>?_
 obtain⟨fs,ho,hd,hl⟩:=LX e2;rw[ho]at r0;obtain⟨hF,rd⟩:=r0.sh_inv;obtain⟨a',C',dx,gs,rfl,hns,ha',hkk,he⟩:=(rd.mono R0.sub).ins_inv;rw[I.ns]at hns;cases hns;refine⟨a',dx,gs,rfl,ha',(ot (f:=m) hkk he).1 hl,ha R0 (as:=x.1) (S':=x.2) e3 _ fun Hf1 H1 Fs1 vs Gs t1 R1 r1 o1=>?_⟩
 subst hd;refine q _ _ _ (.ref a'::vs) ([]::Gs) (t0.trans t1) R1 (bu.cons' (.sh (rd.mono t1.sf)) r1) ?_;rw[fCq,WQ];exact o1.back t0
end
theorem BF{X:Cx}{E:XK}{k:Nat}{C:Addr}{m:Str}{ps:List Str}{g:mv}{f:Addr}{fd:FuncData}{pos apos:Pos}{o e:Expr}{es:List Expr}{ta:TE}{t:TA}{pl:Sem Bool}(G:IV X.prog X.w X.K X.mg X.base k C m ps (og X.K g) f fd) (hr:dX k X.A) (hx:iK (JQ X.prog X.w) X E) (he:PE X o ta) (ha:PA X (e::es) t)
  (hst:starEach (e::es) X.env=(false,eval e X.env)::starEach es X.env:=by rfl) (hpl:(backTo pos (starEach es X.env)).any (·.1)=false:=by rfl)
  (ht:eval (.Call (.Attribute o m apos) (e::es) [] pos) X.env=(do
   let ov ←eval o X.env
   standAt apos.atName
   let (f,first) ←holding [ov] (getMethod ov m pl)
   callWith pos f first (backTo pos (starEach (e::es) X.env)) (backToKw pos (keywordEach [] X.env))):=by rfl):PE X (.Call (.Attribute o m apos) (e::es) [] pos) (jR (og X.K g) [] E (LR C m ta t)) :=
 J6 he G.cl G.mt G.ok hr G.b .nil hx ha hst hpl ht
theorem pA(S:AS) (c m:Str) (k:MK) (a:MA):tS c m k a S=(k S).bind fun o=>(vL c m o.1).bind fun d=>(a o.2).map fun x=>(.sh d::x.1,x.2):=rfl
structure Hn (P:Program) (w:World) (K:W.Frag) (mg:Str->Option Value) (base:Heap) (c:Str) (C f:Addr) (fd:FuncData) (ps fl:List Str):Prop where
 mki:Mk K C f
 ok:jx P w K mg base Fx 1 f fd ps (ui C fl)
 b:dY K fd ps []
 m:mg c=some (.ref C)
theorem FG{X:Cx}{c:Str}{C f:Addr}{fd:FuncData}{ps fl:List Str}{p pos:Pos}{e:Expr}{es:List Expr}{t:TA}(G:Hn X.prog X.w X.K X.mg X.base c C f fd ps fl) (hr:dX 2 X.A) (ha:PA X (e::es) t) (hg:Gl X c:=by rfl) (hdb:(c == ("__debug__" : Str))=false:=by decide)
  (he:starEach (e::es) X.env=(false,eval e X.env)::starEach es X.env:=by rfl) (hpl:(backTo pos (starEach es X.env)).any (·.1)=false:=by rfl):PE X (.Call (.Name c p) (e::es) [] pos) (HI C (ui C fl) [] E0 t) :=
 JX G.mki G.ok hr hg G.m G.b .nil Da ha hdb he hpl
section
variable {K:W.Frag}{C:Addr}{vs:List V}{H:Hp}{Q:VK}{E:XK}{f1 f2 f3 p1 p2 p3:Str}
theorem vn{fl:List Str}(h:ui C fl vs H Q E):vs.length=fl.length+1:=by
 obtain⟨x,dx,ws,rfl,hl,_⟩:=h;rw[lCq,hl]
theorem M1(cl:Ah K C) (n1:cO K C f1) (h:ui C [f1] vs H Q E):QI K (iE 0) (iE 1) f1 { nx:=fun _ H'=>Q .non H',rt:=Q } (eQ ["self", p1] vs) H:=by
 obtain⟨x,dx,ws,rfl,hl,hH,q⟩:=h
 match ws,hl with
 | [w],_=>exact⟨w,rfl,.ref x,rfl,x,C,dx,[],rfl,hH,cl,n1,by decide,q⟩
theorem Nd{c:Str}{u:Value}{w:V}{b:Bool}{ta:TE}{a:ME}(I:ko K c C) (rw':bO w u) (ha:SR K ta a):SR K (OB (MN K C u b) (eY ta (eY (tC w) jb))) (HS c b a):=by
 intro H₀ Hf₀ Hf S σ H Fs d S' R e Q q;obtain⟨x,e1,e⟩:=oBq.mp e;refine ha R (d:=x.1) (S':=x.2) e1 _ fun Hf1 H1 Fs1 v t1 R1 r1=>?_
 cases hx:x.1 with
 |ins c' fs =>
  rw[hx]at r1 e;have e5:(if c'=c then some (D.bl b,x.2) else none)=some (d,S'):=e
  clear e
  split at e5
  .rename_i hc;subst hc;cases e5;obtain⟨a',C',dx,gs,rfl,hns,ha',_⟩:=r1.ins_inv;rw[I.ns]at hns;cases hns;exact⟨a',dx,gs,w,rfl,rw',ha',q _ _ _ _ t1 R1 .bl⟩
  .cases e5
 |_=>rw[hx]at e;cases e
end
def nF(i x:Nat) (d:D):MS:=fun S=>if i=x∨S.length<=x then none else (cJ S i).bind fun avs=>match avs with
 | [_,.ow ts]=>(mN d ts).map fun _=>.nx ((S.set i none).set x none)
 |_=>none
section
variable {K:W.Frag}
theorem Ln{C:Addr}:∀(w:V) (v:Value),bO w (.ref C)->bO w v->v = .ref C:=by
 intro w v h1 h2;cases w with
 |ref a =>
  have h1:Vw C=Vw a:=h1;have h2:v=Vw a:=h2;rw[h2,h1]
 |_=>first|(cases h1;done)|(obtain⟨_,h1⟩:=h1;cases h1)
theorem ER{i x:Nat}{d:D}{v:V}(hv:∀H,cT K H d v):SS K (Ex (C0 K (Lb (Fd K) (iE i) (tC (.int 1)))) (gI x) (mh (DO K "list" ny (iE x) (eY (tC v) jb)))) (nF i x d):=by
 intro H₀ Hf₀ Hf S σ H Fs o R e D h;unfold nF at e;split at e
 .cases e
 rename_i nix0;have nix:¬ i=x:=fun z=>nix0 (.inl z)
 have xlt:x<S.length:=Nat.lt_of_not_le fun z=>nix0 (.inr z)
 obtain⟨avs,e1,e⟩:=oBq.mp e;split at e
 .rename_i a ts;obtain⟨bs,e2,e⟩:=oMq.mp e;cases e;obtain⟨p,vs,Gs,s1,s2,h1,h2,h3,h4,h5,h6⟩:=R.ow (bh e1);have n1:bF (.ow [a,.ow ts]) [1]=some ts:=rfl;have hvl:1<vs.length:=by rw[←h3.1];exact WY _
  obtain⟨u1,hu1⟩:∃u1,vs[1]?=some u1:=⟨_,gEg hvl⟩;have a1:vI H (.ref p) [1] u1:=⟨p,vs,u1,rfl,h1,hu1,rfl⟩;obtain⟨q,ws,rfl,q1,q2⟩:=jc R (bh e1) s1 n1 a1;have hlen:i<S.length:=(gSq.mp (bh e1)).1;refine⟨_,s1,p,vs,1,.ref q,rfl,rfl,dJ.of h1,qE (j:=1) hu1,q,rfl,⟨ws,dJ.of q1⟩,?_⟩;refine zA (xs:=ws) (fun j σ' H'=>∃Fs' cs,bK K H₀ Hf₀ Hf ((S.set i (some (.ow [a,.ow cs]))).set x none) σ' H' Fs'/\σ'[i]?=some (some (.ref p))/\H' p=some (.lst vs)/\H' q=some (.lst ws)/\∀k,j<=k->cs[k]?=ts[k]?) ⟨Fs.set x [],ts,?_,s1,h1,q1,fun _ _=>rfl⟩ (fun j σ' H' _ ⟨_,_,_,_,_,q,_⟩=>dJ.of q) ?_ ?_
  .have e0:S.set i (some (.ow [a,.ow ts]))=S:=by
    obtain⟨hk,ev⟩:=gSq.mp (bh e1);rw[←ev];exact Xw hk
   rw[e0];exact R.kill x
  .rintro j u σ' H' hu ⟨Fs',cs,R',s1',hp',hq',hk⟩;have hj:j<ws.length:=(gSq.mp hu).1;have hja:j<ts.length:=q2 ▸ hj;obtain⟨as,ea,hl,eb⟩:=vD e2 (gEg hja);have hcj:cs[j]?=some (.ow as):=by rw[hk j (Vu _),gEg hja,ea]
   have n2:bF (.ow [a,.ow cs]) [1,j]=some as:=by
    show (cs[j]?).bind (fun a=>bF a [])=_
    rw[hcj];rfl
   have R1:=R'.any u;have hxl:x<σ'.length:=by
    have:=R'.len;rw[lZq,lZq]at this;lia
   have si1:(σ'.set x (some u))[i]?=some (some (.ref p)):=by rw[VA (Ne.symm nix)];exact s1'
   have hSi:((S.set i (some (.ow [a,.ow cs]))).set x none)[i]?=some (some (.ow [a,.ow cs])):=by rw[VA (Ne.symm nix),VS hlen]
   have a2:vI H' (.ref p) [1,j] u:=⟨p,vs,.ref q,rfl,hp',hu1,q,ws,u,rfl,hq',hu,rfl⟩;obtain⟨q',us,rfl,z1,z2⟩:=jc R1 hSi si1 n2 a2;obtain⟨v0,F,t1,t2,r,nd,oo,_⟩:=R1.move hSi;rw[si1]at t1;cases t1;obtain⟨G,rG,nG,pG⟩:=r.part nd hp' (j:=1) rfl hu1;obtain⟨G2,rG2,nG2,qG⟩:=rG.part nG hq' hcj hu;obtain⟨q0',zs',Es2,y3,y4,_⟩:=rG2.ow_inv;cases y3;have qq:q≠q':=fun z=>qG (by rw[z,y4];simp)
   have pq:p≠q':=fun z=>by
    obtain⟨q9,us9,Es9,x1,x2,x3,x4,x5⟩:=rG.ow_inv;cases x1;rw[hq']at x3;cases x3;have hG0:=gEg (show j<Es9.length by rw[←x5.2.1];exact(gSq.mp hcj).1)
    have r0:=x5.2.2 j _ _ _ hcj hu hG0;obtain⟨q8,us8,Es8,w1,w2,_⟩:=r0.ow_inv;cases w1;exact pG (by rw[z,x2];exact mCo _ (bT hG0 (by rw[w2];simp)))
   refine⟨.ref q',VS hxl,.inl ⟨rfl,us,dJ.of z1⟩,q',us,v,rfl,rfl,z1,by rw[gC,z2];exact hl,?_⟩
   obtain⟨zs2,g1,g2,g3⟩:=R1.grow hSi si1 n2 a2;rw[z1]at g1;cases g1;obtain⟨Fs1,R2⟩:=g3 [.sh d] [v] [[]] (bu.nil.snoc (.sh (hv _))) (by simp) (fun z hz=>by simp at hz)
   have em1:putAt (.ow [a,.ow cs]) [1,j] (as++[.sh d]) = .ow [a,.ow (cs.set j (.ow (as++[.sh d])))]:=by
    show AV.ow ([a,.ow cs].set 1 (match cs[j]? with|some a=>AV.ow (cs.set j (putAt a [] (as++[AV.sh d])))|none=>.ow cs))=_
    rw[hcj];rfl
   rw[em1,ZI _ _ (Ne.symm nix),Yh]at R2;refine⟨Fs1,_,R2,si1,by rw[ax pq];exact hp',by rw[ax qq];exact hq',fun k hjk=>?_⟩
   rw[VA (by lia)]
   exact hk k (by lia)
  .rintro σ' H' ⟨Fs',cs,R',_,_⟩;have R2:=R'.kill i;rw[ZI _ _ (Ne.symm nix),Yh]at R2;exact h _ _ _ _ (.refl _) R2
 .cases e
end
end Z
namespace Mr
open PySem PySem.Spec PySem.W PyProof.Rows L2 HT
end Mr
namespace Z
open PySem L2 Mr Xe
end Z
namespace Z
open PySem PySem.Spec PySem.W PyProof.Rows L2 Mr Xe
end Z
namespace Mr
open PySem L2
open PySem.Spec PyProof.Rows
end Mr
namespace Z
open PySem L2 Mr Xe
def UK(f:D->D->Option D) (m b:ME):ME:=fun S=>(m S).bind fun x=>(b x.2).bind fun y=>(f x.1 y.1).bind fun d=>if d.scal then some (d,y.2) else none
def UO(i:Nat) (g:Int->Int->Int) (b:ME):MS:=fun S=>(aq i S).bind fun x=>(intOf x.1).bind fun a=>(b x.2).bind fun y=>(intOf y.1).map fun c=>.nx (y.2.set i (some (.sh (.int (g a c)))))
def S9(i:Nat) (pf:MP) (mm:ME):MS:=fun S=>(pf S).bind fun x=>(cJ x.2 i).bind fun avs=>(bF (.ow avs) x.1).bind fun as=>(mm (x.2.set i none)).bind fun y=>iD (y.2[i]?=some none/\as.length<dg) (some (.nx (y.2.set i (some (putAt (.ow avs) x.1 (as++[.sh y.1]))))))
def IU(g:MF) (f:mv) (a:MA):MX:=fun S=>(a S).bind fun x=>(f (x.1.map aE)).bind (lZ fun r=>(g [aE r]).map fun z=>.ok (.rt z))
section
variable {K:W.Frag}
theorem FM{E:XK}{ta:TA}{a:MA}{f:mv}{g:MF}(ha:SA K ta a):Dt K E (Gr (jR (bR K g) [] E0 (eY (jR (og K f) [] E ta) jb))) (IU g f a):=by
 intro H₀ Hf₀ Hf S σ H Fs o R e D q;obtain⟨x,e1,e⟩:=oBq.mp e;obtain⟨r,e2,e⟩:=oBq.mp e;refine ha R (as:=x.1) (S':=x.2) e1 _ fun Hf1 H1 Fs1 vs Gs t1 R1 r1 o1=>?_
 obtain⟨R2,r2,t2⟩:=R1.gives t1 r1 o1;rw[aNq];refine⟨_,_,r,R2.sub,r2,e2,tK R2 e t2.sf q fun av z Hf' H' v F s1 R' ra nd fr=>?_⟩
 obtain⟨z1,ez,z⟩:=oMq.mp z;cases z;have rs:bu K Hf' H' [av] [v] [F]:=bu.nil.snoc ra;have n:∀q∈[F].flatten,Hf' q=none:=fun q hq=>(rs.owned q hq).2
 have hF:∀q∈[F].flatten,q∈F:=fun q hq=>by rwa [VZ]at hq
 have R3:=R'.frz (fun q hq=>⟨R2.fr.free (fr q (hF q hq)),fun m=>(R2.mem m).1 (fr q (hF q hq))⟩) n
 have r3:=rs.frozen (eI n) fun q hq=>oR hq
 refine⟨_,[aE av],z1,R3.sub,r3,ez,fun Hf4 H4 v4 F4 u1 u2 u3 l' ra' nd' fr'=>?_⟩
 have R4:=kC R3 u1 u2 u3 l';exact q _ _ _ _ R4.sf R4.fr R4.sub R4.lim ra' nd' fun p hp=>R3.fr.free (fr' p hp)
end
theorem Pa(S:AS) (g:MF) (f:mv) (a:MA):IU g f a S=(a S).bind fun x=>(f (x.1.map aE)).bind (lZ fun r=>(g [aE r]).map fun z=>.ok (.rt z)):=rfl
def U2:=@Pa
def UY:=Vs zq (Vs Vi (Vs UV (Vs UN (Vs U4 (Vs U8 (Vs Vd (Vs U3 (Vs UZ (Vs U0 (Vs Vf (U2)))))))))))
end Z
local macro_rules | `(tactic| simp_arith [$ls,*]) => `(tactic| simp -implicitDefEqProofs only [Z.UY,Nat.reduceAdd,Nat.reduceSub,Nat.reduceEqDiff,Nat.reduceLeDiff,List.reduceReplicate,↓reduceIte,reduceCtorEq,$ls,*])
namespace Z
open PySem PySem.Spec PySem.W PyProof.Rows L2 Mr Xe
def QY(ta:TE):TE:=fun σ H _=>ta σ H fun _ _=>False
theorem Oj{X:Cx}{m:Str}{pos apos:Pos}{o:Expr}{ta:TE}{pl:Sem Bool}(he:PE X o ta)
  (ht:eval (.Call (.Attribute o m apos) [] [] pos) X.env=(do
   let ov ←eval o X.env
   standAt apos.atName
   let (f,first) ←holding [ov] (getMethod ov m pl)
   callWith pos f first (backTo pos (starEach [] X.env)) (backToKw pos (keywordEach [] X.env))):=by rfl):PE X (.Call (.Attribute o m apos) [] [] pos) (QY ta):=by
 intro ae s σ H Q I h;exact W.methodCall_KW (pl:=pl) (dB (he ae s σ H _ I h) fun u s1 ⟨x,H1,I1,rx,z⟩=>z.elim) ht
def Og(f:mv) (a:MA):MX:=fun S=>(a S).bind fun x=>(f (x.1.map aE)).bind (lZ fun _=>none)
theorem LQ{K:Frag}{E:XK}{ta:TA}{a:MA}{f:mv}(ha:SA K ta a):Dt K E (Gr (QY (jR (og K f) [] E ta))) (Og f a):=by
 intro H₀ Hf₀ Hf S σ H Fs o R e D q;obtain⟨x,e1,e⟩:=oBq.mp e;obtain⟨r,e2,e⟩:=oBq.mp e;refine ha R (as:=x.1) (S':=x.2) e1 _ fun Hf1 H1 Fs1 vs Gs t1 R1 r1 o1=>?_
 obtain⟨R2,r2,t2⟩:=R1.gives t1 r1 o1;rw[aNq];exact⟨_,_,r,R2.sub,r2,e2,tK R2 e t2.sf q fun av z Hf' H' v F s1 R' ra nd fr=>by cases z⟩
theorem RC(S:AS) (f:mv) (a:MA):Og f a S=(a S).bind fun x=>(f (x.1.map aE)).bind (lZ fun _=>none):=rfl
end Z
namespace Zl
open PySem L2 Mr Z
def Ek:MS:=(cB (kSc (AJ (bV KB (aq 0) (rC (.int 0))) (bV JN (kF TH (ai (aq 0) aG)) (bV Ga (rC (.int 10)) (rC (.int 60)))))))
def FX:MF:=fE 1 1 Ek
def qM:MS:=(aJ (jl (dC (bV yV (kF iz (ai (aq 0) aG)) (rC (.int 0)))) (cB (cW aK)) bG)
 (aJ (aZ 1 (kSc (P6 "list" lN (aq 0) (ai (kF DS (ai (aq 0) aG)) aG))))
 (cB (oH (lOf (CC (jO 0) (iR (aq 1)) mn)) (lOf (CC (jO 0) mn (iR (aq 1))))))))
def jz:MF:=fE 1 2 qM
def gJ:MS:=(EA 1 (kE 2))
def kW:MS:=(aJ (aZ 1 (cW aK))
 (aJ (sL 2 (aH 0) gJ)
 (cB (pP 1))))
def aX:MF:=fE 1 3 kW
def kX:MS:=(aJ (jl (dC (bV JN (aq 1) (kF iz (ai (aq 0) aG)))) (cB (kSc (bV sD (aq 0) (aq 1)))) bG)
 (cB (kSc (rC (.int 0)))))
def aV:MF:=fE 2 2 kX
def kL:MS:=(cB (tE (eX (lu (aH 0)) [] gf (bj Zl.jz (au (aH 0) aK)))))
def cw:MF:=fE 1 1 kL
def nR:MX:=(MJ (eh (dC (cK Zl.FX (ai (aq 1) aG)))) (qQ "NoEnd" "end" (ai (aq 1) aG)) (yW bG))
def pU:MX:=(PQ 1 (aH 0) nR)
def rE:mv:=kM 1 2 pU
def oU:MX:=(mZ (MJ (dC (SN (aq 2) (aq 1))) (qQ "Twice" "end" (ai (aq 2) aG)) (yW bG)) (yW (oj 1 (aq 2) (kSc (rC (.bl true))))))
def rA:MX:=(mZ (yW (aZ 1 qt))
 (PQ 2 (aH 0) oU))
def sI:mv:=kM 1 3 rA
def qf:MS:=(oj 1 (aq 2) (kSc (rC (.bl true))))
def pD:MX:=(MJ (dC (nO (kr gn (aq 2)) (aq 1))) (qQ "Lone" "end" (ai (aq 2) aG)) (yW bG))
def sH:MX:=(mZ (yW (aZ 1 qt))
 (mZ (yW (sL 2 (aH 0) qf))
 (PQ 2 (aH 0) pD)))
def uJ:mv:=kM 1 3 sH
def dD:MX:=(mZ (MJ (dC (bV A0 (kF iz (ai (rOf (bj Zl.aX (au (aH 0) aK))) aG)) (rC (.int 128)))) (tG "TooMany") (yW bG))
 (MJ (dC (bV A0 (Gc (aq 0)) (rC (.int 128)))) (tG "TooMany") (yW bG)))
def bN:mv:=kM 1 1 dD
def Ae:MX:=(mZ (yW (aZ 1 (bj Zl.aX (au (aH 0) aK))))
 (mZ (pK Zl.rE (au (aH 1) aK))
 (mZ (pK Zl.sI (au (aH 1) aK))
 (mZ (pK Zl.uJ (au (aH 1) aK))
 (mZ (pK Zl.bN (au (aH 0) aK))
 (yW (cB (bj Zl.cw (au (aH 0) aK)))))))))
def BC:mv:=kM 1 2 Ae
def vf:MS:=(cB (Bw (lOf (bj Zl.aX (au (aH 0) aK)))))
def kB:MF:=fE 1 1 vf
def uO:MS:=(oj 1 (aq 4) (aH 2))
def vi:MS:=(sL 4 (aH 3) uO)
def yx:MS:=(aJ (aZ 1 qt)
 (aJ (QH 2 3 (aH 0) vi)
 (cB (pP 1))))
def zz:MF:=fE 1 5 yx
theorem qa(ns:List Int) {k:Int}(h:0<=k):aV [.scr ns,.int k]=some (.sh (.int (cell ns k.toNat))):=by
 by_cases c:k<(ns.length:Int)
 .have hk:k.toNat<ns.length:=by lia
  have e:ns.getD k.toNat 0=ns[k.toNat]:=jQ hk
  simp_arith [aV,kX,c,xu h,gEg hk,cell,e]
 .have hk:ns.length<=k.toNat:=by lia
  have e:ns.getD k.toNat 0=0:=by rw[gDq,Wv hk];rfl
  simp_arith [aV,kX,c,cell,e]
theorem Mv(ns:List Int):aV [.scr ns,.int 0]=some (.sh (.int (cell ns 0))):=qa ns (by decide)
theorem Qe(ns:List Int):aV [.scr ns,.int 1]=some (.sh (.int (cell ns 1))):=qa ns (by decide)
theorem Rf(ns:List Int):aV [.scr ns,.int 2]=some (.sh (.int (cell ns 2))):=qa ns (by decide)
theorem wz{n:Int}{ns:List Int}:ns.foldl min n∈n::ns/\∀x∈n::ns,ns.foldl min n<=x:=⟨kd ns n,fun x hx=>(VB.mp hx).elim (fun e=>e ▸ (iZ ns n).1) ((iZ ns n).2 x)⟩
theorem DN{ns:List Int}(hl:ns.length<=500000):jz [dI ns]=some (aI (good ns)):=by
 cases ns with
 |nil =>
  have h1:((0:Nat):Int)=0:=rfl
  simp_arith [jz,qM,h1]
  rfl
 |cons n ns =>
  obtain⟨h1,h2⟩:=wz (n:=n) (ns:=ns);have e:=mW h1 h2;have hle:=tZ (n::ns);have hne:¬ ((n::ns).length:Int)=0:=by simp only[lCq];lia
  have hm:DS [dI (n::ns)]=some (.int (ns.foldl min n)):=by
   show (eB ((n::ns).map D.int)).bind (fun ns=>(yA ns).map D.int)=_
   rw[eZ];rfl
  have hx:lN (dI (n::ns)) [.int (ns.foldl min n)]=some (.int (bJ (n::ns) (n::ns).length:Nat)):=by
   show (eB ((n::ns).map D.int)).bind _=_;rw[eZ];show (if _ then _ else _)=_
   rw[if_pos h1,e]
  generalize hN:n::ns=N at *;have hlen:(N.drop (bJ N N.length)).length+(N.take (bJ N N.length)).length<=dg:=by rw[VI,lTq];show _<=16777216;lia
  simp_arith [jz,qM,hne,hm,hx,gq,sX N _ hle,rz N _ hle,hlen,←mBq,ql]
  rfl
theorem eS{rs:List (List Int)}{i:Nat}{r:List Int}(h:rs[i]?=some r):(rs.take (i+1)).flatten=(rs.take i).flatten++r:=by
 rw[W8,h,fAq];simp
theorem iH(rs:List (List Int)) (i:Nat):(rs.take i).flatten.length<=rs.flatten.length:=by
 have:=congrArg WR (congrArg ZO (V4 i rs));rw[fAq,lAq]at this;lia
theorem Dg{rs:List (List Int)}{i:Nat}{d:D}(h:(rs.map dI)[i]?=some d):∃r,rs[i]?=some r/\d=dI r:=by
 rw[gMq]at h;obtain⟨r,h1,h2⟩:=oMq.mp h;exact⟨r,h1,h2.symm⟩
theorem C6{ns:List Int}{i:Nat}{d:D}(h:(ns.map D.int)[i]?=some d):∃z,ns[i]?=some z/\d = .int z:=by
 rw[gMq]at h;obtain⟨r,h1,h2⟩:=oMq.mp h;exact⟨r,h1,h2.symm⟩
theorem kZ{rs:List (List Int)}(hl:rs.flatten.length<=500000):aX [dM rs]=some (aI rs.flatten):=by
 have key:=rS (x:=2) (body:=gJ) (fun i S=>∃v,S=[some (.sh (dM rs)),some (aI (rs.take i).flatten),v]) (ds:=rs.map dI) (S:=[some (.sh (dM rs)),some (.ow []),none]) ⟨none,by simp⟩ (by
  rintro i d S hd ⟨v,rfl⟩;obtain⟨r,hr,rfl⟩:=Dg hd;have h1:=eS hr;have h2:=iH rs (i+1);rw[h1,lAq]at h2;have h3:(rs.take i).flatten.length+r.length<=dg:=by show _<=16777216;lia
  refine⟨_,?_,some (.sh (dI r)),rfl⟩;rw[h1]
  simp_arith [gJ,h3,ql,←mBq])
 obtain⟨S',e,v,rfl⟩:=key;rw[lMq,Wy]at e
 simp_arith [aX,kW,e]
theorem lV{rs:List (List Int)}{d:D}(h:d∈rs.map dI):∃r∈rs,d=dI r:=by
 obtain⟨r,h1,h2⟩:=mMq.mp h;exact⟨r,h1,h2.symm⟩
def jM:D->List Int
 | .list ds=>(eB ds).getD []
 |_=>[]
theorem fq(r:List Int):jM (dI r)=r:=by
 show (eB (r.map D.int)).getD []=r;rw[eZ];rfl
theorem qB{β:Type}(g:List Int->β) (rs:List (List Int)):(rs.map dI).map (fun d=>g (jM d))=rs.map g:=by
 rw[mPq];exact mCq fun r _=>by show g (jM (dI r))=g r;rw[fq]
theorem zm{rs:List (List Int)}(hl:∀r∈rs,r.length<=500000):dh gf (bj jz (au (aH 0) aK)) [] (rs.map dI)=some ((rs.map good).map aI):=by
 rw[jy (fun d=>aI (good (jM d)))]
 .rw [qB (fun r=>aI (good r)),mPq]
  rfl
 .intro d hd;obtain⟨r,hr,rfl⟩:=lV hd;refine⟨[some (.sh (dI r))],?_⟩
  simp_arith [DN (hl r hr),fq]
theorem ky{rs:List (List Int)}(hl:∀r∈rs,r.length<=500000) (h7:rs.length<=dg):cw [dM rs]=some (.ow ((mw (rs.map good)).map aI)):=by
 have h6:=zm (rs:=rs) hl
 simp_arith [cw,kL,h6,h7]
end Zl
--ZQ3 --ZQ4
namespace Zl
open PySem L2 Mr Z Xe
def bare(rs:List (List Int)):Nat:=rs.countP (·=([]:List Int))
theorem OD{rs:List (List Int)}(hl:rs.flatten.length<=500000):bN [dM rs]=some (if rs.flatten.length<=128/\bare rs<=128 then .ok (.sh .non) else .ex "TooMany" []):=by
 have ht:=kZ hl;unfold bare
 by_cases c1:rs.flatten.length<=128
 .have h4:¬ (128:Int)<(rs.flatten.length:Int):=by lia
  by_cases c2:rs.countP (·=([]:List Int))<=128
  .have h5:¬ (128:Int)<(rs.countP (·=([]:List Int)):Nat):=by lia
   rw[if_pos ⟨c1,c2⟩]
   simp_arith [bN,dD,ht,h4,h5]
  .have h5:(128:Int)<(rs.countP (·=([]:List Int)):Nat):=by lia
   rw[if_neg fun z=>c2 z.2]
   simp_arith [bN,dD,ht,h4,h5]
 .have h4:(128:Int)<(rs.flatten.length:Int):=by lia
  rw[if_neg fun z=>c1 z.1]
  simp_arith [bN,dD,ht,h4]
section
variable {rs:List (List Int)}(hl:rs.flatten.length<=500000)
include hl
end
theorem kJ(rs:List (List Int)):(mw (rs.map good)).flatten.Perm rs.flatten:=(iX (fk _)).trans (dR jd rs)
end Zl
namespace Zl
open PySem L2 Mr Z
theorem L8{rs:List (List Int)}(hl:rs.flatten.length<=500000):kB [dM rs]=some (aI (nQ rs.flatten)):=by
 simp_arith [kB,vf,kZ hl]
theorem He(ns:List Int):dh (dC (bV A0 (aq 0) (rC (.int 0)))) (aH 0) [] (ns.map D.int)=some ((ns.filter fun z=>decide (0<z)).map fun n=>.sh (.int n)):=by
 rw[Z.fe (fun d=>match d with|.int z=>decide (0<z)|_=>false) (fun d=>.sh d)]
 .rw [Xr,mPq];rfl
 .intro d hd;obtain⟨z,hz,rfl⟩:=mMq.mp hd;refine⟨[some (.sh (.int z))],?_,fun _=>⟨[some (.sh (.int z))],?_⟩⟩
  .simp_arith []
  .simp_arith []
noncomputable def CW(p:Nat) (r:List Int):List (bI×D):=r.map fun e=>(.inl e,.int (p:Int))
def Gm:Nat->List (List Int)->List (bI×D)
 |_,[]=>[]
 |p,r::rs=>CW p r++Gm (p+1) rs
theorem zE{az:List (bI×D)}{k:bI}{d:D}(h:k∉az.map (·.1)):ue az k d=az++[(k,d)]:=by
 unfold ue;rw[if_neg];intro e;obtain⟨kv,hk,e⟩:=Zy.mp e;exact h (mMq.mpr ⟨kv,hk,of_decide_eq_true e⟩)
theorem zk{k:bI}:∀{a b:List (bI×D)},k∉a.map (·.1)->Z.getD (a++b) k=Z.getD b k
 | [],b,_=>rfl
 |x::a,b,h=>by
  unfold Z.getD;rw[X6,W2 (by
   intro e;exact h (by rw[←of_decide_eq_true e];simp))]
  exact zk (k:=k) (a:=a) (b:=b) fun m=>h (by simp only[VG,VB];exact .inr m)
theorem zV{p:Nat}{e:Int}{b:List (bI×D)}:∀{r:List Int},e∈r->Z.getD (CW p r++b) (.inl e)=some (.int p)
 | [],h=>by cases h
 |x::r,h=>by
  unfold Z.getD;show ((((Wk x:bI),D.int (p:Int))::(CW p r++b)).find? _).map _=_
  by_cases c:x=e
  .subst c;rw[Xq (by simp)]
   rfl
  .rw [W2 (by simp[c])]
   exact zV (r:=r) ((VB.mp h).resolve_left fun z=>c z.symm)
theorem xQ{e:Int}{r:List Int}:∀{rs:List (List Int)}{i:Nat}(p:Nat),rs.flatten.Nodup->rs[i]?=some r->e∈r->Z.getD (Gm p rs) (.inl e)=some (.int ((p+i:Nat):Int))
 | [],i,p,_,h,_=>by simp at h
 |s::rs,0,p,hn,h,he=>by
  simp at h;subst h;exact zV he
 |s::rs,i+1,p,hn,h,he=>by
  rw[fCq,nAq]at hn;have h':rs[i]?=some r:=by simpa using h
  have:=xQ (rs:=rs) (i:=i) (p+1) hn.2.1 h' he;rw[show p+1+i=p+(i+1) by lia]at this
  rw[←this];refine zk ?_;unfold CW;rw[mPq];intro m;obtain⟨x,hx,e2⟩:=mMq.mp m;cases e2;exact hn.2.2 _ hx _ (mFq.mpr ⟨r,mGq h',he⟩) rfl
theorem zM{c:MT}{body:MS}(P:AS->Prop) (μ:AS->Nat) (Qf:AS->Prop) (h:∀S,P S->∃b S1,c S=some (b,S1)/\(b=true->∃S2,body S1=some (.nx S2)/\P S2/\μ S2<μ S)/\(b=false->Qf S1)) :
  ∀(fuel:Nat) (S:AS),P S->μ S<fuel->∃S',jG c body fuel S=some (.nx S')/\Qf S'
 |0,S,_,hm=>absurd hm (Xo _)
 |n+1,S,hp,hm=>by
  obtain⟨b,S1,e1,h1,h2⟩:=h S hp;rw[K3,e1,XG];cases b with
  |true =>
   obtain⟨S2,e2,p2,m2⟩:=h1 rfl;rw[if_pos rfl,e2];exact zM P μ Qf h n S2 p2 (by lia)
  |false =>
   rw[if_neg (by simp)]
   exact⟨S1,rfl,h2 rfl⟩
end Zl
--ZQ3 --ZQ4 --ZQ5 --ZQ6 --ZQ8 --ZQ9 --ZQB
namespace Zl
open PySem L2 Mr Z Xe
noncomputable def TN(kn:List Nat) (t:Nat):List Nat:=if t∈kn then kn else kn++[t]
noncomputable def plc(rs:List (List Int)) (e:Int):Nat:=rs.findIdx fun r=>decide (e∈r)
theorem By{rs:List (List Int)}(hn:rs.flatten.Nodup) {i j:Nat}{r s:List Int}{e:Int}(hi:rs[i]?=some r) (hj:rs[j]?=some s) (h1:e∈r) (h2:e∈s):i=j:=by
 have a:=xQ 0 hn hi h1;have b:=xQ 0 hn hj h2;rw[a]at b;have:=D.int.inj (V2.inj b);lia
structure Mp (rs:List (List Int)):Prop where
 hn:rs.flatten.Nodup
 hl:rs.flatten.length<=1000
 hr:rs.length<=1000
 hneg:∀e∈rs.flatten, -e∈rs.flatten
def UU(rs:List (List Int)) (k:Nat) (ks:List Nat) (e:Int):List Nat:=if plc rs (-e)=k then ks else TN ks (plc rs (-e))
def nb(rs:List (List Int)) (k:Nat) (r:List Int):List Nat:=r.foldl (UU rs k) []
theorem Fk{α β:Type}{f:α->β->α}{a:α}{r:List β}{i:Nat}{e:β}(he:r[i]?=some e):(r.take (i+1)).foldl f a=f ((r.take i).foldl f a) e:=by
 obtain⟨hi,h2⟩:=gSq.mp he;rw[List.take_succ_eq_append_getElem hi,List.foldl_append,h2];rfl
noncomputable def itr(f:Int->Int):Nat->Int->Int
 |0,e=>e
 |n+1,e=>f (itr f n e)
theorem lL(f:Int->Int) (m:Nat) (e:Int):∀n:Nat,itr f (n+m) e=itr f n (itr f m e)
 |0=>by rw[WT];rfl
 |n+1=>by rw[Nat.add_right_comm];show f (itr f (n+m) e)=f (itr f n (itr f m e));rw[lL f m e n]
theorem Ad:∀(l E:List Int),l.Nodup->(∀x∈l,x∈E)->l.length<=E.length
 | [],E,_,_=>Wf _
 |x::l,E,hn,h=>by
  have hn':=Vx.mp hn;have hx:=h x (V0 ..);have h2:=Ad l (E.erase x) hn'.2 (fun y hy=>by
   refine(List.mem_erase_of_ne ?_).mpr (h y (mCo _ hy));intro e;exact hn'.1 (e ▸ hy))
  rw[List.length_erase_of_mem hx]at h2;have:=YH hx;rw[lCq];lia
theorem FJ{p:Nat->Prop}:∀n,p n->∃m,m<=n/\p m/\∀j,j<m->¬ p j:=by
 intro n
 induction n using Nat.strongRecOn with
 |_ n ih =>
  intro h
  by_cases c:∃j,j<n/\p j
  .obtain ⟨j,hj,pj⟩:=c;obtain⟨m,h1,h2,h3⟩:=ih j hj pj;exact⟨m,by lia,h2,h3⟩
  .exact ⟨n,Vu _,h,fun j hj pj=>c ⟨j,hj,pj⟩⟩
structure AZ (f:Int->Int) (E:List Int):Prop where
 nd:E.Nodup
 to:∀e∈E,f e∈E
 inj:∀a∈E,∀b∈E,f a=f b->a=b
section
variable {f:Int->Int}{E:List Int}
theorem AZ.itr_mem(h:AZ f E) {e:Int}(he:e∈E):∀n,itr f n e∈E
 |0=>he
 |n+1=>h.to _ (h.itr_mem he n)
theorem AZ.itr_inj(h:AZ f E) {a b:Int}(ha:a∈E) (hb:b∈E):∀n,itr f n a=itr f n b->a=b
 |0,e=>e
 |n+1,e=>h.itr_inj ha hb n (h.inj _ (h.itr_mem ha n) _ (h.itr_mem hb n) e)
theorem AZ.cut(h:AZ f E) {e:Int}(he:e∈E) {i j:Nat}(hij:i<=j) (q:itr f i e=itr f j e):itr f (j-i) e=e:=by
 have e1:itr f j e=itr f i (itr f (j-i) e):=by rw[←lL];congr 1;lia
 rw[e1]at q;exact(h.itr_inj he (h.itr_mem he _) i q).symm
structure Cy (f:Int->Int) (e:Int) (l:List Int):Prop where
 len:1<=l.length
 get:l=(Wm l.length).map fun n=>itr f n e
 back:itr f l.length e=e
 nd:l.Nodup
theorem AZ.cy(h:AZ f E) {e:Int}(he:e∈E):∃l,Cy f e l/\l.length<=E.length/\∀j,0<j->j<l.length->itr f j e≠e:=by
 have hex:∃k,1<=k/\k<=E.length/\itr f k e=e:=by
  by_cases c:((Wm (E.length+1)).map fun n=>itr f n e).Nodup
  .have:=Ad _ E c (fun x hx=>by obtain⟨n,_,rfl⟩:=mMq.mp hx;exact h.itr_mem he n)
   rw[lMq,V9]at this;lia
  .rw [V7,Wt]at c;have:∃i j,i<j/\j<E.length+1/\itr f i e=itr f j e:=by
    by_cases d:∃i j,i<j/\j<E.length+1/\itr f i e=itr f j e
    .exact d
    .exfalso;refine c ?_;refine V1.imp_of_mem (R:=fun a b=>a<b) (fun {a b} ha hb hab q=>d ⟨a,b,hab,X0.mp hb,q⟩) YJ
   obtain⟨i,j,hij,hj,q⟩:=this;exact⟨j-i,by lia,by lia,h.cut he (Wu hij) q⟩
 obtain⟨k,h1,h2,h3⟩:=hex;obtain⟨m,m1,⟨m2,m3⟩,m4⟩:=FJ (p:=fun k=>1<=k/\itr f k e=e) k ⟨h1,h3⟩
 refine⟨(Wm m).map fun n=>itr f n e,⟨by rw[lMq,V9];exact m2,by rw[lMq,V9],by rw[lMq,V9];exact m3,?_⟩,by rw[lMq,V9];lia,fun j hj hjm q=>?_⟩
 .rw [V7,Wt];refine V1.imp_of_mem (R:=fun a b=>a<b) (fun {a b} ha hb hab q=>?_) YJ
  have hb':=X0.mp hb;exact m4 (b-a) (by lia) ⟨by lia,h.cut he (Wu hab) q⟩
 .rw [lMq,V9]at hjm;exact m4 j hjm ⟨hj,q⟩
theorem Cy.at{e:Int}{l:List Int}(h:Cy f e l) {i:Nat}(hi:i<l.length):l[i]?=some (itr f i e):=by
 have e1:l[i]?=((Wm l.length).map fun n=>itr f n e)[i]?:=congrArg (fun x:List Int=>x[i]?) h.get
 rw[e1,gMq,XO hi];rfl
theorem Cy.one{e:Int}{l l':List Int}(h:Cy f e l) (h':Cy f e l'):l=l':=by
 have key:∀{l l':List Int},Cy f e l->Cy f e l'->¬ l.length<l'.length:=fun {l l'} h h' hlt=>by
  have a0:=h'.at (i:=0) (by lia)
  have a1:=h'.at (i:=l.length) hlt;rw[h.back]at a1;have:=h'.nd;have e2:=(Zp (i:=0) (j:=l.length) (by lia) this).mp (by rw[a0,a1];rfl)
  have:=h.len;lia
 have h1:=key h h';have h2:=key h' h;have hl:l.length=l'.length:=by lia
 rw[h.get,h'.get,hl]
theorem Cy.self{e:Int}{l:List Int}(h:Cy f e l):e∈l:=mGq (h.at (i:=0) (by have:=h.len;lia))
theorem Cy.rot{e:Int}{l:List Int}(h:Cy f e l) {j:Nat}(hj:j<l.length):Cy f (itr f j e) (l.drop j++l.take j):=by
 have hlen:(l.drop j++l.take j).length=l.length:=by rw[lAq,VI,lTq];lia
 refine⟨by rw[hlen];exact h.len,?_,?_,?_⟩
 .refine Yt fun i=>?_
  rw[hlen,gMq]
  by_cases hi:i<l.length
  .rw [XO hi,W6,←lL]
   by_cases hi2:i<l.length-j
   .rw [gZq (by rw[VI];exact hi2),Xj,h.at (by lia),YF j i]
   .rw [gYq (by rw[VI];lia),VI,Ww (by lia),h.at (by lia)]
    congr 1;have e1:i+j=(i-(l.length-j))+l.length:=by lia
    rw[e1,lL,h.back]
  .rw [Wv (by rw[hlen];lia),Wv (by rw[V9];lia)]
   rfl
 .rw [hlen,←lL,YF,lL,h.back]
 .exact Wg.nodup_iff.mpr (by rw[V4];exact h.nd)
theorem Cy.good{e x:Int}{l l':List Int}(h:Cy f e l) (hx:x∈l) (h':Cy f x l'):Mr.good l'=Mr.good l:=by
 obtain⟨j,hj⟩:=Wn.mp hx;have hlt:=(gSq.mp hj).1;rw[h.at hlt]at hj;have r:=h.rot hlt;rw[V2.inj hj]at r;rw[h'.one r];exact FD h.nd j
structure Bk (f:Int->Int) (E:List Int) (L:List (List Int)):Prop where
 cy:∀l∈L,∃e,Cy f e l
 dj:L.flatten.Nodup
 all:∀x,x∈L.flatten↔x∈E
theorem CS:∀{L:List (List Int)},L.flatten.Nodup->L.Pairwise fun a b=>∀x∈a,∀y∈b,x≠y
 | [],_=>V1.nil
 |a::L,h=>by
  rw[fCq,nAq]at h;exact Ze.mpr ⟨fun b hb x hx y hy=>h.2.2 x hx y (mFq.mpr ⟨b,hb,hy⟩),CS h.2.1⟩
theorem Bk.nd{L:List (List Int)}(h:Bk f E L):(L.map Mr.good).Nodup:=by
 rw[V7,Wt];have hd:=CS h.dj;refine V1.imp_of_mem (fun {a b} ha hb hab q=>?_) hd
 obtain⟨e,c⟩:=h.cy a ha;have h1:e∈Mr.good a:=(jd a).mem_iff.mpr c.self;rw[q]at h1;exact hab e c.self e ((jd b).mem_iff.mp h1) rfl
theorem Bk.sub(hf:AZ f E) {L M:List (List Int)}(h:Bk f E L) (h':Bk f E M) {y:List Int}(hy:y∈L.map Mr.good):y∈M.map Mr.good:=by
 obtain⟨l,hl,rfl⟩:=mMq.mp hy;obtain⟨e,c⟩:=h.cy l hl;have hE:e∈E:=(h.all e).mp (mFq.mpr ⟨l,hl,c.self⟩);obtain⟨m,hm,hem⟩:=mFq.mp ((h'.all e).mpr hE);obtain⟨e',c'⟩:=h'.cy m hm;exact mMq.mpr ⟨m,hm,(c'.good hem c).symm⟩
theorem Bk.perm(hf:AZ f E) {L M:List (List Int)}(h:Bk f E L) (h':Bk f E M):(L.map Mr.good).Perm (M.map Mr.good) :=
 (XI h.nd h'.nd).mpr fun y=>⟨h.sub hf h',h'.sub hf h⟩
end
end Zl
namespace K13
open PySem L2 Mr Z Xe
def AU:MS:=(EA 1 (kE 2))
def Fv:MX:=(mZ (yW (aZ 1 (cW aK)))
 (mZ (yW (sL 2 (aH 0) AU))
 (BD Zl.BC (au (aH 1) aK))))
def uQ:mv:=kM 1 3 Fv
def rB:MS:=(aJ (jl (eh (xp (aq 0))) (cB (cW aK)) bG)
 (aJ (aZ 1 (kSc (P6 "list" lN (aq 0) (ai (kF DS (ai (aq 0) aG)) aG))))
 (cB (oH (lOf (CC (jO 0) (iR (aq 1)) mn)) (lOf (CC (jO 0) mn (iR (aq 1))))))))
def jE:MF:=fE 1 2 rB
def Am:MS:=(cB (tE (eX (lu (aH 0)) [] gf (bj K13.jE (au (aH 0) aK)))))
def jW:MF:=fE 1 1 Am
def gM(fm:MF):MS:=(jl (eh (dC (cK fm (ai (bV ES (aq 0) (aq 2)) (ai (bV ES (aq 1) (aq 2)) aG))))) (cB (kSc (rC (.bl false)))) bG)
def jI(fm:MF):MS:=(aJ (jl (vO (dC (kF eT (ai (aq 1) (ai (rC (.ty "list")) aG)))) (dC (kF eT (ai (aq 1) (ai (rC (.ty "tuple")) aG))))) (aJ (jl (vO (dC (bV KB (kF eT (ai (aq 0) (ai (rC (.ty "list")) aG))) (kF eT (ai (aq 1) (ai (rC (.ty "list")) aG))))) (dC (bV KB (kF eT (ai (aq 0) (ai (rC (.ty "tuple")) aG))) (kF eT (ai (aq 1) (ai (rC (.ty "tuple")) aG)))))) (cB (kSc (rC (.bl false)))) bG) (aJ (jl (dC (bV KB (kF iz (ai (aq 0) aG)) (kF iz (ai (aq 1) aG)))) (cB (kSc (rC (.bl false)))) bG) (aJ (xv 2 (ai (kF iz (ai (aq 1) aG)) aG) (gM fm)) (cB (kSc (rC (.bl true))))))) bG)
 (aJ (jl (dC (bV vM (aq 1) (rC .non))) (cB (kSc (bV vM (aq 0) (rC .non)))) bG)
 (aJ (jl (dC (kF eT (ai (aq 1) (ai (rC (.ty "str")) aG)))) (cB (kSc (AJ (kF eT (ai (aq 0) (ai (rC (.ty "str")) aG))) (bV yV (aq 0) (aq 1))))) bG)
 (cB (kSc (AJ (kF eT (ai (aq 0) (ai (rC (.ty "int")) aG))) (AJ (Np (kF eT (ai (aq 0) (ai (rC (.ty "bool")) aG)))) (bV yV (aq 0) (aq 1)))))))))
def cY(fm:MF):MF:=fE 2 3 (jI fm)
def ba:MF:=(cY (cY (cY (cY Z.GS))))
end K13
namespace K51
open PySem L2 Mr Z Xe
def oE:MS:=(oj 1 (aq 3) (aH 4))
def oz:MS:=(JE 3 4 (aH 2) (oH (lOf (CC (jO 2) (iR (rC (.int 1))) mn)) (lOf (CC (jO 2) mn (iR (rC (.int 1)))))) oE)
def zj:MS:=(aJ (aZ 1 qt)
 (aJ (sL 2 (aH 0) oz)
 (cB (pP 1))))
def qv:MF:=fE 1 5 zj
def yQ:MS:=(aJ (aZ 7 (kSc (Aa (aq 2) (kr gn (aq 6))))) (jl (dC (nO (aq 7) (aq 3))) (aJ (oj 3 (aq 7) (kSc (rC (.bl true)))) (mB 4 (aH 7))) bG))
def yO:MS:=(aJ (RG 5 (wZ 4)) (sL 6 (Rj (jO 0) (aq 5)) yQ))
def BI:MS:=(aJ (aZ 2 (bj Zl.zz (au (aH 0) aK)))
 (aJ (aZ 3 (NS (aq 1) (kSc (rC (.bl true)))))
 (aJ (aZ 4 (cW (au (aH 1) aK)))
 (aJ (jG (dC (bV A0 (kF iz (ai (aq 4) aG)) (rC (.int 0)))) yO 100000)
 (cB (O7 (aq 3)))))))
def Ey:MF:=fE 2 8 BI
def Av:MS:=(oj 1 (aq 5) (kSc (rC (.bl true))))
def AK:MS:=(jl (dC (nO (aq 3) (aq 1))) (aJ (aZ 4 (bj K51.Ey (au (aH 0) (au (aH 3) aK)))) (aJ (sL 5 (aH 4) Av) (mB 2 (eX (lu (aH 4)) [0] gf (uX (lOf (Rj (jO 1) (aq 0)))))))) bG)
def El:MS:=(aJ (aZ 1 qt)
 (aJ (aZ 2 (cW aK))
 (aJ (xv 3 (ai (kF iz (ai (aq 0) aG)) aG) AK)
 (cB (pP 2)))))
def IT:MF:=fE 1 6 El
def wX:MS:=(cB (eX (lu (aH 0)) [] gf (uX (jO 0))))
def ku:MF:=fE 1 1 wX
end K51
namespace K12
open PySem L2 Mr Z Xe
def ou:MS:=(aJ (aZ 1 (kSc (rC (.int 1))))
 (aJ (aZ 2 (kSc (rC (.int 0))))
 (aJ (jl (dC (bV A0 (bV il (cK Zl.aV (ai (aq 0) (ai (rC (.int 0)) aG))) (rC (.int 3))) (rC (.int 0)))) (aJ (aZ 1 (kSc (bV lK (rC (.int 1)) (bV il (cK Zl.aV (ai (aq 0) (ai (rC (.int 1)) aG))) (bV Ga (rC (.int 10)) (rC (.int 58))))))) (aZ 2 (kSc (bV il (cK Zl.aV (ai (aq 0) (ai (rC (.int 2)) aG))) (bV Ga (rC (.int 10)) (rC (.int 58))))))) bG)
 (aJ (aZ 3 (kSc (bV lK (rC (.int 1)) (bV il (bV AM (cK Zl.aV (ai (aq 0) (ai (rC (.int 0)) aG))) (rC (.int 3))) (rC (.int 66))))))
 (aJ (aZ 4 (kSc (bV il (bV AM (cK Zl.aV (ai (aq 0) (ai (rC (.int 0)) aG))) (rC (.int 198))) (rC (.int 67)))))
 (cB (eX (RD (ai (rC (.int 66)) aG)) [2,1,4,3] gf (kSc (bV lK (bV xO (aq 2) (bV lK (bV il (bV lK (bV xO (aq 4) (aq 0)) (aq 3)) (rC (.int 67))) (rC (.int 1)))) (aq 1))))))))))
def gP:MF:=fE 1 5 ou
def eD:MS:=(aJ (aZ 7 (kSc (bV il (aq 6) (rC (.int 8))))) (Kl 8 2 (JM 2 (JM 2 (Bb 2) (kr gn (rC (.int 1)))) (bV sD (aq 3) (kr gn (rC (.int 1))))) (Bo 2 (aZ 9 (kSc (bV sD (aq 1) (aq 5)))) (Bo 2 (jl (dC (bV yV (bV il (bV AM (aq 6) (rC (.int 8))) (rC (.int 2))) (rC (.int 1)))) (aZ 9 (kSc (kr gn (aq 9)))) bG) (vK 2 (dC (bV JN (aq 7) (rC (.int 4)))) (fun path=>aJ ((Cg 2 (aH 9)) path) (aJ (aZ 5 (kSc (bV lK (aq 5) (rC (.int 1))))) (jl (dC (bV JN (aq 7) (rC (.int 2)))) (mB 4 (kSc (kr gn (aq 9)))) (aJ (mB 3 (kSc (kF iz (ai (bV sD (aq 2) (kr gn (rC (.int 1)))) aG)))) (Cq 2 (JM 2 (Bb 2) (kr gn (rC (.int 1)))) (cW (au (kSc (kr gn (aq 9))) aK))))))) (vK 2 (dC (bV JN (aq 7) (rC (.int 6)))) (vK 2 (xp (aq 4)) (yP 2 (tJ 4 (bV il (bV AM (aq 6) (rC (.int 16))) (kF iz (ai (aq 4) aG))))) (fun _=>bG)) (vK 2 (dC (bV yV (aq 7) (rC (.int 6)))) (fun _=>(jl (dC (bV A0 (kF iz (ai (aq 3) aG)) (rC (.int 1)))) (yK (wZ 3)) bG)) (fun path=>aJ ((DC 2 (kE 4)) path) (aJ (aZ 4 (cW aK)) (aJ (mB 2 (cW (au (cW aK) aK))) (aZ 3 (cW (au (kSc (rC (.int 0))) aK)))))))))))))
def uy:MS:=(aJ (aZ 2 (cW (au (cW (au (cW aK) aK)) aK)))
 (aJ (aZ 3 (cW (au (kSc (rC (.int 0))) aK)))
 (aJ (aZ 4 (cW aK))
 (aJ (aZ 5 (kSc (rC (.int 0))))
 (aJ (sL 6 (aH 0) eD)
 (aJ (Io 2 (JM 2 (JM 2 (Bb 2) (kr gn (rC (.int 1)))) (bV sD (aq 3) (kr gn (rC (.int 1))))) (kE 4))
 (cB (pP 2))))))))
def jj:MF:=fE 2 10 uy
end K12
namespace K15
open PySem L2 Mr Z
def lE:MS:=(oj 2 (aq 3) (kSc (BH (aq 1) (kr gn (aq 3)))))
def vC:MS:=(aJ (aZ 1 (bj K51.qv (au (aH 0) aK)))
 (aJ (aZ 2 qt)
 (aJ (FU 3 1 lE)
 (cB (pP 2)))))
def kx:MF:=fE 1 4 vC
def iJ:MS:=(aJ (mB 2 (aH 3)) (aZ 3 (kSc (Aa (aq 0) (aq 3)))))
def nZ:MS:=(aJ (aZ 2 (cW (au (aH 1) aK)))
 (aJ (aZ 3 (kSc (Aa (aq 0) (aq 1))))
 (aJ (jG (dC (bV KB (aq 3) (aq 1))) iJ 100000)
 (cB (pP 2)))))
def gN:MF:=fE 2 4 nZ
def lg:MS:=(oj 2 (aq 6) (kSc (rC (.bl true))))
def jv:MS:=(jl (dC (nO (aq 4) (aq 2))) (aJ (aZ 5 (bj K15.gN (au (aH 1) (au (aH 4) aK)))) (aJ (sL 6 (aH 5) lg) (mB 3 (aH 5)))) bG)
def AE:MS:=(aJ (aZ 1 (bj K15.kx (au (aH 0) aK)))
 (aJ (aZ 2 qt)
 (aJ (aZ 3 (eX (lu (aH 0)) [] (dC (bV yV (kF iz (ai (aq 0) aG)) (rC (.int 0)))) (cW aK)))
 (aJ (sL 4 (bj Zl.kB (au (aH 0) aK)) jv)
 (cB (bj Zl.cw (au (aH 3) aK)))))))
def dN:MF:=fE 1 7 AE
end K15
namespace K23
open PySem L2 Mr Z Xe
def oJ:MX:=(mZ (pK Zl.bN (au (aH 0) aK))
 (yW (cB (bj Zl.cw (au (aH 0) aK)))))
def jf:mv:=kM 1 1 oJ
def tT:MS:=(cB (eX (lu (aH 0)) [1] (dC (bV (qp true) (aq 0) (aq 1))) (aH 0)))
def jk:MF:=fE 2 2 tT
def fN:MX:=(mZ (MJ (dC (bV (qp true) (aq 1) (rOf (bj Zl.aX (au (aH 0) aK))))) (qQ "NotThere" "end" (ai (aq 1) aG)) (yW bG))
 (BD K23.jf (au (eX (lu (aH 0)) [1] gf (bj K23.jk (au (aH 0) (au (qr (au (aH 1) (au (kSc (kr gn (aq 1))) aK))) aK)))) aK)))
def aY:mv:=kM 2 2 fN
def mD:MX:=(BD K23.aY (au (aH 1) (au (kSc (kr (vU "Cut" "road") (aq 0))) aK)))
def fo:mv:=kM 2 2 mD
def jS:MX:=(pK K23.fo (tS "Cut" "done" (aH 0) (au (aH 1) aK)))
def dQ:mv:=kM 2 2 jS
def qK:MS:=(aJ (aZ 1 (cW aK))
 (aJ (jl (eh (dC (kF vW (ai (aq 0) (ai (rC (.ty "ValueError")) aG))))) (mB 1 (qr (au (kSc (rC (.str "plain"))) (au (kSc (rC (.int 0))) aK)))) bG)
 (aJ (jl (dC (kF vW (ai (aq 0) (ai (DG "Taken") aG)))) (mB 1 (qr (au (kSc (rC (.str "taken"))) (au (kSc (kr (we "road") (aq 0))) aK)))) bG)
 (aJ (jl (dC (kF vW (ai (aq 0) (ai (DG "NotThere") aG)))) (mB 1 (qr (au (kSc (rC (.str "there"))) (au (kSc (kr (we "end") (aq 0))) aK)))) bG)
 (aJ (jl (dC (kF vW (ai (aq 0) (ai (DG "NoPlace") aG)))) (mB 1 (qr (au (kSc (rC (.str "place"))) (au (kSc (rC (.int 0))) aK)))) bG)
 (aJ (jl (dC (kF vW (ai (aq 0) (ai (DG "TooMany") aG)))) (mB 1 (qr (au (kSc (rC (.str "many"))) (au (kSc (rC (.int 0))) aK)))) bG)
 (cB (pP 1))))))))
def fg:MF:=fE 1 2 qK
def sm:MX:=(mZ (pK K23.dQ (au (aH 0) (au (aH 1) aK)))
 (yW GT))
def jC:mv:=kM 2 2 sm
end K23
namespace K25
open PySem L2 Mr Z Xe
def oi:MS:=(cB (zX "Cut" ["road"] (ai (kr (vU "Draw" "road") (aq 0)) aG)))
def eA:MF:=fE 1 1 oi
def lC:MX:=(IU K15.dN K23.fo (tS "Cut" "done" (bj K25.eA (tS "Draw" "other" (aH 0) aK)) (au (bj K15.dN (au (aH 1) aK)) aK)))
def fj:mv:=kM 2 2 lC
def pE:MX:=(Og K23.jC (tS "Cut" "back" (bj K25.eA (tS "Draw" "other" (aH 0) aK)) (au (bj K15.dN (au (aH 1) aK)) aK)))
def iB:mv:=kM 2 2 pE
def lj:MX:=(BD K25.fj (au (aH 0) (au (aH 1) aK)))
def dr:mv:=kM 2 2 lj
def qP:MS:=(aJ (aZ 2 (kSc (rC .non)))
 (aJ (aZ 3 (kSc (rC .non)))
 (aJ (Dj 3 K25.dr (tS "Draw" "done" (aH 0) (au (aH 1) aK)) (QB "MapError" 4 (aZ 2 (bj K23.fg (au (aH 4) aK))) Ob))
 (aJ (jl (dC (bV vM (aq 2) (rC .non))) (cB (cW (au (kSc (rC (.str "map"))) (au (pP 3) aK)))) bG)
 (cB (cW (au (kSc (rC (.str "refused"))) (au (pP 2) aK))))))))
def eE:MF:=fE 2 5 qP
def rP:MS:=(aJ (aZ 2 (Rj (lOf (eX (lu (aH 0)) [1] (dC (bV (qp false) (aq 1) (aq 0))) (aH 0))) (rC (.int 0))))
 (aJ (aZ 3 (kSc (P6 "list" lN (aq 2) (ai (aq 1) aG))))
 (cB (oH (lOf (CC (jO 2) (iR (bV lK (aq 3) (rC (.int 1)))) mn)) (lOf (CC (jO 2) mn (iR (aq 3))))))))
def gU:MF:=fE 2 4 rP
def jh:MS:=(aJ (jl (dC (bV (qp true) (aq 1) (rOf (bj Zl.aX (au (aH 0) aK))))) (cB (cW (au (kSc (rC (.str "refused"))) (au (cW (au (qr (au (kSc (rC (.str "there"))) (au (aH 1) aK))) aK)) aK)))) bG)
 (aJ (aZ 2 (eX (lu (aH 0)) [1] (wx (dC (bV (qp true) (aq 1) (aq 0))) (dC (bV (qp true) (kr gn (aq 1)) (aq 0)))) (aH 0)))
 (aJ (aZ 3 (bj K25.gU (au (aH 0) (au (aH 1) aK))))
 (aJ (jl (dC (bV (qp false) (kr gn (aq 1)) (aq 3))) (aJ (aZ 4 (kSc (P6 "list" lN (aq 3) (ai (kr gn (aq 1)) aG)))) (aZ 2 (oH (kE 2) (lOf (cW (au (CC (jO 3) mn (iR (aq 4))) (au (CC (jO 3) (iR (bV lK (aq 4) (rC (.int 1)))) mn) aK))))))) (aZ 2 (oH (kE 2) (lOf (cW (au (oH (kE 3) (lOf (bj K25.gU (au (aH 0) (au (kSc (kr gn (aq 1))) aK))))) aK))))))
 (aJ (jl (dC (bV A0 (kF iz (ai (rOf (eX (lu (aH 2)) [] (eh (xp (aq 0))) (aH 0))) aG)) (rC (.int 128)))) (cB (cW (au (kSc (rC (.str "refused"))) (au (cW (au (qr (au (kSc (rC (.str "many"))) (au (kSc (rC (.int 0))) aK))) aK)) aK)))) bG)
 (cB (cW (au (kSc (rC (.str "map"))) (au (bj K13.jW (au (aH 2) aK)) aK)))))))))
def dO:MF:=fE 2 5 jh
def qi:MX:=(BD K25.iB (au (aH 0) (au (aH 1) aK)))
def gm:mv:=kM 2 2 qi
def wg:MS:=(aJ (aZ 2 (kSc (rC .non)))
 (aJ (aZ 3 (kSc (rC .non)))
 (aJ (Dj 3 K25.gm (tS "Draw" "back" (aH 0) (au (aH 1) aK)) (QB "MapError" 4 (aZ 2 (bj K23.fg (au (aH 4) aK))) Ob))
 (aJ (jl (dC (bV vM (aq 2) (rC .non))) (cB (cW (au (kSc (rC (.str "back"))) (au (pP 3) aK)))) bG)
 (cB (cW (au (kSc (rC (.str "refused"))) (au (pP 2) aK))))))))
def ju:MF:=fE 2 5 wg
def pQ:MS:=(cB (qr (au (kSc (rC (.str "draw"))) (au (kSc (kr (vU "Draw" "road") (aq 0))) aK))))
def gb:MF:=fE 1 1 pQ
def FK:MS:=(aJ (aZ 1 (bj K12.gP (au (aH 0) aK)))
 (aJ (aZ 2 (bj Zl.aX (au (bj K12.jj (au (CC (jO 0) (iR (rC (.int 5))) (iR (rC (.int 65)))) (au (aH 1) aK))) aK)))
 (aJ (aZ 3 (kSc (bV il (cK Zl.aV (ai (aq 0) (ai (rC (.int 3)) aG))) (rC (.int 12)))))
 (aJ (jl (dC (bV A0 (aq 3) (rC (.int 7)))) (aJ (aZ 2 (oH (kE 2) (lOf (cW (au (cW (au (kSc (bV sD (aq 1) (rC (.int 64)))) (au (kSc (kr gn (bV sD (aq 1) (rC (.int 64))))) aK))) aK))))) (aJ (aZ 4 (kSc (kF iz (ai (rOf (eX (lu (aH 2)) [] (eh (xp (aq 0))) (aH 0))) aG)))) (aZ 2 (oH (kE 2) (lOf (eX (RD (ai (bV KH (bV lK (rC (.int 117)) (aq 3)) (aq 4)) aG)) [] gf (cW aK))))))) bG)
 (aJ (aZ 5 (bj K13.jW (au (aH 2) aK)))
 (aJ (aZ 6 (oH (lOf (eX (lu (bj Zl.aX (au (aH 5) aK))) [] (dC (bV A0 (aq 0) (rC (.int 0)))) (aH 0))) (lOf (cW (au (kSc (bV sD (aq 1) (rC (.int 65)))) aK)))))
 (aJ (aZ 7 (kSc (bV sD (aq 6) (bV il (cK Zl.aV (ai (aq 0) (ai (rC (.int 4)) aG))) (kF iz (ai (aq 6) aG))))))
 (aJ (jl (wx (dC (bV A0 (aq 3) (rC (.int 7)))) (dC (bV yV (bV il (cK Zl.aV (ai (aq 0) (ai (rC (.int 4)) aG))) (rC (.int 3))) (rC (.int 1))))) (aZ 7 (kSc (bV sD (aq 1) (rC (.int 64))))) bG)
 (aJ (aZ 8 (bj K25.dO (au (aH 5) (au (aH 7) aK))))
 (aJ (aZ 9 (zX "Draw" ["road"] (ai (aq 7) aG)))
 (aJ (jl (vO (eh (dC (HS "Draw" true (aq 9)))) (eh (dC (cK K13.ba (ai (rOf (bj K25.gb (tS "Draw" "told" (aH 9) aK))) (ai (rOf (qr (au (kSc (rC (.str "draw"))) (au (aH 7) aK)))) aG)))))) (cB (kSc (rC (.bl false)))) bG)
 (aJ (aZ 10 (bj K51.ku (au (aH 5) aK)))
 (aJ (aZ 11 (bj K25.eE (au (aH 9) (au (aH 10) aK))))
 (aJ (jl (vO (eh (dC (cK K13.ba (ai (aq 11) (ai (aq 8) aG))))) (eh (dC (cK K13.ba (ai (aq 10) (ai (aq 5) aG)))))) (cB (kSc (rC (.bl false)))) bG)
 (aJ (jl (dC (bV yV (bV sD (aq 11) (rC (.int 0))) (rC (.str "map")))) (nF 11 12 (.int 7)) (jl (eh (dC (cK K13.ba (ai (rOf (bj K25.ju (au (aH 9) (au (aH 10) aK)))) (ai (aq 8) aG))))) (cB (kSc (rC (.bl false)))) bG))
 (aJ (jl (eh (dC (cK K13.ba (ai (rOf (bj K25.eE (au (aH 9) (au (aH 10) aK)))) (ai (aq 8) aG))))) (cB (kSc (rC (.bl false)))) bG)
 (cB (kSc (AJ (cK K13.ba (ai (aq 10) (ai (aq 5) aG))) (cK K13.ba (ai (kr (vU "Draw" "road") (aq 9)) (ai (aq 7) aG))))))))))))))))))))))
def Cn:MF:=fE 1 13 FK
def oI(i:Nat):Stmt:=PySem.Challenge.pw_mapround_k25_road_drawn_together.main.body.getD i (.Pass ⟨0,0,0,0⟩)
def Tw(i:Nat):Stmt:=match oI i with|.ClassDef _ _ _ (m::_) _ _ _ _ _ _ _=>m|s=>s
section
variable {P:Program}{w:World}{K:W.Frag}{mg:Str->Option Value}{base:Heap}
def An(i j:Nat):Stmt:=match oI i with|.ClassDef _ _ _ b _ _ _ _ _ _ _=>b.getD j (.Pass ⟨0,0,0,0⟩)|s=>s
abbrev uS:Stmt:=An 35 0
theorem Lg:aR ["self", "road"] ["self", "road"] (aj uS):=⟨rfl,rfl,rfl,by decide +kernel,rfl,by decide +kernel,by decide +kernel⟩
theorem Ke{C f:Addr}{fd:FuncData}(F:yU K "__init__" "Cut.__init__" uS f fd) (b:dY K fd ["self", "road"] []) (mk:Mk K C f) (cl:Ah K C) (n0:cO K C "road") (m:mg "Cut" = some (.ref C)):Hn P w K mg base "Cut" C f fd ["self", "road"] ["road"] :=
 ⟨mk,F.ok Lg (fun vs H Q E h=>vn h) fun ee A outer s H vs Q E hr h=>⟨_,ar (Gx (pv 0) (pv 1) rfl),M1 cl n0 h⟩,b,m⟩
abbrev qb:Stmt:=An 37 0
theorem Hy:aR ["self", "road"] ["self", "road"] (aj qb):=⟨rfl,rfl,rfl,by decide +kernel,rfl,by decide +kernel,by decide +kernel⟩
theorem Jy{C f:Addr}{fd:FuncData}(F:yU K "__init__" "Draw.__init__" qb f fd) (b:dY K fd ["self", "road"] []) (mk:Mk K C f) (cl:Ah K C) (n0:cO K C "road") (m:mg "Draw" = some (.ref C)):Hn P w K mg base "Draw" C f fd ["self", "road"] ["road"] :=
 ⟨mk,F.ok Hy (fun vs H Q E h=>vn h) fun ee A outer s H vs Q E hr h=>⟨_,ar (Gx (pv 0) (pv 1) rfl),M1 cl n0 h⟩,b,m⟩
abbrev ij:Stmt:=Tw 2
theorem yk:aR ["self", "end"] ["self", "end"] (aj ij):=⟨rfl,rfl,rfl,by decide +kernel,rfl,by decide +kernel,by decide +kernel⟩
theorem yB{C M f:Addr}{fd:FuncData}(F:yU K "__init__" "NotThere.__init__" ij f fd) (b:dY K fd ["self", "end"] []) (rf:lF K "NotThere" C M) (mM:mg "MapError" = some (.ref M)) (hr0:W.readsIn K M (.type "type")=true) (hs0:W.specialIn K (.ref M) "__getattribute__" = some (some (.builtin "type.__getattribute__"))) (hf0:W.findCls K (.ref M) (.type "type") "__init__" = some (.val (.builtin "ValueError.__init__"))) (ini:W.findIn K (.ref C) "__init__" = some (some (.ref f))) (fn:W.isFn K (.ref f)=true) (kp:W.keepIn K (.ref C)=true) (nf:W.findIn K (.ref C) "end" = some none) (m:mg "NotThere" = some (.ref C)):Oe P w K mg base "NotThere" "end" "end" C M f fd :=
 ⟨⟨rf.nm,.inl ⟨M,rf⟩⟩,rf.xc,Ba M,m,⟨rf,ini,fn,kp,nf,m,b,F.ok yk (fun vs H Q E h=>by obtain⟨e,v,C,M,rfl,_⟩:=h;rfl) fun ee A outer s H vs Q E hr h=>⟨_,ag (cu (Q8 (by rfl) mM hr0 hs0 hf0 (aa (pv 0) (aa eN af)))) (ar (Qz (pv 0) (pv 1) rfl)),Hu h⟩⟩⟩
abbrev ik:Stmt:=oI 9
theorem wd:aR ["ends", "start"] ["ends"] (aj ik):=⟨rfl,rfl,rfl,by decide +kernel,rfl,by decide +kernel,by decide +kernel⟩
theorem Fq     (D:fU K mg "turned" ik ["ends"] f fd) (B:Bt mg)     : Fn P w K mg base 1 "turned" ik ["ends"] (bR K Zl.jz) f fd :=
 ⟨D,D.F.ok wd (fun _ _ _ _=>cQ) fun ee A outer s H vs Q E hr h=>⟨_,
   (ag (cA (bA sr (aU dU (by rfl) B.len PySem.boot_len (aa (pv 0) af)) aC (cC _)) (ar (aW (bS af))) bx)
   (ag (aQ (i:=1) wd.nd rfl (by first|exact VL rfl|exact VJ rfl) (eR Vz WU Xi qj (pv 0) (aa (aU (wL rfl) (by rfl) B.min YO (aa (pv 0) af)) af)))
   (ar (aW (cj kq (eV gE (pv 0) (fL (pv 1)) gZ) (eV gE (pv 0) gZ (fL (pv 1)))))))),
   bE ["ends", "start"] (K:=K) (aw (df (bz (aN pB (de gS (ak (ah 0) aF)) aD)) (bf (bX ay)) bD)
   (aw (aS (i:=1) (SR.kSc (C9 (T := "list") pT (ah 0) (ak (de G3 (ak (ah 0) aF)) aF))))
   (bf (ke (SK.lOf (mE (iM 0) (fO (ah 1)) gW)) (SK.lOf (mE (iM 0) gW (fO (ah 1)))))))) h⟩⟩
abbrev cV:Stmt:=oI 10
theorem kS:aR ["turns", "told", "turn"] ["turns"] (aj cV):=⟨rfl,rfl,rfl,by decide +kernel,rfl,by decide +kernel,by decide +kernel⟩
theorem xX     (D:fU K mg "told_ends" cV ["turns"] f fd) (B:Bt mg)     : Fn P w K mg base 1 "told_ends" cV ["turns"] (bR K Zl.aX) f fd :=
 ⟨D,D.F.ok kS (fun _ _ _ _=>cQ) fun ee A outer s H vs Q E hr h=>⟨_,
   (ag (aQ (i:=1) kS.nd rfl (by first|exact VL rfl|exact VJ rfl) (bS af))
   (ag (kj PassesOwn.never rfl (dc (pv 0)) (ft (i:=2) kS.nd rfl (by first|exact VL rfl|exact VJ rfl))
    (ar (cu (eR Vz Xb Xc nP (pv 1) (aa (pv 2) af)))))
   (ar (aW (pv 1))))),
   bE ["turns", "told", "turn"] (K:=K) (aw (aS (i:=1) (bX ay))
   (aw (qX (aA 0) (Ho (i:=1) (jA 2)))
   (bf (jH 1)))) h⟩⟩
abbrev bU:Stmt:=oI 11
theorem oB:aR ["turns"] ["turns"] (aj bU):=⟨rfl,rfl,rfl,by decide +kernel,rfl,by decide +kernel,by decide +kernel⟩
theorem oX{nJ qY:Addr}  (D:fU K mg "refuse_too_many" bU ["turns"] f fd) (B:Bt mg) (g_MOST_ENDS:mg "MOST_ENDS" = some (.int 128 t_MOST_ENDS)) (g_MOST_BARE_PLACES:mg "MOST_BARE_PLACES" = some (.int 128 t_MOST_BARE_PLACES)) (dk:Ht K mg "TooMany" nJ qY) (ie:Fn P w K mg base 1 "told_ends" cV ["turns"] (bR K Zl.aX) ftold_ends fdtold_ends)  : EW P w K mg base 2 "refuse_too_many" bU ["turns"] (og K Zl.bN) f fd :=
 ⟨D,okX D.F oB (fun vs H Q E h=>gY h) fun ee A outer s H vs Q E hr h=>have hu65:=dX.units65 hr;⟨_,
   (ag (cA (bA rV (aU dU (by rfl) B.len PySem.boot_len (aa (bQ ie (hr.mono (by decide)) (aa (pv 0) af)) af)) (lH (v:=.int 128) (by rfl) g_MOST_ENDS ⟨_,rfl⟩) (cC _)) (ar (ur dk.i.rf nI rfl (FL dk.i))) bx)
   (ar (cA (bA rV (eR Vz YD PySem.F.type_list_count (G7 hu65) (pv 0) (aa (bS af) af)) (lH (v:=.int 128) (by rfl) g_MOST_BARE_PLACES ⟨_,rfl⟩) (cC _)) (ar (ur dk.i.rf nI rfl (FL dk.i))) bx))),
   eM ["turns"] (K:=K) (tQ (BN (bz (aN su (de gS (ak (SK.rOf (bp (ao (aA 0) ay))) aF)) aD)) (uV dk.i.rf) (uL bD))
   (BN (bz (aN su (JT (ah 0)) aD)) (uV dk.i.rf) (uL bD))) h⟩⟩
abbrev bZ:Stmt:=oI 12
theorem rp:aR ["turns"] ["turns"] (aj bZ):=⟨rfl,rfl,rfl,by decide +kernel,rfl,by decide +kernel,by decide +kernel⟩
theorem qZ  (D:fU K mg "in_good_order" bZ ["turns"] f fd) (B:Bt mg)   (GG:Fn P w K mg base 1 "turned" ik ["ends"] (bR K Zl.jz) fturned fdturned)  : Fn P w K mg base 2 "in_good_order" bZ ["turns"] (bR K Zl.cw) f fd :=
 ⟨D,D.F.ok rp (fun _ _ _ _=>cQ) fun ee A outer s H vs Q E hr h=>have hu:=hr.units;⟨_,
   (ar (aW (aU (pI hu) (by rfl) B.sorted XR (aa (gD (cl:=[]) (N:=["turn"]) (fr:=[]) rfl rfl (by decide +kernel) rfl (by decide +kernel) rfl (gd.none (by decide +kernel)) (dc (pv 0)) (fun _ _ _ _=>qL) (fun _ _ _ _=>(bQ GG (hr.mono (by decide)) (aa (pv 0) af)))) af)))),
   bE ["turns"] (K:=K) (bf (wK (fh (aA 0) qU (bp (ao (aA 0) ay))))) h⟩⟩
abbrev gg:Stmt:=oI 13
theorem A4:aR ["m"] ["m"] (aj gg):=⟨rfl,rfl,rfl,by decide +kernel,rfl,by decide +kernel,by decide +kernel⟩
theorem BP  (D:fU K mg "ends_of" gg ["m"] f fd) (B:Bt mg)   (ie:Fn P w K mg base 1 "told_ends" cV ["turns"] (bR K Zl.aX) ftold_ends fdtold_ends)  : Fn P w K mg base 2 "ends_of" gg ["m"] (bR K Zl.kB) f fd :=
 ⟨D,D.F.ok A4 (fun _ _ _ _=>cQ) fun ee A outer s H vs Q E hr h=>⟨_,
   (ar (aW (aU yg (by rfl) B.sorted XR (aa (bQ ie (hr.mono (by decide)) (aa (pv 0) af)) af)))),
   bE ["m"] (K:=K) (bf (Hx (SL.q (SK.lOf (bp (ao (aA 0) ay)))))) h⟩⟩
abbrev jZ:Stmt:=oI 14
theorem mV:aR ["m", "following", "turn", "end", "behind"] ["m"] (aj jZ):=⟨rfl,rfl,rfl,by decide +kernel,rfl,by decide +kernel,by decide +kernel⟩
theorem Jh     (D:fU K mg "nexts" jZ ["m"] f fd) (B:Bt mg)     : Fn P w K mg base 1 "nexts" jZ ["m"] (bR K K51.qv) f fd :=
 ⟨D,D.F.ok mV (fun _ _ _ _=>cQ) fun ee A outer s H vs Q E hr h=>⟨_,
   (ag (aQ (i:=1) mV.nd rfl (by first|exact VL rfl|exact VJ rfl) uH)
   (ag (kj PassesOwn.never rfl (dc (pv 0)) (ft (i:=2) mV.nd rfl (by first|exact VL rfl|exact VJ rfl))
    (ar (kj PassesOwn.never rfl (OF (by rfl) B.zip (aa (pv 2) (aa (cj kq (eV gE (pv 2) (fL aC) gZ) (eV gE (pv 2) gZ (fL aC))) af))) (NX rfl (za (ft (i:=3) mV.nd rfl (by first|exact VL rfl|exact VJ rfl)) (za (ft (i:=4) mV.nd rfl (by first|exact VL rfl|exact VJ rfl)) KN)))
    (ar (xt (uw hr) (pv 1) (pv 3) (pv 4) rfl)))))
   (ar (aW (pv 1))))),
   bE ["m", "following", "turn", "end", "behind"] (K:=K) (aw (aS (i:=1) yq)
   (aw (qX (aA 0) (K9 (aA 2) (ke (SK.lOf (mE (iM 2) (fO aD) gW)) (SK.lOf (mE (iM 2) gW (fO aD)))) (ya (i:=1) (aA 4) (ah 3))))
   (bf (jH 1)))) h⟩⟩
abbrev fZ:Stmt:=oI 16
theorem lS:aR ["m", "following", "steps", "end"] ["m"] (aj fZ):=⟨rfl,rfl,rfl,by decide +kernel,rfl,by decide +kernel,by decide +kernel⟩
theorem Bq  (D:fU K mg "onwards" fZ ["m"] f fd) (B:Bt mg)   (J2:Fn P w K mg base 1 "nexts" jZ ["m"] (bR K K51.qv) fnexts fdnexts)  : Fn P w K mg base 2 "onwards" fZ ["m"] (bR K K15.kx) f fd :=
 ⟨D,D.F.ok lS (fun _ _ _ _=>cQ) fun ee A outer s H vs Q E hr h=>⟨_,
   (ag (aQ (i:=1) lS.nd rfl (by first|exact VL rfl|exact VJ rfl) (bQ J2 (hr.mono (by decide)) (aa (pv 0) af)))
   (ag (aQ (i:=2) lS.nd rfl (by first|exact VL rfl|exact VJ rfl) uH)
   (ag (kj PassesOwn.never rfl (Xe.Lr (pv 1)) (ft (i:=3) lS.nd rfl (by first|exact VL rfl|exact VJ rfl))
    (ar (xt (uw hr) (pv 2) (pv 3) (xZ (uw hr) (pv 1) (iO fA (pv 3)) (by first|rfl|exact trivial|(intro _ _;rfl))) rfl)))
   (ar (aW (pv 2)))))),
   bE ["m", "following", "steps", "end"] (K:=K) (aw (aS (i:=1) (bp (ao (aA 0) ay)))
   (aw (aS (i:=2) yq)
   (aw (Mh (x:=3) (i:=1) (ya (i:=2) (SR.kSc (HY (ah 1) (iQ fF (ah 3)))) (ah 3)))
   (bf (jH 2))))) h⟩⟩
abbrev du:Stmt:=oI 17
theorem gX:aR ["steps", "end", "ends", "step"] ["steps", "end"] (aj du):=⟨rfl,rfl,rfl,by decide +kernel,rfl,by decide +kernel,by decide +kernel⟩
theorem vP     (D:fU K mg "gone_round" du ["steps", "end"] f fd) (B:Bt mg)     : Fn P w K mg base 1 "gone_round" du ["steps", "end"] (bR K K15.gN) f fd :=
 ⟨D,D.F.ok gX (fun _ _ _ _=>cQ) fun ee A outer s H vs Q E hr h=>⟨_,
   (ag (aQ (i:=2) gX.nd rfl (by first|exact VL rfl|exact VJ rfl) (bS (aa (pv 1) af)))
   (ag (aQ (i:=3) gX.nd rfl (by first|exact VL rfl|exact VJ rfl) (xZ (uw hr) (pv 0) (pv 1) (by first|rfl|exact trivial|(intro _ _;rfl))))
   (ag (GY PassesOwn.never (bA CY (pv 3) (pv 1) (cC _)) (ag (cu (eR Vz VU VV cE (pv 2) (aa (pv 3) af))) (ar (aQ (i:=3) gX.nd rfl (by first|exact VL rfl|exact VJ rfl) (xZ (uw hr) (pv 0) (pv 3) (by first|rfl|exact trivial|(intro _ _;rfl)))))))
   (ar (aW (pv 2)))))),
   bE ["steps", "end", "ends", "step"] (K:=K) (aw (aS (i:=2) (bX (ao (aA 1) ay)))
   (aw (aS (i:=3) (SR.kSc (CU (ah 0) (ah 1))))
   (aw (GD 100000 (bz (aN Cs (ah 3) (ah 1))) (aw (km (i:=2) (aA 3)) (aS (i:=3) (SR.kSc (CU (ah 0) (ah 3))))))
   (bf (jH 2))))) h⟩⟩
abbrev iY:Stmt:=oI 18
theorem jn:aR ["m", "steps", "known", "found", "start", "land", "end"] ["m"] (aj iY):=⟨rfl,rfl,rfl,by decide +kernel,rfl,by decide +kernel,by decide +kernel⟩
theorem Jk  (D:fU K mg "lands" iY ["m"] f fd) (B:Bt mg)   (EZ:Fn P w K mg base 2 "onwards" fZ ["m"] (bR K K15.kx) fonwards fdonwards) (Fg:Fn P w K mg base 2 "ends_of" gg ["m"] (bR K Zl.kB) fends_of fdends_of) (iN:Fn P w K mg base 2 "in_good_order" bZ ["turns"] (bR K Zl.cw) fin_good_order fdin_good_order) (xk:Fn P w K mg base 1 "gone_round" du ["steps", "end"] (bR K K15.gN) fgone_round fdgone_round)  : Fn P w K mg base 3 "lands" iY ["m"] (bR K K15.dN) f fd :=
 ⟨D,D.F.ok jn (fun _ _ _ _=>cQ) fun ee A outer s H vs Q E hr h=>⟨_,
   (ag (aQ (i:=1) jn.nd rfl (by first|exact VL rfl|exact VJ rfl) (bQ EZ (hr.mono (by decide)) (aa (pv 0) af)))
   (ag (aQ (i:=2) jn.nd rfl (by first|exact VL rfl|exact VJ rfl) uH)
   (ag (CP (i:=3) (cl:=[]) (N:=["turn"]) (fr:=[]) rfl jn.nd rfl (by first|exact VL rfl|exact VJ rfl) rfl (by decide +kernel) rfl (by decide +kernel) rfl (gd.none (by decide +kernel)) (dc (pv 0)) (fun _ _ _ _=>om (bA sr (aU dU (by rfl) B.len PySem.boot_len (aa (pv 0) af)) aC (cC _))) (fun _ _ _ _=>(bS af)))
   (ag (kj PassesOwn.never rfl (dc (bQ Fg (hr.mono (by decide)) (aa (pv 0) af))) (ft (i:=4) jn.nd rfl (by first|exact VL rfl|exact VJ rfl))
    (ar (cA (PK (EG (uw hr) (pv 4) (pv 2))) (ag (aQ (i:=5) jn.nd rfl (by first|exact VL rfl|exact VJ rfl) (bQ xk (hr.mono (by decide)) (aa (pv 1) (aa (pv 4) af)))) (ag (kj PassesOwn.never rfl (dc (pv 5)) (ft (i:=6) jn.nd rfl (by first|exact VL rfl|exact VJ rfl))
    (ar (xt (uw hr) (pv 2) (pv 6) pJ rfl))) (ar (cu (eR Vz VU VV cE (pv 3) (aa (pv 5) af)))))) bx)))
   (ar (aW (bQ iN (hr.mono (by decide)) (aa (pv 3) af)))))))),
   bE ["m", "steps", "known", "found", "start", "land", "end"] (K:=K) (aw (aS (i:=1) (bp (ao (aA 0) ay)))
   (aw (aS (i:=2) yq)
   (aw (aS (i:=3) (fh (aA 0) (bz (aN pB (de gS (ak (ah 0) aF)) aD)) (bX ay)))
   (aw (qX (bp (ao (aA 0) ay)) (df (ip (DJ (ah 4) (ah 2))) (aw (aS (i:=5) (bp (ao (aA 1) (ao (aA 4) ay)))) (aw (qX (aA 5) (ya (i:=2) (SR.kSc qI) (ah 6))) (km (i:=3) (aA 5)))) bD))
   (bf (bp (ao (aA 3) ay))))))) h⟩⟩
abbrev fX:Stmt:=oI 20
theorem Bp:aR ["turns"] ["turns"] (aj fX):=⟨rfl,rfl,rfl,by decide +kernel,rfl,by decide +kernel,by decide +kernel⟩
theorem Bv  (D:fU K mg "settled" fX ["turns"] f fd) (B:Bt mg)   (qD:EW P w K mg base 2 "refuse_too_many" bU ["turns"] (og K Zl.bN) frefuse_too_many fdrefuse_too_many) (iN:Fn P w K mg base 2 "in_good_order" bZ ["turns"] (bR K Zl.cw) fin_good_order fdin_good_order)  : EW P w K mg base 3 "settled" fX ["turns"] (og K K23.jf) f fd :=
 ⟨D,okX D.F Bp (fun vs H Q E h=>gY h) fun ee A outer s H vs Q E hr h=>⟨_,
   (ag (cu (rJ qD (hr.mono (by decide)) fu (aa (pv 0) af)))
   (ar (aW (bQ iN (hr.mono (by decide)) (aa (pv 0) af))))),
   eM ["turns"] (K:=K) (tQ (vp (ao (aA 0) ay))
   (uL (bf (bp (ao (aA 0) ay))))) h⟩⟩
abbrev gc:Stmt:=oI 26
theorem A8:aR ["turn", "gone"] ["turn", "gone"] (aj gc):=⟨rfl,rfl,rfl,by decide +kernel,rfl,by decide +kernel,by decide +kernel⟩
theorem BZ     (D:fU K mg "thinned" gc ["turn", "gone"] f fd) (B:Bt mg)     : Fn P w K mg base 1 "thinned" gc ["turn", "gone"] (bR K K23.jk) f fd :=
 ⟨D,D.F.ok A8 (fun _ _ _ _=>cQ) fun ee A outer s H vs Q E hr h=>⟨_,
   (ar (aW (gD (N:=["end", "gone"]) (fr:=[1]) rfl rfl (by decide +kernel) rfl (by decide +kernel) rfl (gd.of (by decide +kernel) rfl rfl (by exact⟨rfl,trivial⟩) (by repeat (first|exact trivial|refine⟨(by first|exact fun _=>⟨_,rfl⟩|exact fun h=>(by rcases h with h|h <;> cases h)),?_⟩)) (by exact⟨⟨rfl,rfl,rfl⟩,trivial⟩)) (dc (pv 0)) (fun _ _ _ _=>om (bA gG (pv 0) (pv 1) rfl)) (fun _ _ _ _=>(pv 0))))),
   bE ["turn", "gone"] (K:=K) (bf (fh (aA 0) (bz (aN (oC true) (ah 0) (ah 1))) (aA 0))) h⟩⟩
abbrev cI:Stmt:=oI 27
theorem sF:aR ["m", "road"] ["m", "road"] (aj cI):=⟨rfl,rfl,rfl,by decide +kernel,rfl,by decide +kernel,by decide +kernel⟩
theorem sJ  (D:fU K mg "without_road" cI ["m", "road"] f fd) (B:Bt mg)  (dw:Oe P w K mg base "NotThere" "end" "end" vm Cc Ar yo) (Fh:EW P w K mg base 3 "settled" fX ["turns"] (og K K23.jf) fsettled fdsettled) (ie:Fn P w K mg base 1 "told_ends" cV ["turns"] (bR K Zl.aX) ftold_ends fdtold_ends) (E7:Fn P w K mg base 1 "thinned" gc ["turn", "gone"] (bR K K23.jk) fthinned fdthinned)  : EW P w K mg base 4 "without_road" cI ["m", "road"] (og K K23.aY) f fd :=
 ⟨D,okX D.F sF (fun vs H Q E h=>gY h) fun ee A outer s H vs Q E hr h=>⟨_,
   (ag (cA (bA gG (pv 1) (bQ ie (hr.mono (by decide)) (aa (pv 0) af)) rfl) (ar (ur dw.i.rf nI rfl (Pu dw.i (hr.mono (by decide)) (aa (pv 1) af)))) bx)
   (ar (aW (rJ Fh (hr.mono (by decide)) fu (aa (gD (N:=["turn", "road"]) (fr:=[1]) rfl rfl (by decide +kernel) rfl (by decide +kernel) rfl (gd.of (by decide +kernel) rfl rfl (by exact⟨rfl,trivial⟩) (by repeat (first|exact trivial|refine⟨(by first|exact fun _=>⟨_,rfl⟩|exact fun h=>(by rcases h with h|h <;> cases h)),?_⟩)) (by exact⟨⟨rfl,rfl,rfl⟩,trivial⟩)) (dc (pv 0)) (fun _ _ _ _=>qL) (fun _ _ _ _=>(bQ E7 (hr.mono (by decide)) (aa (pv 0) (aa (kf (aa (pv 1) (aa (iO fA (pv 1)) af))) af))))) af))))),
   eM ["m", "road"] (K:=K) (tQ (BN (bz (aN (oC true) (ah 1) (SK.rOf (bp (ao (aA 0) ay))))) (DP dw.i.rf dw.i.nf (ak (ah 1) aF)) (uL bD))
   (tF (ao (fh (aA 0) qU (bp (ao (aA 0) (ao (kg (ao (aA 1) (ao (SR.kSc (iQ fF (ah 1))) ay))) ay)))) ay))) h⟩⟩
abbrev jB:Stmt:=An 35 1
theorem AH:aR ["self", "m"] ["self", "m"] (aj jB):=⟨rfl,rfl,rfl,by decide +kernel,rfl,by decide +kernel,by decide +kernel⟩
theorem zI  {eF:Addr}(F:yU K "done" "Cut.done" jB f fd) (mt:uZ K eF "done" f) (b:dY K fd ["self", "m"] []) (B:Bt mg)   (uC:EW P w K mg base 4 "without_road" cI ["m", "road"] (og K K23.aY) fwithout_road fdwithout_road) (dW:ko K "Cut" eF) (gi:cO K eF "road"):IV P w K mg base 5 eF "done" ["self", "m"] (og K K23.fo) f fd :=
 ⟨dW.cl,mt,b,okX F AH (fun vs H Q E h=>gY h) fun ee A outer s H vs Q E hr h=>⟨_,
   (ar (aW (rJ uC (hr.mono (by decide)) fu (aa (pv 1) (aa (xN (pv 0) (by rfl)) af))))),
   eM ["self", "m"] (K:=K) (tF (ao (aA 1) (ao (SR.kSc (tH dW gi (ah 0))) ay))) h⟩⟩
abbrev cg:Stmt:=oI 38
theorem pR:aR ["change", "m"] ["change", "m"] (aj cg):=⟨rfl,rfl,rfl,by decide +kernel,rfl,by decide +kernel,by decide +kernel⟩
theorem qh    {eF:Addr}(D:fU K mg "refuse_as_done" cg ["change", "m"] f fd) (B:Bt mg)    (dW:ko K "Cut" eF) (gi:cO K eF "road") (oW:IV P w K mg base 5 eF "done" ["self", "m"] (og K K23.fo) fCut_done fdCut_done):EW P w K mg base 6 "refuse_as_done" cg ["change", "m"] (og K K23.dQ) f fd :=
 ⟨D,okX D.F pR (fun vs H Q E h=>gY h) fun ee A outer s H vs Q E hr h=>⟨_,
   (ar (cu (BF oW (hr.mono (by decide)) fu (pv 0) (aa (pv 1) af)))),
   eM ["change", "m"] (K:=K) (vp (mT dW (aA 0) (ao (aA 1) ay))) h⟩⟩
abbrev gw:Stmt:=An 37 3
theorem vR:aR ["self"] ["self"] (aj gw):=⟨rfl,rfl,rfl,by decide +kernel,rfl,by decide +kernel,by decide +kernel⟩
theorem vG    {eF:Addr}{bo:Addr}{OC:Addr}{KC:FuncData}(F:yU K "other" "Draw.other" gw f fd) (mt:uZ K bo "other" f) (b:dY K fd ["self"] []) (B:Bt mg)    (dW:ko K "Cut" eF) (gi:cO K eF "road") (bg:ko K "Draw" bo) (cm:cO K bo "road") (Ji:Hn P w K mg base "Cut" eF OC KC ["self", "road"] ["road"]):P5 P w K mg base 3 bo "other" ["self"] (bR K K25.eA) f fd :=
 ⟨bg.cl,mt,b,F.ok vR (fun _ _ _ _=>cQ) fun ee A outer s H vs Q E hr h=>⟨_,
   (ar (aW (FG Ji (hr.mono (by decide)) (aa (xN (pv 0) (by rfl)) af)))),
   bE ["self"] (K:=K) (bf (JD dW (ak (tH bg cm (ah 0)) aF))) h⟩⟩
abbrev dZ:Stmt:=oI 39
theorem yc:aR ["change", "m"] ["change", "m"] (aj dZ):=⟨rfl,rfl,rfl,by decide +kernel,rfl,by decide +kernel,by decide +kernel⟩
theorem xC  {eF:Addr}{bo:Addr}(D:fU K mg "done_over" dZ ["change", "m"] f fd) (B:Bt mg)   (tu:Fn P w K mg base 3 "lands" iY ["m"] (bR K K15.dN) flands fdlands) (dW:ko K "Cut" eF) (gi:cO K eF "road") (bg:ko K "Draw" bo) (cm:cO K bo "road") (lO:P5 P w K mg base 3 bo "other" ["self"] (bR K K25.eA) fDraw_other fdDraw_other) (oW:IV P w K mg base 5 eF "done" ["self", "m"] (og K K23.fo) fCut_done fdCut_done):EW P w K mg base 6 "done_over" dZ ["change", "m"] (og K K25.fj) f fd :=
 ⟨D,okX D.F yc (fun vs H Q E h=>gY h) fun ee A outer s H vs Q E hr h=>⟨_,
   (ar (aW (bQ tu (hr.mono (by decide)) (aa (BF oW (hr.mono (by decide)) fu (Bg lO (hr.mono (by decide)) (pv 0)) (aa (bQ tu (hr.mono (by decide)) (aa (pv 1) af)) af)) af)))),
   eM ["change", "m"] (K:=K) (FM (mT dW (bp (mT bg (aA 0) ay)) (ao (bp (ao (aA 1) ay)) ay))) h⟩⟩
abbrev jr:Stmt:=An 35 2
theorem zT:aR ["self", "m"] ["self", "m"] (aj jr):=⟨rfl,rfl,rfl,by decide +kernel,rfl,by decide +kernel,by decide +kernel⟩
theorem zu  {eF:Addr}(F:yU K "back" "Cut.back" jr f fd) (mt:uZ K eF "back" f) (b:dY K fd ["self", "m"] []) (B:Bt mg)   (qN:EW P w K mg base 6 "refuse_as_done" cg ["change", "m"] (og K K23.dQ) frefuse_as_done fdrefuse_as_done) (dW:ko K "Cut" eF) (gi:cO K eF "road"):IV P w K mg base 7 eF "back" ["self", "m"] (og K K23.jC) f fd :=
 ⟨dW.cl,mt,b,okX F zT (fun vs H Q E h=>gY h) fun ee A outer s H vs Q E hr h=>⟨_,
   (ag (cu (rJ qN (hr.mono (by decide)) fu (aa (pv 0) (aa (pv 1) af))))
   (ar HU)),
   eM ["self", "m"] (K:=K) (tQ (vp (ao (aA 0) (ao (aA 1) ay)))
   (uL Hc)) h⟩⟩
abbrev ef:Stmt:=oI 40
theorem yi:aR ["change", "m"] ["change", "m"] (aj ef):=⟨rfl,rfl,rfl,by decide +kernel,rfl,by decide +kernel,by decide +kernel⟩
theorem xW  {eF:Addr}{bo:Addr}(D:fU K mg "back_over" ef ["change", "m"] f fd) (B:Bt mg)   (tu:Fn P w K mg base 3 "lands" iY ["m"] (bR K K15.dN) flands fdlands) (dW:ko K "Cut" eF) (gi:cO K eF "road") (bg:ko K "Draw" bo) (cm:cO K bo "road") (lO:P5 P w K mg base 3 bo "other" ["self"] (bR K K25.eA) fDraw_other fdDraw_other) (A6:IV P w K mg base 7 eF "back" ["self", "m"] (og K K23.jC) fCut_back fdCut_back):EW P w K mg base 8 "back_over" ef ["change", "m"] (og K K25.iB) f fd :=
 ⟨D,okX D.F yi (fun vs H Q E h=>gY h) fun ee A outer s H vs Q E hr h=>⟨_,
   (ar (aW (Oj (BF A6 (hr.mono (by decide)) fu (Bg lO (hr.mono (by decide)) (pv 0)) (aa (bQ tu (hr.mono (by decide)) (aa (pv 1) af)) af))))),
   eM ["change", "m"] (K:=K) (LQ (mT dW (bp (mT bg (aA 0) ay)) (ao (bp (ao (aA 1) ay)) ay))) h⟩⟩
abbrev gL:Stmt:=oI 42
theorem E5:aR ["_law_script", "_law_k"] ["_law_script", "_law_k"] (aj gL):=⟨rfl,rfl,rfl,by decide +kernel,rfl,by decide +kernel,by decide +kernel⟩
theorem DR     (D:fU K mg "_law_cell" gL ["_law_script", "_law_k"] f fd) (B:Bt mg)     : Fn P w K mg base 1 "_law_cell" gL ["_law_script", "_law_k"] (bR K Zl.aV) f fd :=
 ⟨D,D.F.ok E5 (fun _ _ _ _=>cQ) fun ee A outer s H vs Q E hr h=>⟨_,
   (ag (cA (bA C5 (pv 1) (aU dU (by rfl) B.len PySem.boot_len (aa (pv 0) af)) (cC _)) (ar (aW (fY cL (pv 0) (pv 1) (fun _ _=>rfl)))) bx)
   (ar (aW aC))),
   bE ["_law_script", "_law_k"] (K:=K) (aw (df (bz (aN Cj (ah 1) (de gS (ak (ah 0) aF)))) (bf (SR.kSc (aN lY (ah 0) (ah 1)))) bD)
   (bf (SR.kSc aD))) h⟩⟩
abbrev gh:Stmt:=oI 43
theorem fV:aR ["_law_script", "_law_step", "_law_shift", "_law_stride", "_law_off"] ["_law_script"] (aj gh):=⟨rfl,rfl,rfl,by decide +kernel,rfl,by decide +kernel,by decide +kernel⟩
theorem B0  (D:fU K mg "_law_names" gh ["_law_script"] f fd) (B:Bt mg)   (gA:Fn P w K mg base 1 "_law_cell" gL ["_law_script", "_law_k"] (bR K Zl.aV) LO Ir)  : Fn P w K mg base 2 "_law_names" gh ["_law_script"] (bR K K12.gP) f fd :=
 ⟨D,D.F.ok fV (fun _ _ _ _=>cQ) fun ee A outer s H vs Q E hr h=>⟨_,
   (ag (aQ (i:=1) fV.nd rfl (by first|exact VL rfl|exact VJ rfl) aC)
   (ag (aQ (i:=2) fV.nd rfl (by first|exact VL rfl|exact VJ rfl) aC)
   (ag (cA (bA rV (cj iG (bQ gA (hr.mono (by decide)) (aa (pv 0) (aa aC af))) aC) aC (cC _)) (ag (aQ (i:=1) fV.nd rfl (by first|exact VL rfl|exact VJ rfl) (cj kY aC (cj iG (bQ gA (hr.mono (by decide)) (aa (pv 0) (aa aC af))) (cj IX aC aC)))) (ar (aQ (i:=2) fV.nd rfl (by first|exact VL rfl|exact VJ rfl) (cj iG (bQ gA (hr.mono (by decide)) (aa (pv 0) (aa aC af))) (cj IX aC aC))))) bx)
   (ag (aQ (i:=3) fV.nd rfl (by first|exact VL rfl|exact VJ rfl) (cj kY aC (cj iG (cj tI (bQ gA (hr.mono (by decide)) (aa (pv 0) (aa aC af))) aC) aC)))
   (ag (aQ (i:=4) fV.nd rfl (by first|exact VL rfl|exact VJ rfl) (cj iG (cj tI (bQ gA (hr.mono (by decide)) (aa (pv 0) (aa aC af))) aC) aC))
   (ar (aW (gD (N:=["_law_k", "_law_shift", "_law_step", "_law_off", "_law_stride"]) (fr:=[2,1,4,3]) rfl rfl (by decide +kernel) rfl (by decide +kernel) rfl (gd.of (by decide +kernel) rfl rfl (by exact⟨rfl,rfl,rfl,rfl,trivial⟩) (by repeat (first|exact trivial|refine⟨(by first|exact fun _=>⟨_,rfl⟩|exact fun h=>(by rcases h with h|h <;> cases h)),?_⟩)) (by exact⟨⟨rfl,rfl,rfl⟩,⟨rfl,rfl,rfl⟩,⟨rfl,rfl,rfl⟩,⟨rfl,rfl,rfl⟩,trivial⟩)) (qT (by rfl) B.range (aa aC af)) (fun _ _ _ _=>qL) (fun _ _ _ _=>(cj kY (cj Hm (pv 2) (cj kY (cj iG (cj kY (cj Hm (pv 4) (pv 0)) (pv 3)) aC) aC)) (pv 1))))))))))),
   bE ["_law_script", "_law_step", "_law_shift", "_law_stride", "_law_off"] (K:=K) (aw (aS (i:=1) (SR.kSc aD))
   (aw (aS (i:=2) (SR.kSc aD))
   (aw (df (bz (aN su (aN iF (dG (ak (ah 0) (ak aD aF))) aD) aD)) (aw (aS (i:=1) (SR.kSc (aN lW aD (aN iF (dG (ak (ah 0) (ak aD aF))) (aN FT aD aD))))) (aS (i:=2) (SR.kSc (aN iF (dG (ak (ah 0) (ak aD aF))) (aN FT aD aD))))) bD)
   (aw (aS (i:=3) (SR.kSc (aN lW aD (aN iF (aN xq (dG (ak (ah 0) (ak aD aF))) aD) aD))))
   (aw (aS (i:=4) (SR.kSc (aN iF (aN xq (dG (ak (ah 0) (ak aD aF))) aD) aD)))
   (bf (wA (ak aD aF) qU (SR.kSc (aN lW (aN Gd (ah 2) (aN lW (aN iF (aN lW (aN Gd (ah 4) (ah 0)) (ah 3)) aD) aD)) (ah 1)))))))))) h⟩⟩
abbrev gj:Stmt:=oI 44
theorem cD:aR ["_law_cells", "_law_names_here", "_law_parts_here", "_law_trail", "_law_left", "_law_used", "_law_cell_here", "_law_way", "_law_here", "_law_end"] ["_law_cells", "_law_names_here"] (aj gj):=⟨rfl,rfl,rfl,by decide +kernel,rfl,by decide +kernel,by decide +kernel⟩
theorem BV     (D:fU K mg "_law_parts" gj ["_law_cells", "_law_names_here"] f fd) (B:Bt mg)     : Fn P w K mg base 1 "_law_parts" gj ["_law_cells", "_law_names_here"] (bR K K12.jj) f fd :=
 ⟨D,D.F.ok cD (fun _ _ _ _=>cQ) fun ee A outer s H vs Q E hr h=>⟨_,
   (ag (aQ (i:=2) cD.nd rfl (by first|exact VL rfl|exact VJ rfl) (bS (aa (bS (aa (bS af) af)) af)))
   (ag (aQ (i:=3) cD.nd rfl (by first|exact VL rfl|exact VJ rfl) (bS (aa aC af)))
   (ag (aQ (i:=4) cD.nd rfl (by first|exact VL rfl|exact VJ rfl) (bS af))
   (ag (aQ (i:=5) cD.nd rfl (by first|exact VL rfl|exact VJ rfl) aC)
   (ag (kj PassesOwn.never rfl (dc (pv 0)) (ft (i:=6) cD.nd rfl (by first|exact VL rfl|exact VJ rfl))
    (ag (aQ (i:=7) cD.nd rfl (by first|exact VL rfl|exact VJ rfl) (cj iG (pv 6) aC)) (ag (aQ (i:=8) cD.nd rfl (by first|exact VL rfl|exact VJ rfl) (fY cL (fY cL (pv 2) (iO fA aC) (fun _ _=>rfl)) (fY cL (pv 3) (iO fA aC) (fun _ _=>rfl)) (fun _ _=>rfl))) (ag (aQ (i:=9) cD.nd rfl (by first|exact VL rfl|exact VJ rfl) (fY cL (pv 1) (pv 5) (fun _ _=>rfl))) (ag (cA (bA sr (cj iG (cj tI (pv 6) aC) aC) aC (cC _)) (ar (aQ (i:=9) cD.nd rfl (by first|exact VL rfl|exact VJ rfl) (iO fA (pv 9)))) bx) (ar (cA (bA C5 (pv 7) aC (cC _)) (ag (cu (eR Vz VU VV cE (pv 8) (aa (pv 9) af))) (ag (aQ (i:=5) cD.nd rfl (by first|exact VL rfl|exact VJ rfl) (cj kY (pv 5) aC)) (ar (cA (bA C5 (pv 7) aC (cC _)) (ar (cu (eR Vz VU VV cE (pv 4) (aa (iO fA (pv 9)) af)))) (ag (cu (eR Vz VU VV cE (pv 3) (aa (aU dU (by rfl) B.len PySem.boot_len (aa (fY cL (pv 2) (iO fA aC) (fun _ _=>rfl)) af)) af))) (ar (cu (eR Vz VU VV cE (fY cL (pv 2) (iO fA aC) (fun _ _=>rfl)) (aa (bS (aa (iO fA (pv 9)) af)) af))))))))) (ar (cA (bA C5 (pv 7) aC (cC _)) (ar (cA (qw (pv 4) (fun _=>rfl)) (ar (cu (eR Vz VU VV cE (pv 8) (aa (eR Vz YQ YR Jn (pv 4) (aa (cj iG (cj tI (pv 6) aC) (aU dU (by rfl) B.len PySem.boot_len (aa (pv 4) af))) af)) af)))) bx)) (ar (cA (bA sr (pv 7) aC (cC _)) (ar (cA (bA rV (aU dU (by rfl) B.len PySem.boot_len (aa (pv 3) af)) aC (cC _)) (ar (cu (Pc Vz YQ YR Nj (pv 3)))) bx)) (ag (cu (eR Vz Xb Xc nP (pv 8) (aa (pv 4) af))) (ag (aQ (i:=4) cD.nd rfl (by first|exact VL rfl|exact VJ rfl) (bS af)) (ag (cu (eR Vz VU VV cE (pv 2) (aa (bS (aa (bS af) af)) af))) (ar (aQ (i:=3) cD.nd rfl (by first|exact VL rfl|exact VJ rfl) (bS (aa aC af))))))))))))))))))
   (ag (cu (eR Vz Xb Xc nP (fY cL (fY cL (pv 2) (iO fA aC) (fun _ _=>rfl)) (fY cL (pv 3) (iO fA aC) (fun _ _=>rfl)) (fun _ _=>rfl)) (aa (pv 4) af)))
   (ar (aW (pv 2))))))))),
   bE ["_law_cells", "_law_names_here", "_law_parts_here", "_law_trail", "_law_left", "_law_used", "_law_cell_here", "_law_way", "_law_here", "_law_end"] (K:=K) (aw (aS (i:=2) (bX (ao (bX (ao (bX ay) ay)) ay)))
   (aw (aS (i:=3) (bX (ao (SR.kSc aD) ay)))
   (aw (aS (i:=4) (bX ay))
   (aw (aS (i:=5) (SR.kSc aD))
   (aw (qX (aA 0) (aw (aS (i:=7) (SR.kSc (aN iF (ah 6) aD))) (OV (ud (ud (xI 2) (iQ fF aD)) (aN lY (ah 3) (iQ fF aD))) (II (Df (SR.kSc (aN lY (ah 1) (ah 5))) (by decide)) (II (PX (bz (aN pB (aN iF (aN xq (ah 6) aD) aD) aD)) (Df (SR.kSc (iQ fF (ah 9))) (by decide)) (Ii (fun _ _ _ h=>h))) (Co (bz (aN Cj (ah 7) aD)) (Gp (PP (aA 9)) (aw (aS (i:=5) (SR.kSc (aN lW (ah 5) aD))) (df (bz (aN Cj (ah 7) aD)) (km (i:=4) (SR.kSc (iQ fF (ah 9)))) (aw (km (i:=3) (SR.kSc (de gS (ak (aN lY (ah 2) (iQ fF aD)) aF)))) (Ll (ud (xI 2) (iQ fF aD)) (bX (ao (SR.kSc (iQ fF (ah 9))) ay))))))) (Co (bz (aN Cj (ah 7) aD)) (Co (yl (ah 4)) (LS (Jr (i:=4) (aN iF (aN xq (ah 6) aD) (de gS (ak (ah 4) aF))))) (MQ bD)) (Co (bz (aN pB (ah 7) aD)) (MQ (df (bz (aN su (de gS (ak (ah 3) aF)) aD)) (JA (Lz (i:=3))) bD)) (Gp (N2 (jA 4)) (aw (aS (i:=4) (bX ay)) (aw (km (i:=2) (bX (ao (bX ay) ay))) (aS (i:=3) (bX (ao (SR.kSc aD) ay))))))))))))))
   (aw (JW (ud (ud (xI 2) (iQ fF aD)) (aN lY (ah 3) (iQ fF aD))) (jA 4))
   (bf (jH 2)))))))) h⟩⟩
abbrev iy:Stmt:=oI 45
theorem wB:aR ["_law_turn_here", "_law_k"] ["_law_turn_here"] (aj iy):=⟨rfl,rfl,rfl,by decide +kernel,rfl,by decide +kernel,by decide +kernel⟩
theorem EC     (D:fU K mg "_law_turn" iy ["_law_turn_here"] f fd) (B:Bt mg)     : Fn P w K mg base 1 "_law_turn" iy ["_law_turn_here"] (bR K K13.jE) f fd :=
 ⟨D,D.F.ok wB (fun _ _ _ _=>cQ) fun ee A outer s H vs Q E hr h=>⟨_,
   (ag (cA (jw (qw (pv 0) (fun _=>rfl))) (ar (aW (bS af))) bx)
   (ag (aQ (i:=1) wB.nd rfl (by first|exact VL rfl|exact VJ rfl) (eR Vz WU Xi qj (pv 0) (aa (aU (wL rfl) (by rfl) B.min YO (aa (pv 0) af)) af)))
   (ar (aW (cj kq (eV gE (pv 0) (fL (pv 1)) gZ) (eV gE (pv 0) gZ (fL (pv 1)))))))),
   bE ["_law_turn_here", "_law_k"] (K:=K) (aw (df (jJ (yl (ah 0))) (bf (bX ay)) bD)
   (aw (aS (i:=1) (SR.kSc (C9 (T := "list") pT (ah 0) (ak (de G3 (ak (ah 0) aF)) aF))))
   (bf (ke (SK.lOf (mE (iM 0) (fO (ah 1)) gW)) (SK.lOf (mE (iM 0) gW (fO (ah 1)))))))) h⟩⟩
abbrev iT:Stmt:=oI 46
theorem Ib:aR ["_law_turns"] ["_law_turns"] (aj iT):=⟨rfl,rfl,rfl,by decide +kernel,rfl,by decide +kernel,by decide +kernel⟩
theorem HN  (D:fU K mg "_law_map" iT ["_law_turns"] f fd) (B:Bt mg)   (Ij:Fn P w K mg base 1 "_law_turn" iy ["_law_turn_here"] (bR K K13.jE) Si QV)  : Fn P w K mg base 2 "_law_map" iT ["_law_turns"] (bR K K13.jW) f fd :=
 ⟨D,D.F.ok Ib (fun _ _ _ _=>cQ) fun ee A outer s H vs Q E hr h=>have hu:=hr.units;⟨_,
   (ar (aW (aU (pI hu) (by rfl) B.sorted XR (aa (gD (cl:=[]) (N:=["_law_turn_here"]) (fr:=[]) rfl rfl (by decide +kernel) rfl (by decide +kernel) rfl (gd.none (by decide +kernel)) (dc (pv 0)) (fun _ _ _ _=>qL) (fun _ _ _ _=>(bQ Ij (hr.mono (by decide)) (aa (pv 0) af)))) af)))),
   bE ["_law_turns"] (K:=K) (bf (wK (fh (aA 0) qU (bp (ao (aA 0) ay))))) h⟩⟩
abbrev iS:Stmt:=oI 47
theorem uj:aR ["_law_parts_here", "_law_turns", "_law_part"] ["_law_parts_here"] (aj iS):=⟨rfl,rfl,rfl,by decide +kernel,rfl,by decide +kernel,by decide +kernel⟩
theorem Ie     (D:fU K mg "_law_all" iS ["_law_parts_here"] f fd) (B:Bt mg)     : Fn P w K mg base 1 "_law_all" iS ["_law_parts_here"] (bR K Zl.aX) f fd :=
 ⟨D,D.F.ok uj (fun _ _ _ _=>cQ) fun ee A outer s H vs Q E hr h=>⟨_,
   (ag (aQ (i:=1) uj.nd rfl (by first|exact VL rfl|exact VJ rfl) (bS af))
   (ag (kj PassesOwn.never rfl (dc (pv 0)) (ft (i:=2) uj.nd rfl (by first|exact VL rfl|exact VJ rfl))
    (ar (cu (eR Vz Xb Xc nP (pv 1) (aa (pv 2) af)))))
   (ar (aW (pv 1))))),
   bE ["_law_parts_here", "_law_turns", "_law_part"] (K:=K) (aw (aS (i:=1) (bX ay))
   (aw (qX (aA 0) (Ho (i:=1) (jA 2)))
   (bf (jH 1)))) h⟩⟩
abbrev dS:Stmt:=oI 48
theorem uT:aR ["_law_found", "_law_due", "_law_k"] ["_law_found", "_law_due"] (aj dS):=⟨rfl,rfl,rfl,by decide +kernel,rfl,by decide +kernel,by decide +kernel⟩
theorem jX{fm:MF}{lv:Nat}     {f:Addr}{fd:FuncData}(D:fU K mg "_law_alike" dS ["_law_found", "_law_due"] f fd) (B:Bt mg)    (b_tuple:mg "tuple" = none)   (OX:Fn P w K mg base lv "_law_alike" dS ["_law_found", "_law_due"] (bR K fm) f fd):Fn P w K mg base (lv+1) "_law_alike" dS ["_law_found", "_law_due"] (bR K (K13.cY fm)) f fd :=
 ⟨D,D.F.ok uT (fun _ _ _ _=>cQ) fun ee A outer s H vs Q E hr h=>⟨_,
   (ag (cA (PW.pt (CF (fS (aU (eG.or fK fG) (by rfl) B.isi VC (aa (pv 1) (aa (gB (v:=.ty "list") (by rfl) B.list Xs rfl) af)))) (yu (fS (aU (eG.or fK fG) (by rfl) B.isi VC (aa (pv 1) (aa (gB (v:=.ty "tuple") (by rfl) b_tuple XZ rfl) af))))))) (ag (cA (PW.pt (CF (bA CY (aU (eG.or fK fG) (by rfl) B.isi VC (aa (pv 0) (aa (gB (v:=.ty "list") (by rfl) B.list Xs rfl) af))) (aU (eG.or fK fG) (by rfl) B.isi VC (aa (pv 1) (aa (gB (v:=.ty "list") (by rfl) B.list Xs rfl) af))) (cC _)) (yu (bA CY (aU (eG.or fK fG) (by rfl) B.isi VC (aa (pv 0) (aa (gB (v:=.ty "tuple") (by rfl) b_tuple XZ rfl) af))) (aU (eG.or fK fG) (by rfl) B.isi VC (aa (pv 1) (aa (gB (v:=.ty "tuple") (by rfl) b_tuple XZ rfl) af))) (cC _))))) (ar (aW pJ)) bx) (ag (cA (bA CY (aU dU (by rfl) B.len PySem.boot_len (aa (pv 0) af)) (aU dU (by rfl) B.len PySem.boot_len (aa (pv 1) af)) (cC _)) (ar (aW pJ)) bx) (ag (kj PassesOwn.never rfl (qT (by rfl) B.range (aa (aU dU (by rfl) B.len PySem.boot_len (aa (pv 1) af)) af)) (ft (i:=2) uT.nd rfl (by first|exact VL rfl|exact VJ rfl))
    (ar (cA (jw (fS (bQ OX hr (aa (fY (KD.or cL IY) (pv 0) (pv 2) (fun _ _=>rfl)) (aa (fY (KD.or cL IY) (pv 1) (pv 2) (fun _ _=>rfl)) af))))) (ar (aW pJ)) bx))) (ar (aW pJ))))) bx)
   (ag (cA (bA yM (pv 1) mX (cC _)) (ar (aW (yL yM (pv 0) mX (cC _)))) bx)
   (ag (cA (fS (aU (eG.or fK fG) (by rfl) B.isi VC (aa (pv 1) (aa (gB (v:=.ty "str") (by rfl) B.str YS rfl) af)))) (ar (aW (xD (aU (eG.or fK fG) (by rfl) B.isi VC (aa (pv 0) (aa (gB (v:=.ty "str") (by rfl) B.str YS rfl) af))) (BL (yL sr (pv 0) (pv 1) (cC _)))))) bx)
   (ar (aW (xD (aU (eG.or fK fG) (by rfl) B.isi VC (aa (pv 0) (aa (gB (v:=.ty "int") (by rfl) B.int ZU rfl) af))) (xD (Om (aU (eG.or fK fG) (by rfl) B.isi VC (aa (pv 0) (aa (gB (v:=.ty "bool") (by rfl) B.bool ZQ rfl) af)))) (BL (yL sr (pv 0) (pv 1) (cC _)))))))))),
   bE ["_law_found", "_law_due", "_law_k"] (K:=K) (aw (df (DA (ip (de ka (ak (ah 1) (ak mI aF)))) (ip (de ka (ak (ah 1) (ak mI aF))))) (aw (df (DA (bz (aN Cs (de ka (ak (ah 0) (ak mI aF))) (de ka (ak (ah 1) (ak mI aF))))) (bz (aN Cs (de ka (ak (ah 0) (ak mI aF))) (de ka (ak (ah 1) (ak mI aF)))))) (bf (SR.kSc qI)) bD) (aw (df (bz (aN Cs (de gS (ak (ah 0) aF)) (de gS (ak (ah 1) aF)))) (bf (SR.kSc qI)) bD) (aw (IH (ak (de gS (ak (ah 1) aF)) aF) (df (jJ (ip (dG (ak (aN HE (ah 0) (ah 2)) (ak (aN HE (ah 1) (ah 2)) aF))))) (bf (SR.kSc qI)) bD)) (bf (SR.kSc qI))))) bD)
   (aw (df (bz (aN xl (ah 1) mO)) (bf (SR.kSc (aN xl (ah 0) mO))) bD)
   (aw (df (ip (de ka (ak (ah 1) (ak mI aF)))) (bf (SR.kSc (xY (de ka (ak (ah 0) (ak mI aF))) (aN pB (ah 0) (ah 1))))) bD)
   (bf (SR.kSc (xY (de ka (ak (ah 0) (ak mI aF))) (xY (OM (de ka (ak (ah 0) (ak mI aF)))) (aN pB (ah 0) (ah 1))))))))) h⟩⟩
theorem BY     (D:fU K mg "_law_alike" dS ["_law_found", "_law_due"] f fd) (B:Bt mg)    (b_tuple:mg "tuple" = none)   : Fn P w K mg base 5 "_law_alike" dS ["_law_found", "_law_due"] (bR K K13.ba) f fd:=(jX D B b_tuple (jX D B b_tuple (jX D B b_tuple (jX D B b_tuple (L9 (k:=1) D)))))
abbrev iq:Stmt:=oI 49
theorem E3:aR ["_law_m"] ["_law_m"] (aj iq):=⟨rfl,rfl,rfl,by decide +kernel,rfl,by decide +kernel,by decide +kernel⟩
theorem DZ     (D:fU K mg "_law_copy" iq ["_law_m"] f fd) (B:Bt mg)     : Fn P w K mg base 1 "_law_copy" iq ["_law_m"] (bR K K51.ku) f fd :=
 ⟨D,D.F.ok E3 (fun _ _ _ _=>cQ) fun ee A outer s H vs Q E hr h=>⟨_,
   (ar (aW (gD (cl:=[]) (N:=["_law_turn_here"]) (fr:=[]) rfl rfl (by decide +kernel) rfl (by decide +kernel) rfl (gd.none (by decide +kernel)) (dc (pv 0)) (fun _ _ _ _=>qL) (fun _ _ _ _=>(Ef yj (by rfl) B.list Xs (aa (pv 0) af)))))),
   bE ["_law_m"] (K:=K) (bf (fh (aA 0) qU (Kn (iM 0)))) h⟩⟩
abbrev gu:Stmt:=oI 50
theorem wk:aR ["_law_e", "_law_kinds"] ["_law_e"] (aj gu):=⟨rfl,rfl,rfl,by decide +kernel,rfl,by decide +kernel,by decide +kernel⟩
theorem Fo   {CO:Addr}{Jw:List Value}{nJ qY:Addr}{wM:Addr}{Bm:List Value}  (D:fU K mg "_law_kind" gu ["_law_e"] f fd) (B:Bt mg)  (dw:Oe P w K mg base "NotThere" "end" "end" vm Cc Ar yo) (tN:Ft K mg "Taken" CO Jw) (dk:Ht K mg "TooMany" nJ qY) (nA:Ft K mg "NoPlace" wM Bm) (b_VE:mg "ValueError" = none)   : Sy P w K mg base 3 "_law_kind" gu ["_law_e"] (bR K K23.fg) f fd :=
 ⟨D,D.F.okH wk (fun _ _ _ _=>cQ) fun ee A outer s H vs Q E hr h=>⟨_,
   (ag (aQ (i:=1) wk.nd rfl (by first|exact VL rfl|exact VJ rfl) (bS af))
   (ag (cA (jw (fS (aU mQ (by rfl) B.isi VC (aa (pv 0) (aa (gB (v:=.ty "ValueError") (by rfl) b_VE J4 rfl) af))))) (ar (cu (eR Vz VU VV cE (pv 1) (aa (kf (aa eN (aa aC af))) af)))) bx)
   (ag (cA (fS (aU mQ (by rfl) B.isi VC (aa (pv 0) (aa (lH (v:=.ref CO) (by rfl) (tN.mgc) rfl) af)))) (ar (cu (eR Vz VU VV cE (pv 1) (aa (kf (aa eN (aa (Dd (pv 0) rfl) af))) af)))) bx)
   (ag (cA (fS (aU mQ (by rfl) B.isi VC (aa (pv 0) (aa (lH (v:=.ref vm) (by rfl) (dw.mgc) rfl) af)))) (ar (cu (eR Vz VU VV cE (pv 1) (aa (kf (aa eN (aa (Dd (pv 0) rfl) af))) af)))) bx)
   (ag (cA (fS (aU mQ (by rfl) B.isi VC (aa (pv 0) (aa (lH (v:=.ref wM) (by rfl) (nA.mgc) rfl) af)))) (ar (cu (eR Vz VU VV cE (pv 1) (aa (kf (aa eN (aa aC af))) af)))) bx)
   (ag (cA (fS (aU mQ (by rfl) B.isi VC (aa (pv 0) (aa (lH (v:=.ref nJ) (by rfl) (dk.mgc) rfl) af)))) (ar (cu (eR Vz VU VV cE (pv 1) (aa (kf (aa eN (aa aC af))) af)))) bx)
   (ar (aW (pv 1))))))))),
   bE ["_law_e", "_law_kinds"] (K:=K) (aw (aS (i:=1) (bX ay))
   (aw (df (jJ (ip (de uu (ak (ah 0) (ak mI aF))))) (km (i:=1) (kg (ao (SR.kSc ff) (ao (SR.kSc aD) ay)))) bD)
   (aw (df (ip (de uu (ak (ah 0) (ak (yE tN.c) aF)))) (km (i:=1) (kg (ao (SR.kSc ff) (ao (SR.kSc (C8 (ah 0))) ay)))) bD)
   (aw (df (ip (de uu (ak (ah 0) (ak (yE dw.c) aF)))) (km (i:=1) (kg (ao (SR.kSc ff) (ao (SR.kSc (C8 (ah 0))) ay)))) bD)
   (aw (df (ip (de uu (ak (ah 0) (ak (yE nA.c) aF)))) (km (i:=1) (kg (ao (SR.kSc ff) (ao (SR.kSc aD) ay)))) bD)
   (aw (df (ip (de uu (ak (ah 0) (ak (yE dk.c) aF)))) (km (i:=1) (kg (ao (SR.kSc ff) (ao (SR.kSc aD) ay)))) bD)
   (bf (jH 1)))))))) h⟩⟩
abbrev hW:Stmt:=An 37 1
theorem xE:aR ["self", "m"] ["self", "m"] (aj hW):=⟨rfl,rfl,rfl,by decide +kernel,rfl,by decide +kernel,by decide +kernel⟩
theorem xH  {bo:Addr}(F:yU K "done" "Draw.done" hW f fd) (mt:uZ K bo "done" f) (b:dY K fd ["self", "m"] []) (B:Bt mg)   (AW:EW P w K mg base 6 "done_over" dZ ["change", "m"] (og K K25.fj) fdone_over fddone_over) (bg:ko K "Draw" bo) (cm:cO K bo "road"):IV P w K mg base 7 bo "done" ["self", "m"] (og K K25.dr) f fd :=
 ⟨bg.cl,mt,b,okX F xE (fun vs H Q E h=>gY h) fun ee A outer s H vs Q E hr h=>⟨_,
   (ar (aW (rJ AW (hr.mono (by decide)) fu (aa (pv 0) (aa (pv 1) af))))),
   eM ["self", "m"] (K:=K) (tF (ao (aA 0) (ao (aA 1) ay))) h⟩⟩
abbrev hX:Stmt:=oI 51
theorem jg:aR ["_law_change", "_law_m", "_law_told", "_law_found", "_law_e"] ["_law_change", "_law_m"] (aj hX):=⟨rfl,rfl,rfl,by decide +kernel,rfl,by decide +kernel,by decide +kernel⟩
theorem DU  {oS:Addr}{mH:List Value}{bo:Addr}(D:fU K mg "_law_done" hX ["_law_change", "_law_m"] f fd) (B:Bt mg)  (cR:Ft K mg "MapError" oS mH) (uR:Sy P w K mg base 3 "_law_kind" gu ["_law_e"] (bR K K23.fg) JY Gn) (bg:ko K "Draw" bo) (cm:cO K bo "road") (zY:IV P w K mg base 7 bo "done" ["self", "m"] (og K K25.dr) fDraw_done fdDraw_done):Fn P w K mg base 8 "_law_done" hX ["_law_change", "_law_m"] (bR K K25.eE) f fd :=
 ⟨D,D.F.ok jg (fun _ _ _ _=>cQ) fun ee A outer s H vs Q E hr h=>⟨_,
   (ag (aQ (i:=2) jg.nd rfl (by first|exact VL rfl|exact VJ rfl) mX)
   (ag (aQ (i:=3) jg.nd rfl (by first|exact VL rfl|exact VJ rfl) mX)
   (ag (CG (CZ (i:=3) zY (hr.mono (by decide)) (pv 0) (aa (pv 1) af) (Mw (i:=4) cR.xc cR.base cR.mgc jg.nd rfl rfl (fun _=>(ar (aQ (i:=2) jg.nd rfl (by first|exact VL rfl|exact VJ rfl) (Ih uR ((hr.h _).mono (by decide)) (aa (pv 4) af))))) Jb) jg.nd rfl (by first|exact VL rfl|exact VJ rfl)))
   (ag (cA (bA yM (pv 2) mX (cC _)) (ar (aW (bS (aa eN (aa (pv 3) af))))) bx)
   (ar (aW (bS (aa eN (aa (pv 2) af))))))))),
   bE ["_law_change", "_law_m", "_law_told", "_law_found", "_law_e"] (K:=K) (aw (aS (i:=2) (SR.kSc mO))
   (aw (aS (i:=3) (SR.kSc mO))
   (aw (DF (mT bg (aA 0) (ao (aA 1) ay)) (Na cR.c (aS (i:=2) (bp (ao (aA 4) ay))) IC))
   (aw (df (bz (aN xl (ah 2) mO)) (bf (bX (ao (SR.kSc ff) (ao (jH 3) ay)))) bD)
   (bf (bX (ao (SR.kSc ff) (ao (jH 2) ay)))))))) h⟩⟩
abbrev eU:Stmt:=oI 52
theorem mL:aR ["_law_m", "_law_end", "_law_turn_here", "_law_k"] ["_law_m", "_law_end"] (aj eU):=⟨rfl,rfl,rfl,by decide +kernel,rfl,by decide +kernel,by decide +kernel⟩
theorem Aw     (D:fU K mg "_law_behind" eU ["_law_m", "_law_end"] f fd) (B:Bt mg)     : Fn P w K mg base 1 "_law_behind" eU ["_law_m", "_law_end"] (bR K K25.gU) f fd :=
 ⟨D,D.F.ok mL (fun _ _ _ _=>cQ) fun ee A outer s H vs Q E hr h=>⟨_,
   (ag (aQ (i:=2) mL.nd rfl (by first|exact VL rfl|exact VJ rfl) (fY cL (gD (N:=["_law_turn_here", "_law_end"]) (fr:=[1]) rfl rfl (by decide +kernel) rfl (by decide +kernel) rfl (gd.of (by decide +kernel) rfl rfl (by exact⟨rfl,trivial⟩) (by repeat (first|exact trivial|refine⟨(by first|exact fun _=>⟨_,rfl⟩|exact fun h=>(by rcases h with h|h <;> cases h)),?_⟩)) (by exact⟨⟨rfl,rfl,rfl⟩,trivial⟩)) (dc (pv 0)) (fun _ _ _ _=>om (bA xg (pv 1) (pv 0) rfl)) (fun _ _ _ _=>(pv 0))) aC (fun _ _=>rfl)))
   (ag (aQ (i:=3) mL.nd rfl (by first|exact VL rfl|exact VJ rfl) (eR Vz WU Xi qj (pv 2) (aa (pv 1) af)))
   (ar (aW (cj kq (eV gE (pv 2) (fL (cj kY (pv 3) aC)) gZ) (eV gE (pv 2) gZ (fL (pv 3)))))))),
   bE ["_law_m", "_law_end", "_law_turn_here", "_law_k"] (K:=K) (aw (aS (i:=2) (Qo (SL.q (SK.lOf (fh (aA 0) (bz (aN (oC false) (ah 1) (ah 0))) (aA 0)))) aD))
   (aw (aS (i:=3) (SR.kSc (C9 (T := "list") pT (ah 2) (ak (ah 1) aF))))
   (bf (ke (SK.lOf (mE (iM 2) (fO (aN lW (ah 3) aD)) gW)) (SK.lOf (mE (iM 2) gW (fO (ah 3)))))))) h⟩⟩
abbrev hV:Stmt:=oI 53
theorem ji:aR ["_law_m", "_law_road", "_law_turns", "_law_here", "_law_k"] ["_law_m", "_law_road"] (aj hV):=⟨rfl,rfl,rfl,by decide +kernel,rfl,by decide +kernel,by decide +kernel⟩
theorem ED  (D:fU K mg "_law_draw" hV ["_law_m", "_law_road"] f fd) (B:Bt mg)   (uh:Fn P w K mg base 1 "_law_behind" eU ["_law_m", "_law_end"] (bR K K25.gU) P7 Pw) (sZ:Fn P w K mg base 1 "_law_all" iS ["_law_parts_here"] (bR K Zl.aX) Nl Mf) (yF:Fn P w K mg base 2 "_law_map" iT ["_law_turns"] (bR K K13.jW) PU L3)  : Fn P w K mg base 3 "_law_draw" hV ["_law_m", "_law_road"] (bR K K25.dO) f fd :=
 ⟨D,D.F.ok ji (fun _ _ _ _=>cQ) fun ee A outer s H vs Q E hr h=>⟨_,
   (ag (cA (bA gG (pv 1) (bQ sZ (hr.mono (by decide)) (aa (pv 0) af)) rfl) (ar (aW (bS (aa eN (aa (bS (aa (kf (aa eN (aa (pv 1) af))) af)) af))))) bx)
   (ag (CP (i:=2) (N:=["_law_turn_here", "_law_road"]) (fr:=[1]) rfl ji.nd rfl (by first|exact VL rfl|exact VJ rfl) rfl (by decide +kernel) rfl (by decide +kernel) rfl (gd.of (by decide +kernel) rfl rfl (by exact⟨rfl,trivial⟩) (by repeat (first|exact trivial|refine⟨(by first|exact fun _=>⟨_,rfl⟩|exact fun h=>(by rcases h with h|h <;> cases h)),?_⟩)) (by exact⟨⟨rfl,rfl,rfl⟩,trivial⟩)) (dc (pv 0)) (fun _ _ _ _=>om (PW.pt (HC (bA gG (pv 1) (pv 0) rfl) (Cp (bA gG (iO fA (pv 1)) (pv 0) rfl))))) (fun _ _ _ _=>(pv 0)))
   (ag (aQ (i:=3) ji.nd rfl (by first|exact VL rfl|exact VJ rfl) (bQ uh (hr.mono (by decide)) (aa (pv 0) (aa (pv 1) af))))
   (ag (cA (bA xg (iO fA (pv 1)) (pv 3) rfl) (ag (aQ (i:=4) ji.nd rfl (by first|exact VL rfl|exact VJ rfl) (eR Vz WU Xi qj (pv 3) (aa (iO fA (pv 1)) af))) (ar (aQ (i:=2) ji.nd rfl (by first|exact VL rfl|exact VJ rfl) (cj kq (pv 2) (bS (aa (eV gE (pv 3) gZ (fL (pv 4))) (aa (eV gE (pv 3) (fL (cj kY (pv 4) aC)) gZ) af))))))) (ar (aQ (i:=2) ji.nd rfl (by first|exact VL rfl|exact VJ rfl) (cj kq (pv 2) (bS (aa (cj kq (pv 3) (bQ uh (hr.mono (by decide)) (aa (pv 0) (aa (iO fA (pv 1)) af)))) af))))))
   (ag (cA (bA rV (aU dU (by rfl) B.len PySem.boot_len (aa (gD (cl:=[]) (N:=["_law_turn_here"]) (fr:=[]) rfl rfl (by decide +kernel) rfl (by decide +kernel) rfl (gd.none (by decide +kernel)) (dc (pv 2)) (fun _ _ _ _=>om (jw (qw (pv 0) (fun _=>rfl)))) (fun _ _ _ _=>(pv 0))) af)) aC (cC _)) (ar (aW (bS (aa eN (aa (bS (aa (kf (aa eN (aa aC af))) af)) af))))) bx)
   (ar (aW (bS (aa eN (aa (bQ yF (hr.mono (by decide)) (aa (pv 2) af)) af)))))))))),
   bE ["_law_m", "_law_road", "_law_turns", "_law_here", "_law_k"] (K:=K) (aw (df (bz (aN (oC true) (ah 1) (SK.rOf (bp (ao (aA 0) ay))))) (bf (bX (ao (SR.kSc ff) (ao (bX (ao (kg (ao (SR.kSc ff) (ao (aA 1) ay))) ay)) ay)))) bD)
   (aw (aS (i:=2) (fh (aA 0) (Im (bz (aN (oC true) (ah 1) (ah 0))) (bz (aN (oC true) (iQ fF (ah 1)) (ah 0)))) (aA 0)))
   (aw (aS (i:=3) (bp (ao (aA 0) (ao (aA 1) ay))))
   (aw (df (bz (aN (oC false) (iQ fF (ah 1)) (ah 3))) (aw (aS (i:=4) (SR.kSc (C9 (T := "list") pT (ah 3) (ak (iQ fF (ah 1)) aF)))) (aS (i:=2) (ke (jA 2) (SK.lOf (bX (ao (mE (iM 3) gW (fO (ah 4))) (ao (mE (iM 3) (fO (aN lW (ah 4) aD)) gW) ay))))))) (aS (i:=2) (ke (jA 2) (SK.lOf (bX (ao (ke (jA 3) (SK.lOf (bp (ao (aA 0) (ao (SR.kSc (iQ fF (ah 1))) ay))))) ay))))))
   (aw (df (bz (aN su (de gS (ak (SK.rOf (fh (aA 2) (jJ (yl (ah 0))) (aA 0))) aF)) aD)) (bf (bX (ao (SR.kSc ff) (ao (bX (ao (kg (ao (SR.kSc ff) (ao (SR.kSc aD) ay))) ay)) ay)))) bD)
   (bf (bX (ao (SR.kSc ff) (ao (bp (ao (aA 2) ay)) ay))))))))) h⟩⟩
abbrev iA:Stmt:=An 37 2
theorem xr:aR ["self", "m"] ["self", "m"] (aj iA):=⟨rfl,rfl,rfl,by decide +kernel,rfl,by decide +kernel,by decide +kernel⟩
theorem xR  {bo:Addr}(F:yU K "back" "Draw.back" iA f fd) (mt:uZ K bo "back" f) (b:dY K fd ["self", "m"] []) (B:Bt mg)   (As:EW P w K mg base 8 "back_over" ef ["change", "m"] (og K K25.iB) fback_over fdback_over) (bg:ko K "Draw" bo) (cm:cO K bo "road"):IV P w K mg base 9 bo "back" ["self", "m"] (og K K25.gm) f fd :=
 ⟨bg.cl,mt,b,okX F xr (fun vs H Q E h=>gY h) fun ee A outer s H vs Q E hr h=>⟨_,
   (ar (aW (rJ As (hr.mono (by decide)) fu (aa (pv 0) (aa (pv 1) af))))),
   eM ["self", "m"] (K:=K) (tF (ao (aA 0) (ao (aA 1) ay))) h⟩⟩
abbrev iC:Stmt:=oI 54
theorem jm:aR ["_law_change", "_law_m", "_law_told", "_law_found", "_law_e"] ["_law_change", "_law_m"] (aj iC):=⟨rfl,rfl,rfl,by decide +kernel,rfl,by decide +kernel,by decide +kernel⟩
theorem EN  {oS:Addr}{mH:List Value}{bo:Addr}(D:fU K mg "_law_back" iC ["_law_change", "_law_m"] f fd) (B:Bt mg)  (cR:Ft K mg "MapError" oS mH) (uR:Sy P w K mg base 3 "_law_kind" gu ["_law_e"] (bR K K23.fg) JY Gn) (bg:ko K "Draw" bo) (cm:cO K bo "road") (zp:IV P w K mg base 9 bo "back" ["self", "m"] (og K K25.gm) fDraw_back fdDraw_back):Fn P w K mg base 10 "_law_back" iC ["_law_change", "_law_m"] (bR K K25.ju) f fd :=
 ⟨D,D.F.ok jm (fun _ _ _ _=>cQ) fun ee A outer s H vs Q E hr h=>⟨_,
   (ag (aQ (i:=2) jm.nd rfl (by first|exact VL rfl|exact VJ rfl) mX)
   (ag (aQ (i:=3) jm.nd rfl (by first|exact VL rfl|exact VJ rfl) mX)
   (ag (CG (CZ (i:=3) zp (hr.mono (by decide)) (pv 0) (aa (pv 1) af) (Mw (i:=4) cR.xc cR.base cR.mgc jm.nd rfl rfl (fun _=>(ar (aQ (i:=2) jm.nd rfl (by first|exact VL rfl|exact VJ rfl) (Ih uR ((hr.h _).mono (by decide)) (aa (pv 4) af))))) Jb) jm.nd rfl (by first|exact VL rfl|exact VJ rfl)))
   (ag (cA (bA yM (pv 2) mX (cC _)) (ar (aW (bS (aa eN (aa (pv 3) af))))) bx)
   (ar (aW (bS (aa eN (aa (pv 2) af))))))))),
   bE ["_law_change", "_law_m", "_law_told", "_law_found", "_law_e"] (K:=K) (aw (aS (i:=2) (SR.kSc mO))
   (aw (aS (i:=3) (SR.kSc mO))
   (aw (DF (mT bg (aA 0) (ao (aA 1) ay)) (Na cR.c (aS (i:=2) (bp (ao (aA 4) ay))) IC))
   (aw (df (bz (aN xl (ah 2) mO)) (bf (bX (ao (SR.kSc ff) (ao (jH 3) ay)))) bD)
   (bf (bX (ao (SR.kSc ff) (ao (jH 2) ay)))))))) h⟩⟩
abbrev ir:Stmt:=An 37 4
theorem xS:aR ["self"] ["self"] (aj ir):=⟨rfl,rfl,rfl,by decide +kernel,rfl,by decide +kernel,by decide +kernel⟩
theorem xF    {bo:Addr}(F:yU K "told" "Draw.told" ir f fd) (mt:uZ K bo "told" f) (b:dY K fd ["self"] []) (B:Bt mg)    (bg:ko K "Draw" bo) (cm:cO K bo "road"):P5 P w K mg base 1 bo "told" ["self"] (bR K K25.gb) f fd :=
 ⟨bg.cl,mt,b,F.ok xS (fun _ _ _ _=>cQ) fun ee A outer s H vs Q E hr h=>⟨_,
   (ar (aW (kf (aa eN (aa (xN (pv 0) (by rfl)) af))))),
   bE ["self"] (K:=K) (bf (kg (ao (SR.kSc ff) (ao (SR.kSc (tH bg cm (ah 0))) ay)))) h⟩⟩
abbrev nY:Stmt:=oI 55
theorem fD:aR ["_law_script", "_law_names_here", "_law_turns", "_law_way", "_law_bare", "_law_m", "_law_roads", "_law_road", "_law_due", "_law_change", "_law_handed", "_law_found", "_law_turn_here"] ["_law_script"] (aj nY):=⟨rfl,rfl,rfl,by decide +kernel,rfl,by decide +kernel,by decide +kernel⟩
theorem NI  {bo:Addr}{Kg:Addr}{GQ:FuncData}{nr:Addr}(D:fU K mg "law" nY ["_law_script"] f fd) (B:Bt mg)   (Eu:Fn P w K mg base 2 "_law_names" gh ["_law_script"] (bR K K12.gP) R6 P4) (sZ:Fn P w K mg base 1 "_law_all" iS ["_law_parts_here"] (bR K Zl.aX) Nl Mf) (yF:Fn P w K mg base 2 "_law_map" iT ["_law_turns"] (bR K K13.jW) PU L3) (HL:Fn P w K mg base 3 "_law_draw" hV ["_law_m", "_law_road"] (bR K K25.dO) Sx Qi) (Ic:Fn P w K mg base 1 "_law_copy" iq ["_law_m"] (bR K K51.ku) Se R5) (Ak:Fn P w K mg base 8 "_law_done" hX ["_law_change", "_law_m"] (bR K K25.eE) Sw Rz) (En:Fn P w K mg base 1 "_law_parts" gj ["_law_cells", "_law_names_here"] (bR K K12.jj) QP P9) (gA:Fn P w K mg base 1 "_law_cell" gL ["_law_script", "_law_k"] (bR K Zl.aV) LO Ir) (gQ:Fn P w K mg base 5 "_law_alike" dS ["_law_found", "_law_due"] (bR K K13.ba) Rx Qc) (Iq:Fn P w K mg base 10 "_law_back" iC ["_law_change", "_law_m"] (bR K K25.ju) Sg RJ) (bg:ko K "Draw" bo) (cm:cO K bo "road") (Be:Hn P w K mg base "Draw" bo Kg GQ ["self", "road"] ["road"]) (yJ:Ts K bo) (vE:W.kitOne K (.ref bo) (.ref nr)=some true) (GF:mg "Change" = some (.ref nr)) (zD:P5 P w K mg base 1 bo "told" ["self"] (bR K K25.gb) fDraw_told fdDraw_told):Fn P w K mg base 11 "law" nY ["_law_script"] (bR K K25.Cn) f fd :=
 ⟨D,D.F.ok fD (fun _ _ _ _=>cQ) fun ee A outer s H vs Q E hr h=>⟨_,
   (ag (aQ (i:=1) fD.nd rfl (by first|exact VL rfl|exact VJ rfl) (bQ Eu (hr.mono (by decide)) (aa (pv 0) af)))
   (ag (aQ (i:=2) fD.nd rfl (by first|exact VL rfl|exact VJ rfl) (bQ sZ (hr.mono (by decide)) (aa (bQ En (hr.mono (by decide)) (aa (eV gE (pv 0) (fL aC) (fL aC)) (aa (pv 1) af))) af)))
   (ag (aQ (i:=3) fD.nd rfl (by first|exact VL rfl|exact VJ rfl) (cj iG (bQ gA (hr.mono (by decide)) (aa (pv 0) (aa aC af))) aC))
   (ag (cA (bA rV (pv 3) aC (cC _)) (ag (aQ (i:=2) fD.nd rfl (by first|exact VL rfl|exact VJ rfl) (cj kq (pv 2) (bS (aa (bS (aa (fY cL (pv 1) aC (fun _ _=>rfl)) (aa (iO fA (fY cL (pv 1) aC (fun _ _=>rfl))) af))) af)))) (ag (aQ (i:=4) fD.nd rfl (by first|exact VL rfl|exact VJ rfl) (aU dU (by rfl) B.len PySem.boot_len (aa (gD (cl:=[]) (N:=["_law_turn_here"]) (fr:=[]) rfl rfl (by decide +kernel) rfl (by decide +kernel) rfl (gd.none (by decide +kernel)) (dc (pv 2)) (fun _ _ _ _=>om (jw (qw (pv 0) (fun _=>rfl)))) (fun _ _ _ _=>(pv 0))) af))) (ar (aQ (i:=2) fD.nd rfl (by first|exact VL rfl|exact VJ rfl) (cj kq (pv 2) (gD (cl:=[]) (N:=["_law_k"]) (fr:=[]) rfl rfl (by decide +kernel) rfl (by decide +kernel) rfl (gd.none (by decide +kernel)) (qT (by rfl) B.range (aa (cj N1 (cj kY aC (pv 3)) (pv 4)) af)) (fun _ _ _ _=>qL) (fun _ _ _ _=>(bS af)))))))) bx)
   (ag (aQ (i:=5) fD.nd rfl (by first|exact VL rfl|exact VJ rfl) (bQ yF (hr.mono (by decide)) (aa (pv 2) af)))
   (ag (aQ (i:=6) fD.nd rfl (by first|exact VL rfl|exact VJ rfl) (cj kq (gD (cl:=[]) (N:=["_law_end"]) (fr:=[]) rfl rfl (by decide +kernel) rfl (by decide +kernel) rfl (gd.none (by decide +kernel)) (dc (bQ sZ (hr.mono (by decide)) (aa (pv 5) af))) (fun _ _ _ _=>om (bA rV (pv 0) aC (cC _))) (fun _ _ _ _=>(pv 0))) (bS (aa (fY cL (pv 1) aC (fun _ _=>rfl)) af))))
   (ag (aQ (i:=7) fD.nd rfl (by first|exact VL rfl|exact VJ rfl) (fY cL (pv 6) (cj iG (bQ gA (hr.mono (by decide)) (aa (pv 0) (aa aC af))) (aU dU (by rfl) B.len PySem.boot_len (aa (pv 6) af))) (fun _ _=>rfl)))
   (ag (cA (PW.pt (HC (bA rV (pv 3) aC (cC _)) (Cp (bA sr (cj iG (bQ gA (hr.mono (by decide)) (aa (pv 0) (aa aC af))) aC) aC (cC _))))) (ar (aQ (i:=7) fD.nd rfl (by first|exact VL rfl|exact VJ rfl) (fY cL (pv 1) aC (fun _ _=>rfl)))) bx)
   (ag (aQ (i:=8) fD.nd rfl (by first|exact VL rfl|exact VJ rfl) (bQ HL (hr.mono (by decide)) (aa (pv 5) (aa (pv 7) af))))
   (ag (aQ (i:=9) fD.nd rfl (by first|exact VL rfl|exact VJ rfl) (FG Be (hr.mono (by decide)) (aa (pv 7) af)))
   (ag (cA (PW.pt (CF (jw (fS (aU (Gh bg.cl yJ vE Ln) (by rfl) B.isi VC (aa (pv 9) (aa (lH (v:=.ref nr) (by rfl) GF rfl) af))))) (yu (jw (fS (bQ gQ (hr.mono (by decide)) (aa (Bg zD (hr.mono (by decide)) (pv 9)) (aa (kf (aa eN (aa (pv 7) af))) af)))))))) (ar (aW pJ)) bx)
   (ag (aQ (i:=10) fD.nd rfl (by first|exact VL rfl|exact VJ rfl) (bQ Ic (hr.mono (by decide)) (aa (pv 5) af)))
   (ag (aQ (i:=11) fD.nd rfl (by first|exact VL rfl|exact VJ rfl) (bQ Ak (hr.mono (by decide)) (aa (pv 9) (aa (pv 10) af))))
   (ag (cA (PW.pt (CF (jw (fS (bQ gQ (hr.mono (by decide)) (aa (pv 11) (aa (pv 8) af))))) (yu (jw (fS (bQ gQ (hr.mono (by decide)) (aa (pv 10) (aa (pv 5) af)))))))) (ar (aW pJ)) bx)
   (ag (cA (bA sr (fY cL (pv 11) aC (fun _ _=>rfl)) eN (cC _)) (ar (kj PassesOwn.never rfl (dc (fY cL (pv 11) aC (fun _ _=>rfl))) (ft (i:=12) fD.nd rfl (by first|exact VL rfl|exact VJ rfl))
    (ar (cu (eR Vz VU VV cE (pv 12) (aa aC af)))))) (ar (cA (jw (fS (bQ gQ (hr.mono (by decide)) (aa (bQ Iq (hr.mono (by decide)) (aa (pv 9) (aa (pv 10) af))) (aa (pv 8) af))))) (ar (aW pJ)) bx)))
   (ag (cA (jw (fS (bQ gQ (hr.mono (by decide)) (aa (bQ Ak (hr.mono (by decide)) (aa (pv 9) (aa (pv 10) af))) (aa (pv 8) af))))) (ar (aW pJ)) bx)
   (ar (aW (xD (bQ gQ (hr.mono (by decide)) (aa (pv 10) (aa (pv 5) af))) (BL (bQ gQ (hr.mono (by decide)) (aa (xN (pv 9) (by rfl)) (aa (pv 7) af))))))))))))))))))))))),
   bE ["_law_script", "_law_names_here", "_law_turns", "_law_way", "_law_bare", "_law_m", "_law_roads", "_law_road", "_law_due", "_law_change", "_law_handed", "_law_found", "_law_turn_here"] (K:=K) (aw (aS (i:=1) (bp (ao (aA 0) ay)))
   (aw (aS (i:=2) (bp (ao (bp (ao (mE (iM 0) (fO aD) (fO aD)) (ao (aA 1) ay))) ay)))
   (aw (aS (i:=3) (SR.kSc (aN iF (dG (ak (ah 0) (ak aD aF))) aD)))
   (aw (df (bz (aN su (ah 3) aD)) (aw (aS (i:=2) (ke (jA 2) (SK.lOf (bX (ao (bX (ao (SR.kSc (aN lY (ah 1) aD)) (ao (SR.kSc (iQ fF (aN lY (ah 1) aD))) ay))) ay))))) (aw (aS (i:=4) (SR.kSc (de gS (ak (SK.rOf (fh (aA 2) (jJ (yl (ah 0))) (aA 0))) aF)))) (aS (i:=2) (ke (jA 2) (SK.lOf (wA (ak (aN O2 (aN lW aD (ah 3)) (ah 4)) aF) qU (bX ay))))))) bD)
   (aw (aS (i:=5) (bp (ao (aA 2) ay)))
   (aw (aS (i:=6) (ke (SK.lOf (fh (bp (ao (aA 5) ay)) (bz (aN su (ah 0) aD)) (aA 0))) (SK.lOf (bX (ao (SR.kSc (aN lY (ah 1) aD)) ay)))))
   (aw (aS (i:=7) (SR.kSc (aN lY (ah 6) (aN iF (dG (ak (ah 0) (ak aD aF))) (de gS (ak (ah 6) aF))))))
   (aw (df (Im (bz (aN su (ah 3) aD)) (bz (aN pB (aN iF (dG (ak (ah 0) (ak aD aF))) aD) aD))) (aS (i:=7) (SR.kSc (aN lY (ah 1) aD))) bD)
   (aw (aS (i:=8) (bp (ao (aA 5) (ao (aA 7) ay))))
   (aw (aS (i:=9) (JD bg (ak (ah 7) aF)))
   (aw (df (DA (jJ (ip (Nd (w:=.ref nr) (u:=.ref nr) bg rfl (ah 9)))) (jJ (ip (dG (ak (SK.rOf (bp (mT bg (aA 9) ay))) (ak (SK.rOf (kg (ao (SR.kSc ff) (ao (aA 7) ay)))) aF)))))) (bf (SR.kSc qI)) bD)
   (aw (aS (i:=10) (bp (ao (aA 5) ay)))
   (aw (aS (i:=11) (bp (ao (aA 9) (ao (aA 10) ay))))
   (aw (df (DA (jJ (ip (dG (ak (ah 11) (ak (ah 8) aF))))) (jJ (ip (dG (ak (ah 10) (ak (ah 5) aF)))))) (bf (SR.kSc qI)) bD)
   (aw (df (bz (aN pB (aN lY (ah 11) aD) ff)) (ER (i:=11) (x:=12) (d:=.int 7) fun _=>.int) (df (jJ (ip (dG (ak (SK.rOf (bp (ao (aA 9) (ao (aA 10) ay)))) (ak (ah 8) aF))))) (bf (SR.kSc qI)) bD))
   (aw (df (jJ (ip (dG (ak (SK.rOf (bp (ao (aA 9) (ao (aA 10) ay)))) (ak (ah 8) aF))))) (bf (SR.kSc qI)) bD)
   (bf (SR.kSc (xY (dG (ak (ah 10) (ak (ah 5) aF))) (dG (ak (tH bg cm (ah 9)) (ak (ah 7) aF)))))))))))))))))))))) h⟩⟩
end
end K25
--ZQ3 --ZQ4 --ZQ5 --ZQ8
namespace K13
open PySem L2 Mr Z Xe Zl
def plain:Nat->D->Prop
 |0,_=>False
 |_+1,.int _=>True
 |_+1,.str _=>True
 |n+1,.list ds=>ds.length<1000000/\∀d∈ds,plain n d
 |n+1,.tup ds=>ds.length<1000000/\∀d∈ds,plain n d
 |_+1,_=>False
def iu:Nat->MF
 |0=>GS
 |n+1=>cY (iu n)
theorem uB{fm:MF}{x:D}{ds:List D}(hx:x = .list ds∨x = .tup ds) (hd:∀d∈ds,fm [d,d]=some (.sh (.bl true))):∃v,fv 2 (gM fm) (cS 0 ds.length) [some (.sh x),some (.sh x),none]=some (.nx [some (.sh x),some (.sh x),v]):=by
 have key:=rS (x:=2) (body:=gM fm) (fun _ S=>∃v,S=[some (.sh x),some (.sh x),v]) (ds:=cS 0 ds.length) (S:=[some (.sh x),some (.sh x),none]) ⟨none,rfl⟩ (by
  rintro i d S hd' ⟨v,rfl⟩;have hi:i<ds.length:=by
   have:=(gSq.mp hd').1
   rwa [fP]at this
  rw[vw hi]at hd';cases hd';have hat:atI ds (0+(i:Int))=some ds[i]:=by
   rw[xu (by lia)]
   have:(0+(i:Int)).toNat=i:=by lia
   rw[this];exact gEg hi
  have hq:=hd ds[i] (gRq hi);refine⟨[some (.sh x),some (.sh x),some (.sh (.int (0+(i:Int))))],?_,_,rfl⟩;rcases hx with rfl|rfl
  .simp_arith [gM,hat,hq]
  .simp_arith [gM,hat,hq])
 obtain⟨S',e,v,rfl⟩:=key;exact⟨v,e⟩
theorem M8(b:Bool):KB (.bl b) (.bl b)=some (.bl false):=by cases b <;> rfl
theorem fQ:∀(n:Nat) (d:D),plain n d->iu n [d,d]=some (.sh (.bl true))
 |0,_,h=>h.elim
 |n+1,d,h=>by
  show cY (iu n) [d,d]=_;cases d with
  |int i=>simp_arith [cY,jI,eq_self,Ag]
  |str x=>simp_arith [cY,jI,eq_self,zK]
  |list ds =>
   obtain⟨v,e⟩:=uB (fm:=iu n) (x:=.list ds) (.inl rfl) fun d hd=>fQ n d (h.2 d hd)
   have hrg:=tO (n:=ds.length) h.1
   simp_arith [cY,jI,eq_self,M8,decide_true,ZJ,hrg,e]
  |tup ds =>
   obtain⟨v,e⟩:=uB (fm:=iu n) (x:=.tup ds) (.inr rfl) fun d hd=>fQ n d (h.2 d hd)
   have hrg:=tO (n:=ds.length) h.1
   simp_arith [cY,jI,eq_self,M8,decide_true,ZJ,hrg,e]
  |_=>exact h.elim
theorem Mi{ns:List Int}(hl:ns.length<=500000):jE [dI ns]=some (aI (good ns)):=by
 cases ns with
 |nil =>
  simp_arith [jE,rB,yD]
  rfl
 |cons n ns =>
  obtain⟨h1,h2⟩:=wz (n:=n) (ns:=ns);have e:=mW h1 h2;have hle:=tZ (n::ns);have hm:DS [dI (n::ns)]=some (.int (ns.foldl min n)):=by
   show (eB ((n::ns).map D.int)).bind (fun ns=>(yA ns).map D.int)=_
   rw[eZ];rfl
  have hx:lN (dI (n::ns)) [.int (ns.foldl min n)]=some (.int (bJ (n::ns) (n::ns).length:Nat)):=by
   show (eB ((n::ns).map D.int)).bind _=_;rw[eZ];show (if _ then _ else _)=_
   rw[if_pos h1,e]
  have ht:yD (dI (n::ns))=some true:=rfl;generalize hN:n::ns=N at *;have hlen:(N.drop (bJ N N.length)).length+(N.take (bJ N N.length)).length<=dg:=by rw[VI,lTq];show _<=16777216;lia
  simp_arith [jE,rB,ht,hm,hx,gq,sX N _ hle,rz N _ hle,hlen,←mBq,ql]
  rfl
theorem DX{rs:List (List Int)}(hl:∀r∈rs,r.length<=500000):dh gf (bj jE (au (aH 0) aK)) [] (rs.map dI)=some ((rs.map good).map aI):=by
 rw[Z.jy fun d=>aI (good (jM d))]
 .rw [qB fun r=>aI (good r),mPq]
  rfl
 .intro d hd;obtain⟨r,hr,rfl⟩:=lV hd;refine⟨[some (.sh (dI r))],?_⟩
  simp_arith [Mi (hl r hr),fq]
theorem B1{rs:List (List Int)}(hl:∀r∈rs,r.length<=500000) (h7:rs.length<=dg):jW [dM rs]=some (.ow ((mw (rs.map good)).map aI)):=by
 simp_arith [jW,Am,DX hl,h7]
def dL(ms:List (List (List Int))):D:=.list (ms.map dM)
theorem A5{ms:List (List (List Int))}{i:Nat}{m:List (List Int)}(h:ms[i]?=some m):(ms.take (i+1)).flatten=(ms.take i).flatten++m:=by
 rw[W8,h,fAq];simp
theorem G8(ms:List (List (List Int))) (i:Nat):(ms.take i).flatten.length<=ms.flatten.length:=by
 have:=congrArg WR (congrArg ZO (V4 i ms));rw[fAq,lAq]at this;lia
theorem LJ{ms:List (List (List Int))}{i:Nat}{d:D}(h:(ms.map dM)[i]?=some d):∃m,ms[i]?=some m/\d=dM m:=by
 rw[gMq]at h;obtain⟨r,h1,h2⟩:=oMq.mp h;exact⟨r,h1,h2.symm⟩
def oM(rs:List (List Int)):AV:=.ow (rs.map fun r=>.sh (dI r))
theorem Ab(rs:List (List Int)):aE (oM rs)=dM rs:=by unfold oM;rw[hZ,CM]
theorem DQ{ms:List (List (List Int))}{body:MS}(hb:body=EA 1 (kE 2)) (hl:ms.flatten.length<=500000):∃v,fv 2 body (ms.map dM) [some (.sh (dL ms)),some (.ow []),none]=some (.nx [some (.sh (dL ms)),some (oM ms.flatten),v]):=by
 subst hb;have key:=rS (x:=2) (body:=EA 1 (kE 2)) (fun i S=>∃v,S=[some (.sh (dL ms)),some (oM (ms.take i).flatten),v]) (ds:=ms.map dM) (S:=[some (.sh (dL ms)),some (.ow []),none]) ⟨none,by simp[oM]⟩ (by
  rintro i d S hd ⟨v,rfl⟩;obtain⟨m,hm,rfl⟩:=LJ hd;have h1:=A5 hm;have h2:=G8 ms (i+1);rw[h1,lAq]at h2;have h3:(ms.take i).flatten.length+m.length<=dg:=dA (by lia)
  refine⟨[some (.sh (dL ms)),some (oM ((ms.take i).flatten++m)),some (.sh (dM m))],?_,some (.sh (dM m)),by rw[h1]⟩
  simp_arith [oM,h3,C1,←mBq])
 obtain⟨S',e,v,rfl⟩:=key;rw[lMq,Wy]at e;exact⟨v,e⟩
theorem PB{ms:List (List (List Int))}(hl:ms.flatten.length<=500000):aX [dL ms]=some (oM ms.flatten):=by
 obtain⟨v,e⟩:=DQ (ms:=ms) (body:=gJ) rfl hl;unfold dL at e ⊢
 simp_arith [aX,kW,e]
def S4(G:List (List Int)):D:=.list [.str "map", dM G]
theorem K6(n:Nat) (r:List Int) (h:r.length<1000000):plain (n+2) (dI r):=⟨by rw[lMq];exact h,fun d hd=>by obtain⟨z,_,rfl⟩:=mMq.mp hd;trivial⟩
theorem DD(n:Nat) (rs:List (List Int)) (h:rs.length<=1000) (h2:rs.flatten.length<=1000):plain (n+3) (dM rs):=⟨by rw[lMq];lia,fun d hd=>by
 obtain⟨r,hr,rfl⟩:=lV hd;exact K6 n r (by have:=ro hr;lia)⟩
theorem EU(G:List (List Int)) (h:G.length<=1000) (h2:G.flatten.length<=1000):plain 4 (S4 G):=⟨by show 2<1000000;decide,fun d hd=>by
 rcases VB.mp hd with rfl|hd
 .trivial
 .rw [mSq.mp hd];exact DD 0 G h h2⟩
theorem BU(w:Str) (z:Int):plain 4 (.list [.str "refused", .list [.tup [.str w,.int z]]]):=⟨by show 2<1000000;decide,fun d hd=>by
 rcases VB.mp hd with rfl|hd
 .trivial
 .rw [mSq.mp hd];exact⟨by show 1<1000000;decide,fun d hd=>by
   rw[mSq.mp hd];exact⟨by show 2<1000000;decide,fun d hd=>by
    rcases VB.mp hd with rfl|hd
    .trivial
    .rw [mSq.mp hd];trivial⟩⟩⟩
end K13
--ZQ3 --ZQ4 --ZQ5 --ZQ6 --ZQ8 --ZQ9 --ZQB --ZQC --ZQD --ZQE
namespace K12
open PySem L2 Mr Z Xe Zl
abbrev aP(part:List (List Int)):AV:=.ow (part.map aI)
theorem vF(n:Nat):yT (n+1) (-1)=some n:=by
 unfold yT;rw[if_neg (by decide),if_pos (by lia)]
 congr 1;lia
theorem GW{P0:List (List (List Int))}{last:List (List Int)}:bF (.ow ((P0++[last]).map aP)) [P0.length]=some (last.map aI):=by
 rw[ni,gMq,gYq (Vu _),WA];rfl
theorem qo{P0:List (List (List Int))}{last:List (List Int)}{h:Nat}{r:List Int}(hr:last[h]?=some r):bF (.ow ((P0++[last]).map aP)) [P0.length,h]=some (r.map fun n=>.sh (.int n)):=by
 rw[ni,gMq,gYq (Vu _),WA];show bF (.ow (last.map aI)) [h]=_;rw[ni,gMq,hr];rfl
theorem vb{α β:Type}(f:α->β) (l:List α) (i:Nat) (a:α):(l.map f).set i (f a)=(l.set i a).map f:=by rw[List.map_set]
theorem Dq{α:Type}(l:List α) (a b:α):(l++[a]).set l.length b=l++[b]:=by
 rw[YM _ _ (Vu _),WA];rfl
theorem SW{P0:List (List (List Int))}{last last':List (List Int)}:putAt (.ow ((P0++[last]).map aP)) [P0.length] (last'.map aI) = .ow ((P0++[last']).map aP):=by
 rw[oZ (a:=aP last) (by rw[gMq,gYq (Vu _),WA];rfl)]
 show AV.ow (((P0++[last]).map aP).set P0.length (aP last'))=_;rw[vb,Dq]
theorem Gg{P0:List (List (List Int))}{last:List (List Int)}{h:Nat}{r r':List Int}(hr:last[h]?=some r):putAt (.ow ((P0++[last]).map aP)) [P0.length,h] (r'.map fun n=>.sh (.int n)) = .ow ((P0++[last.set h r']).map aP):=by
 rw[oZ (a:=aP last) (by rw[gMq,gYq (Vu _),WA];rfl)]
 have e:putAt (aP last) [h] (r'.map fun n=>.sh (.int n))=aP (last.set h r'):=by
  rw[oZ (a:=aI r) (by rw[gMq,hr];rfl)]
  show AV.ow ((last.map aI).set h (aI r'))=_;rw[vb]
 rw[e,vb,Dq]
structure Wd where
 P0:List (List (List Int))
 last:List (List Int)
 t0:List Nat
 h:Nat
 left:List Int
 used:Nat
def Nc(c e:Int):Int:=if c / 8 % 2=1 then -e else e
def rZ(nm:List Int) (w:Wd) (c:Int):Wd :=
 let e:=Nc c (nm.getD w.used 0)
 let r:=w.last.getD w.h []
 if c % 8<4 then
  if c % 8<2 then { w with last:=w.last.set w.h (r++[e]),left:=w.left++[-e],used:=w.used+1 }
  else { w with last:=w.last.set w.h (r++[e])++[[-e]],t0:=w.t0++[w.h],h:=w.last.length,used:=w.used+1 }
 else if c % 8<6 then
  if w.left=[] then w else { w with last:=w.last.set w.h (r++[w.left.getD (c / 16 % w.left.length).toNat 0]),left:=w.left.eraseIdx (c / 16 % w.left.length).toNat }
 else if c % 8=6 then
  match w.t0.getLast? with
  |none=>w
  |some h'=>{ w with t0:=w.t0.dropLast,h:=h' }
 else { P0:=w.P0++[w.last.set w.h (r++w.left)],last:=[[]],t0:=[],h:=0,left:=[],used:=w.used }
abbrev cN(ks:List Nat):List Int:=ks.map fun n:Nat=>(n:Int)
def st(v0 v1:Option AV) (w:Wd) (v6 v7 v8 v9:Option AV):AS:=[v0,v1,some (.ow ((w.P0++[w.last]).map aP)),some (aI (cN (w.t0++[w.h]))),some (aI w.left),some (.sh (.int (w.used:Int))),v6,v7,v8,v9]
def S0:List Nat->MS:=(fun path=>aJ ((Cg 2 (aH 9)) path) (aJ (aZ 5 (kSc (bV lK (aq 5) (rC (.int 1))))) (jl (dC (bV JN (aq 7) (rC (.int 2)))) (mB 4 (kSc (kr gn (aq 9)))) (aJ (mB 3 (kSc (kF iz (ai (bV sD (aq 2) (kr gn (rC (.int 1)))) aG)))) (Cq 2 (JM 2 (Bb 2) (kr gn (rC (.int 1)))) (cW (au (kSc (kr gn (aq 9))) aK)))))))
def SB:List Nat->MS:=(vK 2 (xp (aq 4)) (yP 2 (tJ 4 (bV il (bV AM (aq 6) (rC (.int 16))) (kF iz (ai (aq 4) aG))))) (fun _=>bG))
def TF:List Nat->MS:=(fun _=>(jl (dC (bV A0 (kF iz (ai (aq 3) aG)) (rC (.int 1)))) (yK (wZ 3)) bG))
def Uh:List Nat->MS:=(fun path=>aJ ((DC 2 (kE 4)) path) (aJ (aZ 4 (cW aK)) (aJ (mB 2 (cW (au (cW aK) aK))) (aZ 3 (cW (au (kSc (rC (.int 0))) aK))))))
def AY:List Nat->MS:=(vK 2 (dC (bV JN (aq 7) (rC (.int 4)))) S0 (vK 2 (dC (bV JN (aq 7) (rC (.int 6)))) SB (vK 2 (dC (bV yV (aq 7) (rC (.int 6)))) TF Uh)))
theorem Mb:eD=(aJ (aZ 7 (kSc (bV il (aq 6) (rC (.int 8))))) (Kl 8 2 (JM 2 (JM 2 (Bb 2) (kr gn (rC (.int 1)))) (bV sD (aq 3) (kr gn (rC (.int 1))))) (Bo 2 (aZ 9 (kSc (bV sD (aq 1) (aq 5)))) (Bo 2 (jl (dC (bV yV (bV il (bV AM (aq 6) (rC (.int 8))) (rC (.int 2))) (rC (.int 1)))) (aZ 9 (kSc (kr gn (aq 9)))) bG) AY)))):=rfl
theorem Hv{nm:List Int}{P0:List (List (List Int))}{last:List (List Int)}{t0:List Nat}{hd:Nat}{left r:List Int}{used:Nat}{c:Int}{v0 v7 v8 v9:Option AV}(hh:hd<last.length) (hr:last[hd]?=some r) (hu:used<nm.length) :
  eD (st v0 (some (.sh (dI nm))) ⟨P0,last,t0,hd,left,used⟩ (some (.sh (.int c))) v7 v8 v9)=AY [P0.length,hd] (st v0 (some (.sh (dI nm))) ⟨P0,last,t0,hd,left,used⟩ (some (.sh (.int c))) (some (.sh (.int (c % 8)))) none (some (.sh (.int (Nc c (nm.getD used 0)))))):=by
 have m8:=nu (i:=c) (j:=8) (by decide)
 have d8:=yp (i:=c) (j:=8) (by decide) (by decide)
 have m2:=nu (i:=c / 8) (j:=2) (by decide)
 have n2:=qo (P0:=P0) hr;have n1:=GW (P0:=P0) (last:=last);have lenP:(P0++[last]).length=P0.length+1:=by simp
 have iP:=vF P0.length;have iL:yT last.length (hd:Int)=some hd:=Dp hh;have at3:atI ((cN (t0++[hd])).map D.int) (-1)=some (.int (hd:Int)):=by
  unfold cN;rw[mBq,mBq];exact vc _ _
 have st3:=cH (cN (t0++[hd]));have atn:atI (nm.map D.int) (used:Int)=some (.int (nm.getD used 0)):=qE (by rw[gMq,gDq,gEg hu];rfl)
 have q82:((8:Nat)≠2/\8<10)=True:=by simp
 rw[Mb]
 by_cases hs:c / 8 % 2=1
 .have es:Nc c (nm.getD used 0) = -(nm.getD used 0):=if_pos hs
  simp_arith [st,m8,lenP,iP,n1,n2,iL,st3,dI,at3,q82,atn,d8,m2,hs,es,eq_self]
 .have es:Nc c (nm.getD used 0)=nm.getD used 0:=if_neg hs
  simp_arith [st,m8,lenP,iP,n1,n2,iL,st3,dI,at3,q82,atn,d8,m2,hs,es,eq_self]
end K12
--ZQ3 --ZQ4 --ZQ5 --ZQ6 --ZQ8 --ZQ9 --ZQB --ZQC --ZQD --ZQE
namespace K12
open PySem L2 Mr Z Xe Zl
section
variable {nm:List Int}{P0:List (List (List Int))}{last:List (List Int)}{t0:List Nat}{hd:Nat}{left r:List Int}{used:Nat}{c e:Int}{v0 v1 v8:Option AV}
theorem yf(r:List Int) (e:Int):(r.map fun n=>AV.sh (.int n))++[.sh (.int e)]=(r++[e]).map fun n=>.sh (.int n):=by rw[mBq];rfl
theorem Dh(r s:List Int):(r.map fun n=>AV.sh (.int n))++(s.map D.int).map AV.sh=(r++s).map fun n=>.sh (.int n):=by rw[mBq,mPq];rfl
theorem KZ(l:List (List Int)) (e:Int):l.map aI++[.ow [.sh (.int e)]]=(l++[[e]]).map aI:=by rw[mBq];rfl
theorem KW(P:List (List (List Int))):P.map aP++[.ow [.ow []]]=(P++[[[]]]).map aP:=by rw[mBq];rfl
theorem MU(ks:List Nat) (n:Nat):(cN ks).map (fun n=>AV.sh (.int n))++[.sh (.int (n:Int))]=(cN (ks++[n])).map fun n=>.sh (.int n):=by unfold cN;rw[mBq,mBq];rfl
theorem CA(P:List (List (List Int))):(P.map aP).map aE=P.map dM:=by
 rw[mPq];refine mCq fun p _=>?_
 show aE (.ow (p.map aI))=dM p;rw[hZ,mPq];show D.list _=D.list _;congr 1;exact mCq fun r _=>cH r
theorem S5(P0:List (List (List Int))) (last:List (List Int)):atI ((P0++[last]).map dM) (-1)=some (dM last):=by rw[mBq];exact vc _ _
theorem Iw{α β:Type}(f:α->β):∀(l:List α) (i:Nat),(l.map f).eraseIdx i=(l.eraseIdx i).map f
 | [],i=>rfl
 |x::l,0=>rfl
 |x::l,i+1=>by rw[VG,WS,WS,Iw f l i,VG]
theorem Q2{l:List Int}(h:l≠[]):yD (.list (l.map D.int))=some true:=by
 cases l with
 |nil=>exact absurd rfl h
 |cons x l=>rfl
theorem RF(hh:hd<last.length) (hr:last[hd]?=some r) (hrl:r.length<500000) (hll:left.length<500000) (h4:c % 8<4) (h2:c % 8<2) :
  AY [P0.length,hd] (st v0 v1 ⟨P0,last,t0,hd,left,used⟩ (some (.sh (.int c))) (some (.sh (.int (c % 8)))) v8 (some (.sh (.int e))))=some (.nx (st v0 v1 ⟨P0,last.set hd (r++[e]),t0,hd,left++[-e],used+1⟩ (some (.sh (.int c))) (some (.sh (.int (c % 8)))) v8 (some (.sh (.int e))))):=by
 have n2:=qo (P0:=P0) hr;have l1:r.length<dg:=by show _<16777216;lia
 have l2:left.length<dg:=by show _<16777216;lia
 have p2:=Gg (P0:=P0) (r':=r++[e]) hr;have a1:=yf r e;have a2:=yf left (-e);have eu:((used+1:Nat):Int)=(used:Int)+1:=by lia
 simp_arith [AY,S0,st,h4,n2,l1,a1,p2,h2,l2,a2,eu]
theorem QM(hh:hd<last.length) (hr:last[hd]?=some r) (hrl:r.length<500000) (hll:last.length<500000) (htl:t0.length<500000) (h4:c % 8<4) (h2:¬ c % 8<2) :
  AY [P0.length,hd] (st v0 v1 ⟨P0,last,t0,hd,left,used⟩ (some (.sh (.int c))) (some (.sh (.int (c % 8)))) v8 (some (.sh (.int e))))=some (.nx (st v0 v1 ⟨P0,last.set hd (r++[e])++[[-e]],t0++[hd],last.length,left,used+1⟩ (some (.sh (.int c))) (some (.sh (.int (c % 8)))) v8 (some (.sh (.int e))))):=by
 have n2:=qo (P0:=P0) hr;have l1:r.length<dg:=by show _<16777216;lia
 have p2:=Gg (P0:=P0) (r':=r++[e]) hr;have a1:=yf r e;have eu:((used+1:Nat):Int)=(used:Int)+1:=by lia
 have sP:=CA (P0++[last.set hd (r++[e])]);have aP':=S5 P0 (last.set hd (r++[e]));have n1:=GW (P0:=P0) (last:=last.set hd (r++[e]));have lenP:(P0++[last.set hd (r++[e])]).length=P0.length+1:=by simp
 have lenL:(last.set hd (r++[e])).length=last.length:=lZq;have iP:=vF P0.length;have l2:last.length<dg:=by show _<16777216;lia
 have lt':(t0++[hd]).length<dg:=by rw[lAq];show t0.length+1<16777216;lia
 have a2:=MU (t0++[hd]) last.length;have a3:=KZ (last.set hd (r++[e])) (-e);have p1:=SW (P0:=P0) (last:=last.set hd (r++[e])) (last':=last.set hd (r++[e])++[[-e]])
 simp_arith [AY,S0,st,h4,n2,l1,a1,p2,h2,sP,aP',n1,lenP,lenL,iP,l2,lt',a2,a3,p1,eu]
theorem QJ(hr:last[hd]?=some r) (h4:¬ c % 8<4) (h6:c % 8<6) :
  AY [P0.length,hd] (st v0 v1 ⟨P0,last,t0,hd,[],used⟩ (some (.sh (.int c))) (some (.sh (.int (c % 8)))) v8 (some (.sh (.int e))))=some (.nx (st v0 v1 ⟨P0,last,t0,hd,[],used⟩ (some (.sh (.int c))) (some (.sh (.int (c % 8)))) v8 (some (.sh (.int e))))):=by
 have n2:=qo (P0:=P0) hr;have tr:yD (.list [])=some false:=rfl
 simp_arith [AY,SB,st,h4,n2,h6,tr]
theorem Ri(hr:last[hd]?=some r) (hrl:r.length<500000) (hll:left.length<500000) (hne:left≠[]) (h4:¬ c % 8<4) (h6:c % 8<6) :
  AY [P0.length,hd] (st v0 v1 ⟨P0,last,t0,hd,left,used⟩ (some (.sh (.int c))) (some (.sh (.int (c % 8)))) v8 (some (.sh (.int e))))=some (.nx (st v0 v1 ⟨P0,last.set hd (r++[left.getD (c / 16 % left.length).toNat 0]),t0,hd,left.eraseIdx (c / 16 % left.length).toNat,used⟩ (some (.sh (.int c))) (some (.sh (.int (c % 8)))) v8 (some (.sh (.int e))))):=by
 have n2:=qo (P0:=P0) hr;have l1:r.length<dg:=by show _<16777216;lia
 have hpos:0<left.length:=Yj.mpr hne;have d16:=yp (i:=c) (j:=16) (by decide) (by decide)
 have ml:=nu (i:=c / 16) (j:=(left.length:Int)) (by lia)
 have b0:0<=c / 16 % (left.length:Int):=WG _ (by lia)
 have b1:c / 16 % (left.length:Int)<(left.length:Int):=Wq _ (by lia)
 have hlt:(c / 16 % (left.length:Int)).toNat<left.length:=by lia
 have ll:left.length<=dg:=by show _<=16777216;lia
 have g1:(left.map fun n=>AV.sh (.int n))[(c / 16 % (left.length:Int)).toNat]?=some (.sh (.int (left.getD (c / 16 % (left.length:Int)).toNat 0))):=by
  rw[gMq,gEg hlt,gDq,gEg hlt];rfl
 have g2:(left.map fun n=>AV.sh (.int n)).eraseIdx (c / 16 % (left.length:Int)).toNat=(left.eraseIdx (c / 16 % (left.length:Int)).toNat).map fun n=>.sh (.int n):=Iw _ _ _
 have p2:=Gg (P0:=P0) (r':=r++[left.getD (c / 16 % (left.length:Int)).toNat 0]) hr;have a1:=yf r (left.getD (c / 16 % (left.length:Int)).toNat 0);have sl:=cH left;have q:(0<=c / 16 % (left.length:Int)/\c / 16 % (left.length:Int)<(left.length:Int)/\left.length<=dg)=True:=by simp[b0,b1,ll]
 have tr:=Q2 hne
 simp_arith [AY,SB,st,h4,n2,h6,l1,d16,ml,q,g1,g2,a1,p2,sl,dI,tr,eq_self,true_and]
theorem Ql(hr:last[hd]?=some r) (h6:c % 8=6) :
  AY [P0.length,hd] (st v0 v1 ⟨P0,last,[],hd,left,used⟩ (some (.sh (.int c))) (some (.sh (.int (c % 8)))) v8 (some (.sh (.int e))))=some (.nx (st v0 v1 ⟨P0,last,[],hd,left,used⟩ (some (.sh (.int c))) (some (.sh (.int (c % 8)))) v8 (some (.sh (.int e))))):=by
 have n2:=qo (P0:=P0) hr;have h4:¬ (6:Int)<4:=by decide
 have h5:¬ (6:Int)<6:=by decide
 have sl:=cH (cN [hd]);have k1:decide ((1:Int)<((1:Nat):Int))=false:=by decide
 simp_arith [AY,TF,st,h6,n2,h4,h5,sl,dI,cN,k1]
theorem RO{t:List Nat}{h':Nat}(hr:last[hd]?=some r) (h6:c % 8=6) :
  AY [P0.length,hd] (st v0 v1 ⟨P0,last,t++[h'],hd,left,used⟩ (some (.sh (.int c))) (some (.sh (.int (c % 8)))) v8 (some (.sh (.int e))))=some (.nx (st v0 v1 ⟨P0,last,t,h',left,used⟩ (some (.sh (.int c))) (some (.sh (.int (c % 8)))) v8 (some (.sh (.int e))))):=by
 have n2:=qo (P0:=P0) hr;have h4:¬ (6:Int)<4:=by decide
 have h5:¬ (6:Int)<6:=by decide
 have sl:=cH (cN (t++[h']++[hd]));have k1:(1:Int)<((t++[h']++[hd]).length:Int):=by simp;lia
 have ec:(cN (t++[h']++[hd])).map (fun n=>AV.sh (.int n))=(cN (t++[h'])).map (fun n=>AV.sh (.int n))++[.sh (.int (hd:Int))]:=(MU (t++[h']) hd).symm
 have p1:((cN (t++[h'])).map (fun n=>AV.sh (.int n))++[AV.sh (.int (hd:Int))])[((cN (t++[h'])).map (fun n=>AV.sh (.int n))++[AV.sh (.int (hd:Int))]).length-1]?=some (.sh (.int (hd:Int))):=by
  rw[lAq,lSq,gYq (by lia)]
  simp
 have p2:((cN (t++[h'])).map (fun n=>AV.sh (.int n))++[AV.sh (.int (hd:Int))]).dropLast=(cN (t++[h'])).map (fun n=>AV.sh (.int n)):=Y1
 simp_arith [AY,TF,st,h6,n2,h4,h5,sl,dI,k1,ec,p1,p2]
theorem SG(hr:last[hd]?=some r) (hrl:r.length+left.length<500000) (hPl:P0.length<500000) (h4:¬ c % 8<4) (h5:¬ c % 8<6) (h6:¬ c % 8=6) :
  AY [P0.length,hd] (st v0 v1 ⟨P0,last,t0,hd,left,used⟩ (some (.sh (.int c))) (some (.sh (.int (c % 8)))) v8 (some (.sh (.int e))))=some (.nx (st v0 v1 ⟨P0++[last.set hd (r++left)],[[]],[],0,[],used⟩ (some (.sh (.int c))) (some (.sh (.int (c % 8)))) v8 (some (.sh (.int e))))):=by
 have n2:=qo (P0:=P0) hr;have l1:r.length+left.length<=dg:=by show _<=16777216;lia
 have p2:=Gg (P0:=P0) (r':=r++left) hr;have a1:=Dh r left;have a1':(r.map fun n=>AV.sh (.int n))++(left.map fun n=>AV.sh (.int n))=(r++left).map fun n=>.sh (.int n):=mBq.symm
 have lenP:(P0++[last.set hd (r++left)]).length<dg:=by rw[lAq];show P0.length+1<16777216;lia
 have a2:=KW (P0++[last.set hd (r++left)]);have sl:=cH left
 simp_arith [AY,Uh,st,h4,n2,h5,h6,l1,a1,a1',p2,lenP,a2,sl,dI]
 first|rfl|(simp[cN];done)
end
end K12
--ZQ3 --ZQ4 --ZQ5 --ZQ6 --ZQ8 --ZQ9 --ZQB --ZQC --ZQD --ZQE
namespace K12
open PySem L2 Mr Z Xe Zl
noncomputable def oY(nm:List Int) (k:Nat):List Int:=(nm.take k).flatMap fun x=>[x, -x]
theorem ri{nm:List Int}{k:Nat}{x:Int}(h:nm[k]?=some x):oY nm (k+1)=oY nm k++[x, -x]:=by
 unfold oY;rw[gk h,List.flatMap_append];rfl
theorem uW{nm:List Int}:∀{k:Nat},k<=nm.length->(oY nm k).length=2*k
 |0,_=>rfl
 |k+1,h=>by
  rw[ri (gEg (show k<nm.length by lia)),lAq,uW (by lia)]
  show 2*k+2=_;lia
theorem nK{x r:List Int}(a:Int):∀{l:List (List Int)}{h:Nat},l[h]?=some r->(l.set h (r++x)).flatten.count a=l.flatten.count a+x.count a
 | [],_,h=>by simp at h
 |s::l,0,h=>by
  cases h;rw[Xk,fCq,fCq,cAq,cAq,cAq];lia
 |s::l,h+1,e=>by
  rw[XU,fCq,fCq,cAq,cAq,nK a (by simpa using e)]
  lia
theorem wa(a:Int):∀{l:List Int}{j:Nat},j<l.length->(l.eraseIdx j).count a+[l.getD j 0].count a=l.count a
 | [],_,h=>by simp at h
 |x::l,0,_=>by
  rw[List.eraseIdx_cons_zero,show x::l=[x]++l from rfl,cAq]
  show l.count a+[x].count a=_;lia
 |x::l,j+1,h=>by
  have ih:=wa a (l:=l) (j:=j) (by simpa using h)
  rw[WS,show x::l.eraseIdx j=[x]++l.eraseIdx j from rfl,show (x::l).getD (j+1) 0=l.getD j 0 from rfl,show x::l=[x]++l from rfl,cAq,cAq]
  lia
theorem Dv(a c x:Int):[Nc c x].count a+[-(Nc c x)].count a=[x, -x].count a:=by
 rw[show [x, -x]=[x]++[-x] from rfl,cAq]
 unfold Nc;split
 .rw [Xx];lia
 .rfl
structure JF (nm:List Int) (w:Wd) (n:Nat):Prop where
 hh:w.h<w.last.length
 ht:∀k∈w.t0,k<w.last.length
 us:w.used<=n
 lP:w.P0.length<=n
 lt:w.t0.length<=n
 tl:w.P0.flatten.length+w.last.length<=n+1
 cnt:∀a,w.P0.flatten.flatten.count a+w.last.flatten.count a+w.left.count a=(oY nm w.used).count a
theorem JF.perm{nm:List Int}{w:Wd}{n:Nat}(h:JF nm w n):(w.P0.flatten.flatten++w.last.flatten++w.left).Perm (oY nm w.used):=by
 rw[Za];intro a;rw[cAq,cAq];exact h.cnt a
theorem JF.len{nm:List Int}{w:Wd}{n:Nat}(h:JF nm w n) (hu:w.used<=nm.length):w.last.flatten.length+w.left.length<=2*n:=by
 have:=h.perm.length_eq;rw[uW hu,lAq,lAq]at this;have:=h.us;lia
theorem Dl{l:List (List Int)}{h:Nat}{r:List Int}(e:l[h]?=some r):r.length<=l.flatten.length:=XB.length_le (VX (mGq e))
theorem JF.step{nm:List Int}{w:Wd}{n:Nat}(h:JF nm w n) (hu:w.used<nm.length) (c:Int):JF nm (rZ nm w c) (n+1):=by
 obtain⟨P0,last,t0,hd,left,used⟩:=w;obtain⟨hh,ht,us,lP,lt,tl,cnt⟩:=h;simp only at hh ht us lP lt tl cnt hu;have hr:last[hd]?=some (last.getD hd []):=by rw[gDq,gEg hh];rfl
 have hx:nm[used]?=some (nm.getD used 0):=by rw[gDq,gEg hu];rfl
 unfold rZ;simp only;split
 .split
  .refine ⟨?_,?_,?_,?_,?_,?_,fun a=>?_⟩
   .simp only [lZq];exact hh
   .simp only [lZq];exact ht
   .simp only;lia
   .simp only;lia
   .simp only;lia
   .simp only [lZq];lia
   .simp only;rw[nK a hr,ri hx,cAq,cAq,←cnt a,←Dv a c (nm.getD used 0)];lia
  .refine ⟨?_,?_,?_,?_,?_,?_,fun a=>?_⟩
   .simp only [lAq,lZq,lSq];lia
   .intro k hk;simp only[lAq,lZq,lSq];rcases mAq.mp hk with q|q
    .have:=ht k q;lia
    .rw [mSq.mp q];lia
   .simp only;lia
   .simp only;lia
   .simp only [lAq,lSq];lia
   .simp only [lAq,lZq,lSq];lia
   .simp only;rw[fAq,cAq,VZ,nK a hr,ri hx,cAq,←cnt a,←Dv a c (nm.getD used 0)];lia
 .split
  .split
   .exact ⟨hh,ht,by simp only;lia,by simp only;lia,by simp only;lia,by simp only;lia,cnt⟩
   .rename_i hne;have hpos:0<left.length:=Yj.mpr hne;have hlt:(c / 16 % (left.length:Int)).toNat<left.length:=by
     have b0:0<=c / 16 % (left.length:Int):=WG _ (by lia)
     have b1:c / 16 % (left.length:Int)<(left.length:Int):=Wq _ (by lia)
     lia
    refine⟨?_,?_,?_,?_,?_,?_,fun a=>?_⟩
    .simp only [lZq];exact hh
    .simp only [lZq];exact ht
    .simp only;lia
    .simp only;lia
    .simp only;lia
    .simp only [lZq];lia
    .simp only;have:=wa a hlt;rw[nK a hr,←cnt a];lia
  .split
   .split
    .exact ⟨hh,ht,by simp only;lia,by simp only;lia,by simp only;lia,by simp only;lia,cnt⟩
    .rename_i h' hl;refine⟨ht h' (List.mem_of_getLast? hl),fun k hk=>ht k (List.dropLast_subset _ hk),by simp only;lia,by simp only;lia,?_,by simp only;lia,cnt⟩
     simp only[YX];lia
   .refine ⟨?_,?_,?_,?_,?_,?_,fun a=>?_⟩
    .simp
    .intro k hk;cases hk
    .simp only;lia
    .simp only [lAq,lSq];lia
    .simp
    .simp only [fAq,lAq,VZ,lZq,lSq];lia
    .simp only;rw[fAq,fAq,VZ,cAq,nK a hr,←cnt a];simp;lia
theorem Ea{nm:List Int}{w:Wd}{n:Nat}{c:Int}{v0 v7 v8 v9:Option AV}(h:JF nm w n) (hn:n<1000) (hu:w.used<nm.length):∃v7' v8' v9',eD (st v0 (some (.sh (dI nm))) w (some (.sh (.int c))) v7 v8 v9)=some (.nx (st v0 (some (.sh (dI nm))) (rZ nm w c) (some (.sh (.int c))) v7' v8' v9')):=by
 have hlen:=h.len (Wu hu);obtain⟨P0,last,t0,hd,left,used⟩:=w;obtain⟨hh,ht,us,lP,lt,tl,cnt⟩:=h;simp only at hh ht us lP lt tl cnt hu hlen;have hr:last[hd]?=some (last.getD hd []):=by rw[gDq,gEg hh];rfl
 have hrl:=Dl hr;have pre:=Hv (P0:=P0) (t0:=t0) (left:=left) (c:=c) (v0:=v0) (v7:=v7) (v8:=v8) (v9:=v9) hh hr hu;refine⟨some (.sh (.int (c % 8))),none,some (.sh (.int (Nc c (nm.getD used 0)))),?_⟩;rw[pre];unfold rZ;simp only
 by_cases h4:c % 8<4
 .rw [if_pos h4]
  by_cases h2:c % 8<2
  .rw [if_pos h2];exact RF hh hr (by lia) (by lia) h4 h2
  .rw [if_neg h2];exact QM hh hr (by lia) (by lia) (by lia) h4 h2
 .rw [if_neg h4]
  by_cases h6:c % 8<6
  .rw [if_pos h6]
   by_cases hl:left=[]
   .subst hl;rw[if_pos rfl];exact QJ hr h4 h6
   .rw [if_neg hl];exact Ri hr (by lia) (by lia) hl h4 h6
  .rw [if_neg h6]
   by_cases h66:c % 8=6
   .rw [if_pos h66];rcases List.eq_nil_or_concat t0 with rfl|⟨t,h',rfl⟩
    .exact Ql hr h66
    .rw [List.concat_eq_append,List.getLast?_append];simp only[List.getLast?_singleton,Option.some_or,Y1];exact RO hr h66
   .rw [if_neg h66];exact SG hr (by lia) (by lia) h4 h6 h66
end K12
--ZQ3 --ZQ4 --ZQ5 --ZQ6 --ZQ8 --ZQ9 --ZQB --ZQC --ZQD --ZQE
namespace K12
open PySem L2 Mr Z Xe Zl
def w0:Wd:=⟨[],[[]],[],0,[],0⟩
theorem Ml(nm:List Int):JF nm w0 0:=⟨by decide,(fun k h=>by cases h),Vu _,Vu _,Vu _,by decide,fun a=>by simp[w0,oY]⟩
theorem tW{nm:List Int}:∀(cs:List Int) {w:Wd}{n:Nat},JF nm w n->n+cs.length<=nm.length->JF nm (cs.foldl (rZ nm) w) (n+cs.length)
 | [],w,n,h,_=>h
 |c::cs,w,n,h,hl=>by
  rw[lCq]at hl;have h1:=h.step (by have:=h.us;lia) c
  have:=tW cs h1 (by lia)
  rw[Yf,lCq,show n+(cs.length+1)=n+1+cs.length by lia]
  exact this
theorem BW{nm cs:List Int}{v6 v7 v8 v9:Option AV}(hc:cs.length<=63) (hn:nm.length=66):∃v6' v7' v8' v9',fv 6 eD (cs.map D.int) (st (some (.sh (dI cs))) (some (.sh (dI nm))) w0 v6 v7 v8 v9)=some (.nx (st (some (.sh (dI cs))) (some (.sh (dI nm))) (cs.foldl (rZ nm) w0) v6' v7' v8' v9')):=by
 have key:=rS (x:=6) (body:=eD) (fun i S=>∃v6 v7 v8 v9,S=st (some (.sh (dI cs))) (some (.sh (dI nm))) ((cs.take i).foldl (rZ nm) w0) v6 v7 v8 v9) (ds:=cs.map D.int) (S:=st (some (.sh (dI cs))) (some (.sh (dI nm))) w0 v6 v7 v8 v9) ⟨v6,v7,v8,v9,rfl⟩ (by
  rintro i d S hd ⟨v6,v7,v8,v9,rfl⟩;rw[gMq]at hd;obtain⟨c,hc',rfl⟩:=oMq.mp hd;have hi:i<cs.length:=(gSq.mp hc').1;have ok:=tW (nm:=nm) (cs.take i) (Ml nm) (by rw[lTq];lia)
  rw[lTq]at ok;obtain⟨v7',v8',v9',e⟩:=Ea (c:=c) (v0:=some (.sh (dI cs))) (v7:=v7) (v8:=v8) (v9:=v9) ok (by lia) (by have:=ok.us;lia)
  refine⟨_,e,some (.sh (.int c)),v7',v8',v9',?_⟩;rw[Fk hc'])
 obtain⟨S',e,v6',v7',v8',v9',rfl⟩:=key;rw[lMq,Wy]at e;exact⟨v6',v7',v8',v9',e⟩
theorem GE{nm cs:List Int}(hc:cs.length<=63) (hn:nm.length=66):∃(P:List (List (List Int))) (used:Nat),jj [dI cs,dI nm]=some (.ow (P.map aP))/\P.flatten.flatten.Perm (oY nm used)/\used<=63/\P.flatten.length<=64/\P.length<=64:=by
 obtain⟨v6,v7,v8,v9,e⟩:=BW (v6:=none) (v7:=none) (v8:=none) (v9:=none) hc hn;have ok:=tW (nm:=nm) cs (Ml nm) (by lia)
 rw[WT]at ok;generalize cs.foldl (rZ nm) w0=w at e ok;have hlen:=ok.len (by have:=ok.us;lia)
 have hpm:=ok.perm;obtain⟨P0,last,t0,hd,left,used⟩:=w;obtain⟨hh,ht,us,lP,lt,tl,cnt⟩:=ok;simp only at hh ht us lP lt tl cnt hlen hpm;have hr:last[hd]?=some (last.getD hd []):=by rw[gDq,gEg hh];rfl
 have hrl:=Dl hr;generalize last.getD hd []=r at hr hrl;have n2:=qo (P0:=P0) hr;have n1:=GW (P0:=P0) (last:=last);have lenP:(P0++[last]).length=P0.length+1:=by simp
 have iP:=vF P0.length;have iL:yT last.length (hd:Int)=some hd:=Dp hh;have at3:atI ((cN (t0++[hd])).map D.int) (-1)=some (.int (hd:Int)):=by
  unfold cN;rw[mBq,mBq];exact vc _ _
 have st3:=cH (cN (t0++[hd]));have p2:=Gg (P0:=P0) (r':=r++left) hr;have a1:=Dh r left;have a1':(r.map fun n=>AV.sh (.int n))++(left.map fun n=>AV.sh (.int n))=(r++left).map fun n=>.sh (.int n):=mBq.symm
 have l1:r.length+left.length<=dg:=by show _<=16777216;lia
 have e':fv 6 eD (cs.map D.int) [some (.sh (dI cs)),some (.sh (dI nm)),some (.ow [.ow [.ow []]]),some (.ow [.sh (.int 0)]),some (.ow []),some (.sh (.int 0)),none,none,none,none]=some (.nx [some (.sh (dI cs)),some (.sh (dI nm)),some (.ow ((P0++[last]).map aP)),some (aI (cN (t0++[hd]))),some (aI left),some (.sh (.int (used:Int))),v6,v7,v8,v9]):=e;refine⟨P0++[last.set hd (r++left)],used,?_,?_,by lia,?_,?_⟩
 .simp_arith [jj,uy,e',lenP,iP,n1,n2,iL,st3,dI,at3,l1,a1,a1',p2]
 .rw [Za];intro a;rw[fAq,fAq,VZ,cAq,nK a hr,←cnt a];lia
 .rw [fAq,VZ,lAq,lZq];lia
 .rw [lAq,lSq];lia
end K12
--ZQ3 --ZQ4 --ZQ5 --ZQ6 --ZQ8 --ZQ9 --ZQB --ZQC --ZQD --ZQE
namespace K12
open PySem L2 Mr Z Xe Zl
def Qa(st sh a b k:Int):Int:=st*((a*k+b) % 67+1)+sh
def MC(st sh a b:Int):List Int:=(Wm 66).map fun k:Nat=>Qa st sh a b k
theorem vg{st sh a b:Int}(h1:1<=a) (h2:a<=66):dh gf (kSc (bV lK (bV xO (aq 2) (bV lK (bV il (bV lK (bV xO (aq 4) (aq 0)) (aq 3)) (rC (.int 67))) (rC (.int 1)))) (aq 1))) [some (.sh (.int sh)),some (.sh (.int st)),some (.sh (.int b)),some (.sh (.int a))] (cS 0 66)=some ((MC st sh a b).map fun z=>.sh (.int z)):=by
 have key:=jy (te:=kSc (bV lK (bV xO (aq 2) (bV lK (bV il (bV lK (bV xO (aq 4) (aq 0)) (aq 3)) (rC (.int 67))) (rC (.int 1)))) (aq 1))) (cap:=[some (.sh (.int sh)),some (.sh (.int st)),some (.sh (.int b)),some (.sh (.int a))])
  (fun d=>match d with|.int k=>.sh (.int (Qa st sh a b k))|_=>.sh .non) (ds:=cS 0 66) (by
  intro d hd;rw[rR]at hd;obtain⟨k,_,rfl⟩:=mMq.mp hd;have b1:0<=(a*(k:Int)+b) % 67:=WG _ (by decide)
  have b2:(a*(k:Int)+b) % 67<67:=Wq _ (by decide)
  have c1:=Qv (i:=a) (j:=(k:Int)) (by lia) (by lia)
  have c2:=Rn (i:=st) (j:=(a*(k:Int)+b) % 67+1) (by lia) (by lia)
  have m67:=fun i:Int=>nu (i:=i) (j:=67) (by decide)
  refine⟨[some (.sh (.int (k:Int))),some (.sh (.int sh)),some (.sh (.int st)),some (.sh (.int b)),some (.sh (.int a))],?_⟩
  simp_arith [c1,c2,m67,Qa])
 rw[key,rR,mPq];unfold MC;rw[mPq];rfl
theorem Gq(ns:List Int):∃st sh a b:Int,1<=st/\st<=10 ^ 58/\0<=sh/\sh<10 ^ 58/\1<=a/\a<=66/\gP [.scr ns]=some (aI (MC st sh a b)):=by
 have a1:0<=cell ns 0 / 3 % 66:=WG _ (by decide)
 have a2:cell ns 0 / 3 % 66<66:=Wq _ (by decide)
 have s1:0<=cell ns 1 % 10 ^ 58:=WG _ (by decide)
 have s2:cell ns 1 % 10 ^ 58<10 ^ 58:=Wq _ (by decide)
 have s3:0<=cell ns 2 % 10 ^ 58:=WG _ (by decide)
 have s4:cell ns 2 % 10 ^ 58<10 ^ 58:=Wq _ (by decide)
 have m3:=fun i:Int=>nu (i:=i) (j:=3) (by decide)
 have m66:=fun i:Int=>nu (i:=i) (j:=66) (by decide)
 have m67:=fun i:Int=>nu (i:=i) (j:=67) (by decide)
 have m58:=fun i:Int=>nu (i:=i) (j:=10 ^ 58) (by decide)
 have d3:=fun i:Int=>yp (i:=i) (j:=3) (by decide) (by decide)
 have d198:=fun i:Int=>yp (i:=i) (j:=198) (by decide) (by decide)
 have r66:xB [.int 66]=some (cS 0 66):=tO (n:=66) (by decide)
 have l66:(cS 0 66).length<=dg:=by rw[fP];show 66<=16777216;decide
 by_cases h0:0<cell ns 0 % 3
 .refine ⟨1+cell ns 1 % 10 ^ 58,cell ns 2 % 10 ^ 58,1+cell ns 0 / 3 % 66,cell ns 0 / 198 % 67,by lia,by lia,s3,s4,by lia,by lia,?_⟩
  have rc:=vg (st:=1+cell ns 1 % 10 ^ 58) (sh:=cell ns 2 % 10 ^ 58) (a:=1+cell ns 0 / 3 % 66) (b:=cell ns 0 / 198 % 67) (by lia) (by lia)
  simp_arith [gP,ou,Mv,Qe,Rf,h0,m3,m66,m67,m58,d3,d198,Uy,r66,l66,rc]
 .refine ⟨1,0,1+cell ns 0 / 3 % 66,cell ns 0 / 198 % 67,by decide,by decide,by decide,by decide,by lia,by lia,?_⟩
  have rc:=vg (st:=1) (sh:=0) (a:=1+cell ns 0 / 3 % 66) (b:=cell ns 0 / 198 % 67) (by lia) (by lia)
  simp_arith [gP,ou,Mv,h0,m3,m66,m67,d3,d198,r66,l66,rc]
theorem LB{st sh a b:Int}(h1:1<=st) (h2:1<=a) (h3:a<=66) {j k:Nat}(hj:j<67) (hk:k<67) (h:Qa st sh a b j=Qa st sh a b k):j=k:=by
 unfold Qa at h;have e1:st*((a*j+b) % 67+1)=st*((a*k+b) % 67+1):=by lia
 have e2:=Int.eq_of_mul_eq_mul_left (by lia) e1
 have e3:((a*j+b)-(a*k+b)) % 67=0:=Int.emod_eq_emod_iff_emod_sub_eq_zero.mp (by lia)
 have e4:(a*((j:Int)-k)) % 67=0:=by
  rw[←e3];congr 1;rw[Int.mul_sub];lia
 obtain⟨tn,rfl⟩:∃tn:Nat,a=(tn:Int)+1:=⟨(a-1).toNat,by lia⟩
 rcases Zj j k with q|q|q
 .exfalso;refine Mr.Ck ⟨tn,by lia⟩ ⟨k-j,by lia⟩ (by show 0<k-j;lia) ?_
  show (tn+1)*(k-j) % 67=0;have e5:(((tn:Int)+1)*((k:Int)-j)) % 67=0:=by
   have:((tn:Int)+1)*((k:Int)-j) = -(((tn:Int)+1)*((j:Int)-k)):=by
    rw[←Int.mul_neg];congr 1;lia
   rw[this];lia
  have e6:(((tn+1)*(k-j) % 67:Nat):Int)=0:=by
   rw[←e5];push_cast [Wu q];rfl
  lia
 .exact q
 .exfalso;refine Mr.Ck ⟨tn,by lia⟩ ⟨j-k,by lia⟩ (by show 0<j-k;lia) ?_
  show (tn+1)*(j-k) % 67=0;have e6:(((tn+1)*(j-k) % 67:Nat):Int)=0:=by
   rw[←e4];push_cast [Wu q];rfl
  lia
structure Nm (nm:List Int):Prop where
 len:nm.length=66
 nd:nm.Nodup
 lo:∀x∈nm,1<=x
 hi:∀x∈nm,x<10 ^ 60
theorem Pd{st sh a b:Int}(h1:1<=st) (h1':st<=10 ^ 58) (h2:0<=sh) (h2':sh<10 ^ 58) (h3:1<=a) (h4:a<=66):Nm (MC st sh a b):=by
 have key:∀x∈MC st sh a b,1<=x/\x<10 ^ 60:=fun x h=>by
  obtain⟨k,_,rfl⟩:=mMq.mp h;have b1:0<=(a*(k:Int)+b) % 67:=WG _ (by decide)
  have b2:(a*(k:Int)+b) % 67<67:=Wq _ (by decide)
  have l1:1*1<=st*((a*(k:Int)+b) % 67+1):=ZG h1 (by lia) (by decide) (by lia)
  have l2:st*((a*(k:Int)+b) % 67+1)<=10 ^ 58*67:=ZG h1' (by lia) (by lia) (by decide)
  show 1<=st*((a*(k:Int)+b) % 67+1)+sh/\st*((a*(k:Int)+b) % 67+1)+sh<10 ^ 60;lia
 refine⟨by unfold MC;rw[lMq,V9],?_,fun x h=>(key x h).1,fun x h=>(key x h).2⟩
 unfold MC;rw[V7,Wt];refine V1.imp_of_mem (fun {x y} hx hy hne e=>hne (LB h1 h3 h4 (by have:=X0.mp hx;lia) (by have:=X0.mp hy;lia) e)) (V7.mp List.nodup_range)
theorem qC{nm:List Int}{k:Nat}{z:Int}:z∈oY nm k↔∃x∈nm.take k,z=x∨z = -x:=by
 unfold oY;rw[Zz];simp
theorem AQ:∀{l:List Int},l.Nodup->(∀x∈l,1<=x)->(l.flatMap fun x=>[x, -x]).Nodup
 | [],_,_=>V6
 |x::l,hn,hp=>by
  have hn':=Vx.mp hn;have px:=hp x (V0 ..);rw[List.flatMap_cons,nAq];refine⟨?_,AQ hn'.2 fun y hy=>hp y (mCo _ hy),fun a ha b hb e=>?_⟩
  .rw [Vx];refine⟨?_,by simp⟩
   rw[mSq];lia
  .subst e;obtain⟨y,hy,q⟩:=Zz.mp hb;have py:=hp y (mCo _ hy);simp at ha q;have:y=x:=by lia
   exact hn'.1 (this ▸ hy)
theorem Bh{nm:List Int}(h:Nm nm) (k:Nat):(oY nm k).Nodup:=AQ (h.nd.sublist (Wc ..)) fun x hx=>h.lo x (V3 hx)
theorem GN{nm:List Int}{k:Nat}{z:Int}(h:z∈oY nm k):-z∈oY nm k:=by
 obtain⟨x,hx,q⟩:=qC.mp h;refine qC.mpr ⟨x,hx,?_⟩;lia
end K12
--ZQ3 --ZQ4 --ZQ5 --ZQ6 --ZQ8 --ZQ9
namespace K51
open PySem L2 Mr Z Xe Zl
def rd(st sh a b k:Int):Int:=st*(1+(a*k+b) % 67)+sh
end K51
--ZQ3 --ZQ4 --ZQ5 --ZQ6 --ZQ8 --ZQ9
namespace K51
open PySem L2 Mr Z Xe Zl
end K51
--ZQ3 --ZQ4 --ZQ5 --ZQ6 --ZQ8 --ZQ9
namespace K51
open PySem L2 Mr Z Xe Zl
end K51
--ZQ3 --ZQ4 --ZQ5 --ZQ6 --ZQ8 --ZQ9
namespace K51
open PySem L2 Mr Z Xe Zl
end K51
--ZQ3 --ZQ4 --ZQ5 --ZQ6 --ZQ8 --ZQ9
namespace K51
open PySem L2 Mr Z Xe Zl
noncomputable def plc(rs:List (List Int)) (e:Int):Nat:=rs.findIdx fun r=>decide (e∈r)
structure Mp (rs:List (List Int)):Prop where
 hn:rs.flatten.Nodup
 hl:rs.flatten.length<=1000
 hr:rs.length<=1000
 hneg:∀e∈rs.flatten, -e∈rs.flatten
inductive Sv (rs:List (List Int)) (s:Nat):Nat->Prop
 |base:Sv rs s s
 |step {k:Nat}{r:List Int}{e:Int}:Sv rs s k->rs[k]?=some r->e∈r->Sv rs s (plc rs (-e))
structure Inv (rs:List (List Int)) (s:Nat) (ks ws:List Nat):Prop where
 nd:ks.Nodup
 lt:∀k∈ks,k<rs.length
 st:s∈ks
 rc:∀k∈ks,Sv rs s k
 sub:∀w∈ws,w∈ks
 cl:∀k∈ks,k∉ws->∀r e,rs[k]?=some r->e∈r->plc rs (-e)∈ks
 few:2*(rs.length-ks.length)+ws.length<=2*rs.length+1
noncomputable def mu(N:Nat):AS->Nat
 | [_,_,_,some (.owd kv),some (.ow w),_,_,_]=>2*(N-kv.length)+w.length
 |_=>0
end K51
--ZQ3 --ZQ4 --ZQ5 --ZQ6 --ZQ8 --ZQ9
namespace K51
open PySem L2 Mr Z Xe Zl
end K51
--ZQ3 --ZQ4 --ZQ5 --ZQ6 --ZQ8 --ZQ9 --ZQB --ZQC --ZQD --ZQE
namespace K12
open PySem L2 Mr Z Xe Zl
structure Pt (P:List (List (List Int))):Prop where
 nd:P.flatten.flatten.Nodup
 ng:∀z∈P.flatten.flatten, -z∈P.flatten.flatten
 nz:∀z∈P.flatten.flatten,z≠0/\-(10 ^ 60)<z/\z<10 ^ 60
 le:P.flatten.flatten.length<=126
 lt:P.flatten.length<=64
 lp:P.length<=64
theorem Qr{nm:List Int}(hm:Nm nm) {P:List (List (List Int))}{u:Nat}(hp:P.flatten.flatten.Perm (oY nm u)) (hu:u<=63) (h1:P.flatten.length<=64) (h2:P.length<=64):Pt P:=by
 refine⟨hp.symm.nodup (Bh hm u),fun z hz=>hp.mem_iff.mpr (GN (hp.mem_iff.mp hz)),fun z hz=>?_,?_,h1,h2⟩
 .obtain ⟨x,hx,q⟩:=qC.mp (hp.mem_iff.mp hz);have l:=hm.lo x (V3 hx);have h:=hm.hi x (V3 hx);lia
 .rw [hp.length_eq,uW (by rw[hm.len];lia)]
  lia
end K12
--ZQ3 --ZQ4 --ZQ5 --ZQ6 --ZQ8 --ZQ9 --ZQB --ZQC --ZQD --ZQE
namespace K12
open PySem L2 Mr Z Xe Zl
theorem Fp(rs:List (List Int)):dh gf (uX (jO 0)) [] (rs.map dI)=some (rs.map aI):=by
 rw[Z.jy fun d=>aI (jM d)]
 .rw [qB aI]
 .intro d hd;obtain⟨r,hr,rfl⟩:=lV hd;refine⟨[some (.sh (dI r))],?_⟩
  simp_arith [fq]
theorem zc{α:Type}(xs:List α) (i:Nat):iU xs (some (i:Int)) none=xs.drop i:=by
 unfold iU;rw[HT.nB,HT.qm,Wh (by rw[VI];exact Vu _)]
 by_cases h:i<=xs.length
 .rw [Xp h]
 .rw [X9 (by lia),W0 (Vu _),W0 (by lia)]
theorem FN{α:Type}(xs:List α) (i:Nat):iU xs none (some (i:Int))=xs.take i:=by
 by_cases h:i<=xs.length
 .exact sX xs i h
 .unfold iU;rw[HT.nB,HT.qm,X9 (by lia),Xz,ZN,Wh (Vu _),Wh (by lia)]
theorem NZ{rs:List (List Int)}(h:∀r∈rs,r.length<=1000):∃bs,mN (.int 7) (rs.map aI)=some bs/\bs.length=rs.length:=by
 induction rs with
 |nil=>exact⟨[],rfl,rfl⟩
 |cons r rs ih =>
  obtain⟨bs,e,hl⟩:=ih fun r hr=>h r (mCo _ hr)
  have h1:(r.map fun n=>AV.sh (.int n)).length<dg:=GA (by rw[lMq];have:=h r (by simp);lia)
  refine⟨.ow ((r.map fun n=>AV.sh (.int n))++[.sh (.int 7)])::bs,?_,by simp[hl]⟩
  show iD ((r.map fun n=>AV.sh (.int n)).length<dg) ((mN (.int 7) (rs.map aI)).map _)=_
  rw[iV h1,e];rfl
def tl:MS:=(aJ (aZ 5 (eX (lu (aH 3)) [] gf (eX (lu (aH 0)) [] gf (uX (jO 0)))))
 (aJ (aZ 6 (bj (okX K13.uQ) (au (aH 5) aK)))
 (aJ (jl (vO (eh (dC (cK K13.ba (ai (aq 6) (ai (aq 2) aG))))) (eh (dC (cK K13.ba (ai (aq 5) (ai (aq 3) aG)))))) (cB (kSc (rC (.bl false)))) bG)
 (aJ (OZ 6 7 (.int 7))
 (aJ (mB 6 (cW (au (kSc (rC (.int 8))) aK)))
 (aJ (jl (vO (eh (dC (cK K13.ba (ai (aq 5) (ai (aq 3) aG))))) (eh (dC (cK K13.ba (ai (rOf (bj (okX K13.uQ) (au (aH 5) aK))) (ai (aq 2) aG)))))) (cB (kSc (rC (.bl false)))) bG)
 (cB (kSc (cK K13.ba (ai (rOf (bj (okX K13.uQ) (au (bj K51.IT (au (eX (lu (aH 2)) [] gf (uX (jO 0))) aK)) aK))) (ai (aq 2) aG)))))))))))
end K12
--ZQ3 --ZQ4 --ZQ5 --ZQ6 --ZQ8 --ZQ9 --ZQB --ZQC --ZQD --ZQE --ZQF
namespace K23
open PySem L2 Mr Z Xe Zl
theorem Ub:under "NotThere" "TooMany" = false/\under "NotThere" "Taken" = false/\under "NotThere" "NoPlace" = false/\under "TooMany" "NotThere" = false/\under "TooMany" "Taken" = false/\under "TooMany" "NoPlace" = false:=by decide +kernel
theorem vz(z:Int):fg [.exc "NotThere" [("end", z)]]=some (.ow [.sh (.tup [.str "there", .int z])]):=by
 have l0:0<dg:=by decide
 simp_arith [fg,qK,Ub,ZK,l0]
theorem wI:fg [.exc "TooMany" []]=some (.ow [.sh (.tup [.str "many", .int 0])]):=by
 have l0:0<dg:=by decide
 simp_arith [fg,qK,Ub,ZK,l0]
abbrev cz(z:Int):D:=.ins "Cut" [("road", .int z)]
theorem TJ(z:Int):vU "Cut" "road" (cz z)=some (.int z):=by rfl
theorem in1(z:Int):vL "Cut" "done" (.sh (cz z))=some (cz z):=by rfl
theorem Vc(z:Int):vL "Cut" "back" (.sh (cz z))=some (cz z):=by rfl
noncomputable def yr(z:Int) (t:List Int):List Int:=t.filter fun e=>!decide (e∈[z, -z])
theorem UX(i z:Int):qp true (.int i) (.tup [.int z,.int (-z)])=some (.bl (!decide (i∈[z, -z]))):=uq true i [z, -z]
theorem LV(t:List Int) (p:Int->Bool):((t.map D.int).filter fun d=>match d with|.int e=>p e|_=>false).map (fun d=>AV.sh d)=(t.filter p).map fun n=>.sh (.int n):=by
 rw[Xr,mPq];rfl
theorem Lc(z:Int) (t:List Int):dh (dC (bV (qp true) (aq 0) (aq 1))) (aH 0) [some (.sh (.tup [.int z,.int (-z)]))] (t.map D.int)=some ((yr z t).map fun n=>.sh (.int n)):=by
 rw[Z.fe (fun d=>match d with|.int e=>!decide (e∈[z, -z])|_=>false) (fun d=>.sh d)]
 .rw [LV];rfl
 .intro d hd;obtain⟨e,_,rfl⟩:=mMq.mp hd;have h:=UX e z;refine⟨[some (.sh (.int e)),some (.sh (.tup [.int z,.int (-z)]))],?_,fun _=>⟨[some (.sh (.int e)),some (.sh (.tup [.int z,.int (-z)]))],?_⟩⟩
  .simp_arith [h]
  .simp_arith []
theorem L7(z:Int) (t:List Int) (ht:t.length<=1000):jk [dI t,.tup [.int z,.int (-z)]]=some (aI (yr z t)):=by
 have h:=Lc z t;have hl2:t.length<=dg:=dA (by lia)
 simp_arith [jk,tT,dI,h,hl2]
theorem B2(z:Int) {rs:List (List Int)}(hr:∀r∈rs,r.length<=1000):dh gf (bj jk (au (aH 0) (au (qr (au (aH 1) (au (kSc (kr gn (aq 1))) aK))) aK))) [some (.sh (.int z))] (rs.map dI)=some ((rs.map (yr z)).map aI):=by
 rw[Z.jy fun d=>aI (yr z (jM d))]
 .rw [qB fun r=>aI (yr z r),mPq]
  rfl
 .intro d hd;obtain⟨r,hr',rfl⟩:=lV hd;refine⟨[some (.sh (dI r)),some (.sh (.int z))],?_⟩
  simp_arith [L7 z r (hr r hr'),fq]
theorem rm(rs:List (List Int)):dh (eh (xp (aq 0))) (aH 0) [] (rs.map dI)=some ((rs.filter fun r=>decide (r=[])).map fun r=>.sh (dI r)):=by
 rw[Z.fe (fun d=>decide (jM d=[])) (fun d=>.sh d)]
 .rw [Xr,mPq];have:(fun d=>decide (jM d=[]))∘dI=fun r=>decide (r=[]):=by funext r;show decide (jM (dI r)=[])=_;rw[fq]
  rw[this];rfl
 .intro d hd;obtain⟨r,hr,rfl⟩:=lV hd;rw[fq];refine⟨[some (.sh (dI r))],?_,fun _=>⟨[some (.sh (dI r))],?_⟩⟩
  .cases r with
   |nil =>
    have t0:yD (dI [])=some false:=rfl
    simp_arith [t0]
   |cons x r =>
    have t1:yD (dI (x::r))=some true:=rfl
    simp_arith [t1]
  .simp_arith []
theorem rn(rs:List (List Int)):(rs.filter fun r=>decide (r=[])).length=bare rs:=by
 rw[←List.countP_eq_length_filter];rfl
def C(z:Int) (rs:List (List Int)):List (List Int):=rs.map (yr z)
noncomputable def oq(w:Str) (z:Int):AV:=.ow [.sh (.str "refused"),.ow [.sh (.tup [.str w,.int z])]]
def vQ(G:List (List Int)):AV:=.ow [.sh (.str "map"),.ow (G.map aI)]
section
variable {rs:List (List Int)}{z:Int}
theorem GI:(C z rs).flatten=yr z rs.flatten:=by
 unfold C yr;rw[List.filter_flatten]
theorem SX(h:rs.flatten.length<=128):(C z rs).flatten.length<=128:=by
 rw[GI];exact Wi (WI _ _) h
theorem Cb(hf:rs.flatten.length<=128) (hl:rs.length<=1000):jf [dM rs]=some (if bare rs<=128 then .ok (.ow ((mw (rs.map good)).map aI)) else .ex "TooMany" []):=by
 have h1:=OD (rs:=rs) (by lia)
 have h2:=ky (rs:=rs) (fun r hr=>by have:=ro hr;lia) (dA (by lia))
 by_cases c:bare rs<=128
 .rw [if_pos ⟨hf,c⟩]at h1;rw[if_pos c]
  simp_arith [jf,oJ,h1,h2]
 .rw [if_neg fun q=>c q.2]at h1
  rw[if_neg c]
  simp_arith [jf,oJ,h1]
theorem Iu(hf:rs.flatten.length<=128) (h:z∉rs.flatten):aY [dM rs,.int z]=some (.ex "NotThere" [("end", z)]):=by
 have ht:=kZ (rs:=rs) (by lia)
 have d0:decide (z∈rs.flatten)=false:=decide_eq_false h
 simp_arith [aY,fN,ht,d0]
theorem J1(hf:rs.flatten.length<=128) (hl:rs.length<=1000) (h:z∈rs.flatten):aY [dM rs,.int z]=some (if bare (C z rs)<=128 then .ok (.ow ((mw ((C z rs).map good)).map aI)) else .ex "TooMany" []):=by
 have ht:=kZ (rs:=rs) (by lia)
 have d0:decide (z∈rs.flatten)=true:=decide_eq_true h;have hs:=Cb (rs:=C z rs) (SX hf) (by unfold C;rw[lMq];exact hl)
 have hc:=B2 z (rs:=rs) fun r hr=>by have:=ro hr;lia
 have sc:((rs.map (yr z)).map aI).map aE=(C z rs).map dI:=by rw[mPq];exact mCq fun r _=>cH r
 have l1:rs.length<=dg:=dA (by lia)
 by_cases c:bare (C z rs)<=128
 .rw [if_pos c]at hs ⊢
  simp_arith [aY,fN,ht,d0,hc,sc,hs,l1]
 .rw [if_neg c]at hs ⊢
  simp_arith [aY,fN,ht,d0,hc,sc,hs,l1]
theorem yt(d:D):fo [cz z,d]=aY [d,.int z]:=by
 have h:=TJ z;cases e:aY [d,.int z] with
 |none=>simp_arith [fo,mD,h,e]
 |some r=>cases r <;> simp_arith [fo,mD,h,e]
theorem O9{c:Str}{fs:List (Str×Int)}{d:D}(h:aY [d,.int z]=some (.ex c fs)):dQ [cz z,d]=some (.ex c fs):=by
 have h1:=yt (z:=z) d;rw[h]at h1;have h2:=in1 z
 simp_arith [dQ,jS,pA,h1,h2]
theorem back_ex{c:Str}{fs:List (Str×Int)}{d:D}(h:aY [d,.int z]=some (.ex c fs)):jC [cz z,d]=some (.ex c fs):=by
 have h1:=O9 h
 simp_arith [jC,sm,h1]
end
end K23
namespace K16
open PySem L2 Mr Z
end K16
--ZQ3 --ZQ4 --ZQ5 --ZQ6 --ZQ8 --ZQ9
namespace K51
open PySem L2 Mr Z Xe Zl
def rot(r:List Int):List Int:=r.drop 1++r.take 1
def dE(r:List Int):List (bI×Int):=(r.zip (rot r)).map fun p=>(.inl p.1,p.2)
def dP(rs:List (List Int)):List (bI×Int):=(rs.map dE).flatten
noncomputable def vk(ps:List (bI×Int)):List (bI×D):=ps.map fun p=>(p.1,D.int p.2)
theorem pO(r:List Int):(rot r).length=r.length:=by
 unfold rot;rw[lAq,VI,lTq];lia
theorem rot_perm(r:List Int):(rot r).Perm r:=by
 unfold rot;refine Wg.trans ?_;rw[V4]
theorem sC(r:List Int):(dE r).length=r.length:=by
 unfold dE;rw[lMq,List.length_zip,pO,Nat.min_self]
theorem qA(r:List Int):(dE r).map (·.1)=r.map Wk:=by
 unfold dE;rw[mPq];have:r.map Wk=((r.zip (rot r)).map Prod.fst).map (Wk:Int->bI):=by rw[Yz (by rw[pO];exact Vu _)]
 rw[this,mPq];rfl
theorem xA(r:List Int):(dE r).map (·.2)=rot r:=by
 unfold dE;rw[mPq];have:rot r=(r.zip (rot r)).map Prod.snd:=by rw[List.map_snd_zip (by rw[pO];exact Vu _)]
 exact this.symm
theorem gT:∀(rs:List (List Int)),(dP rs).map (·.1)=rs.flatten.map Wk
 | []=>rfl
 |r::rs=>by
  show (dE r++dP rs).map (·.1)=_;rw[mBq,qA,gT rs,fCq,mBq]
theorem oA:∀(rs:List (List Int)),((dP rs).map (·.2)).Perm rs.flatten
 | []=>.nil
 |r::rs=>by
  show ((dE r++dP rs).map (·.2)).Perm _;rw[mBq,xA,fCq];exact(rot_perm r).append (oA rs)
theorem E8(rs:List (List Int)):(dP rs).length=rs.flatten.length:=by
 have:=congrArg WR (gT rs)
 rwa [lMq,lMq]at this
theorem Cd(rs:List (List Int)) (r:List Int):dP (rs++[r])=dP rs++dE r:=by
 unfold dP;rw[mBq,fAq];simp
theorem Le(ps:List (bI×Int)):(vk ps).length=ps.length:=lMq _
theorem LK(a b:List (bI×Int)):vk (a++b)=vk a++vk b:=mBq
theorem GC(ps:List (bI×Int)):(vk ps).map (·.1)=ps.map (·.1):=by
 unfold vk;rw[mPq];rfl
theorem tX{r:List Int}{j:Nat}{z y:Int}(h:r[j]?=some z) (h2:(rot r)[j]?=some y):(dE r)[j]?=some (.inl z,y):=by
 unfold dE;rw[gMq,W9 (z:=(z,y)).mpr ⟨h,h2⟩];rfl
theorem IS{rs:List (List Int)}{i j:Nat}{r:List Int}{z y:Int}(hn:rs.flatten.Nodup) (hr:rs[i]?=some r) (hz:r[j]?=some z) (hy:(rot r)[j]?=some y) :
  ue (vk (dP (rs.take i)++(dE r).take j)) (.inl z) (.int y)=vk (dP (rs.take i)++(dE r).take (j+1)):=by
 have hfl:=eS hr;have hnd:((rs.take i).flatten++r).Nodup:=by
  rw[←hfl];have e0:rs.flatten=(rs.take (i+1)).flatten++(rs.drop (i+1)).flatten:=by rw[←fAq,V4]
  rw[e0]at hn;exact(nAq.mp hn).1
 rw[zE]
 .rw [gk (tX hz hy),←VP,LK (_++_) [_]];rfl
 .rw [GC,mBq,gT,Y9,qA,←Y9];intro m;rcases mAq.mp m with m|m
  .obtain ⟨x,hx,e2⟩:=mMq.mp m;cases e2;exact(nAq.mp hnd).2.2 _ hx _ (mGq hz) rfl
  .obtain ⟨x,hx,e2⟩:=mMq.mp m;cases e2;have:=V1.sublist (Wc (j+1) r) (nAq.mp hnd).2.1;rw[gk hz]at this;exact(nAq.mp this).2.2 _ hx _ (by simp) rfl
theorem EE{rs:List (List Int)}{i j:Nat}{r:List Int}(hl:rs.flatten.length<=1000) (hr:rs[i]?=some r):(vk (dP (rs.take i)++(dE r).take j)).length<dg:=by
 refine GA ?_;have h1:=iH rs (i+1);rw[eS hr,lAq]at h1;rw[Le,lAq,E8,lTq,sC];lia
theorem To(r:List Int):iU (r.map D.int) (some 1) none=(r.drop 1).map D.int:=by
 rw[gq];cases r with
 |nil=>rfl
 |cons x r=>rw[show (some 1:Option Int)=some ((1:Nat):Int) from rfl,rz _ _ (by simp)]
theorem SE(r:List Int):iU (r.map D.int) none (some 1)=(r.take 1).map D.int:=by
 rw[gq];cases r with
 |nil=>rfl
 |cons x r=>rw[show (some 1:Option Int)=some ((1:Nat):Int) from rfl,sX _ _ (by simp)]
theorem HF{rs:List (List Int)}(hn:rs.flatten.Nodup) (hl:rs.flatten.length<=1000):qv [dM rs]=some (.owd (vk (dP rs))):=by
 have key:=rS (x:=2) (body:=oz) (fun i S=>∃v2 v3 v4,S=[some (.sh (dM rs)),some (.owd (vk (dP (rs.take i)))),v2,v3,v4]) (ds:=rs.map dI) (S:=[some (.sh (dM rs)),some (.owd []),none,none,none]) ⟨none,none,none,rfl⟩ (by
  rintro i d S hd ⟨v2,v3,v4,rfl⟩;obtain⟨r,hr,rfl⟩:=Dg hd;have hrl:r.length<=1000:=by
   have h1:=iH rs (i+1);rw[eS hr,lAq]at h1;lia
  have hlen:(r.map D.int).length=((rot r).map D.int).length:=by rw[lMq,lMq,pO]
  have k2:=M3 (x:=3) (y:=4) (k:=0) (body:=oE) (fun j S=>∃v3 v4,S=[some (.sh (dM rs)),some (.owd (vk (dP (rs.take i)++(dE r).take j))),some (.sh (dI r)),v3,v4]) (ds:=r.map D.int) (es:=(rot r).map D.int) (S:=[some (.sh (dM rs)),some (.owd (vk (dP (rs.take i)))),some (.sh (dI r)),v3,v4]) hlen ⟨v3,v4,by simp⟩ (by
   rintro j d e S hd he ⟨v3,v4,rfl⟩;obtain⟨z,hz,rfl⟩:=C6 hd;obtain⟨y,hy,rfl⟩:=C6 he;rw[WT]at *;have h3:=EE (j:=j) hl hr;have hput:=IS hn hr hz hy;refine⟨_,?_,some (.sh (.int z)),some (.sh (.int y)),rfl⟩
   simp_arith [oE,h3,hput])
  obtain⟨S2,e2,w3,w4,rfl⟩:=k2;rw[WT,lMq,←sC,Wy]at e2;refine⟨_,?_,some (.sh (dI r)),w3,w4,rfl⟩;rw[gk hr,Cd];have hll:(r.drop 1).length+(r.take 1).length<=dg:=dA (by rw[VI,lTq];lia)
  have hrot:(r.drop 1).map D.int++(r.take 1).map D.int=(rot r).map D.int:=by unfold rot;rw[mBq]
  have hlen2:r.length=(rot r).length:=(pO r).symm
  simp_arith [oz,To,SE,hll,hrot,hlen2,e2])
 obtain⟨S',e,v2,v3,v4,rfl⟩:=key;rw[lMq,Wy]at e
 simp_arith [qv,zj,e]
end K51
--ZQ3 --ZQ4 --ZQ5 --ZQ6 --ZQ8 --ZQ9 --ZQB --ZQC --ZQD --ZQE --ZQF
namespace K15
open PySem L2 Mr Z Xe Zl
theorem qu{ps:List (bI×Int)}{k:bI}{n:Int}(hn:(ps.map (·.1)).Nodup) (h:(k,n)∈ps):Z.getD (K51.vk ps) k=some (.int n):=by
 induction ps with
 |nil=>cases h
 |cons p ps ih =>
  rw[VG,Vx]at hn;unfold Z.getD;show (((p.1,D.int p.2)::K51.vk ps).find? _).map _=_;rcases VB.mp h with e|e
  .rw [←e,Xq (by simp)]
   rfl
  .rw [W2 (by
    intro z;have z':p.1=k:=by simpa using z
    exact hn.1 (by rw[z'];exact mMq.mpr ⟨_,e,rfl⟩))]
   exact ih hn.2 e
theorem IG{ps:List (bI×Int)}{k k':bI}{n:Int}(hn:(ps.map (·.2)).Nodup) (h:(k,n)∈ps) (h':(k',n)∈ps):k=k':=by
 induction ps with
 |nil=>cases h
 |cons p ps ih =>
  rw[VG,Vx]at hn;rcases VB.mp h with e|e
  .rcases VB.mp h' with e'|e'
   .rw [←e]at e';exact(congrArg Prod.fst e').symm
   .exact absurd (mMq.mpr ⟨_,e',by rw[←e]⟩) hn.1
  .rcases VB.mp h' with e'|e'
   .exact absurd (mMq.mpr ⟨_,e,by rw[←e']⟩) hn.1
   .exact ih hn.2 e e'
def nx(rs:List (List Int)) (e:Int):Int:=match Z.getD (K51.vk (K51.dP rs)) (.inl e) with
 |some (.int n)=>n
 |_=>0
def fw(rs:List (List Int)) (e:Int):Int:=nx rs (-e)
section
variable {rs:List (List Int)}
theorem xP(hn:rs.flatten.Nodup):((K51.dP rs).map (·.1)).Nodup:=by
 rw[K51.gT,V7,Wt];exact V1.imp (fun h e=>h (Wk.inj e)) (V7.mp hn)
theorem sY(hn:rs.flatten.Nodup) {e:Int}(he:e∈rs.flatten):(Wk e,nx rs e)∈K51.dP rs:=by
 have hk:(Wk e:bI)∈(K51.dP rs).map (·.1):=by rw[K51.gT];exact mMq.mpr ⟨e,he,rfl⟩
 obtain⟨⟨k,n⟩,hp,rfl⟩:=mMq.mp hk;have:=qu (xP hn) hp;unfold nx;rw[this];exact hp
theorem Ox(hn:rs.flatten.Nodup) {e:Int}(he:e∈rs.flatten):Z.getD (K51.vk (K51.dP rs)) (.inl e)=some (.int (nx rs e)):=qu (xP hn) (sY hn he)
theorem yC(hn:rs.flatten.Nodup) {e:Int}(he:e∈rs.flatten):nx rs e∈rs.flatten:=(K51.oA rs).mem_iff.mp (mMq.mpr ⟨_,sY hn he,rfl⟩)
theorem HQ(hn:rs.flatten.Nodup) {a b:Int}(ha:a∈rs.flatten) (hb:b∈rs.flatten) (h:nx rs a=nx rs b):a=b:=by
 have h1:=sY hn ha;have h2:=sY hn hb;rw[h]at h1;exact Wk.inj (IG ((K51.oA rs).symm.nodup hn) h1 h2)
theorem Bj(hm:Mp rs):AZ (fw rs) rs.flatten:=⟨hm.hn,fun e he=>yC hm.hn (hm.hneg e he),fun a ha b hb h=>by
 have:=HQ hm.hn (hm.hneg a ha) (hm.hneg b hb) h;lia⟩
def stp(rs:List (List Int)) (E:List Int):List (bI×D):=E.map fun e=>(Wk e,.int (fw rs e))
theorem Kt(hn:rs.flatten.Nodup) {e:Int}(he:e∈rs.flatten):Z.getD (stp rs rs.flatten) (.inl e)=some (.int (fw rs e)):=by
 have h:=qu (ps:=rs.flatten.map fun e=>(Wk e,fw rs e)) (k:=.inl e) (n:=fw rs e) (by
  rw[mPq,V7,Wt];exact V1.imp (fun h e=>h (Wk.inj e)) (V7.mp hn)) (mMq.mpr ⟨e,he,rfl⟩)
 unfold K51.vk at h;rw[mPq]at h;exact h
theorem QK(rs:List (List Int)):(K51.vk (K51.dP rs)).map (fun p=>kD p.1)=rs.flatten.map D.int:=by
 have:(K51.vk (K51.dP rs)).map (fun p=>kD p.1)=((K51.dP rs).map (·.1)).map kD:=by
  unfold K51.vk;rw[mPq,mPq];rfl
 rw[this,K51.gT,mPq];rfl
theorem A2(hm:Mp rs):kx [dM rs]=some (.owd (stp rs rs.flatten)):=by
 have nk:=K51.HF hm.hn hm.hl;have hl:=hm.hl;have key:=rS (x:=3) (body:=lE) (fun i S=>∃v3,S=[some (.sh (dM rs)),some (.sh (.fd (K51.vk (K51.dP rs)))),some (.owd (stp rs (rs.flatten.take i))),v3]) (ds:=rs.flatten.map D.int) (S:=[some (.sh (dM rs)),some (.sh (.fd (K51.vk (K51.dP rs)))),some (.owd []),none]) ⟨none,rfl⟩ (by
  rintro i d S hd ⟨v3,rfl⟩;rw[gMq]at hd;obtain⟨e,he,rfl⟩:=oMq.mp hd;have hi:=(gSq.mp he).1;have hme:=mGq he;have hg:=Ox hm.hn (hm.hneg e hme);have l1:(stp rs (rs.flatten.take i)).length<dg:=by unfold stp;rw[lMq,lTq];show _<16777216;lia
  have hp:ue (stp rs (rs.flatten.take i)) (.inl e) (.int (nx rs (-e)))=stp rs (rs.flatten.take (i+1)):=by
   rw[zE]
   .unfold stp;rw[gk he,mBq];rfl
   .intro m;obtain⟨p,hp,e1⟩:=mMq.mp m;obtain⟨x,hx,rfl⟩:=mMq.mp hp;have e2:x=e:=Wk.inj e1;subst e2;have:=V1.sublist (Wc (i+1) rs.flatten) hm.hn;rw[gk he]at this;exact(nAq.mp this).2.2 x hx x (by simp) rfl
  refine⟨_,?_,some (.sh (.int e)),rfl⟩
  simp_arith [lE,hg,l1,hp])
 obtain⟨S',e,v3,rfl⟩:=key;rw[lMq,Wy]at e;have kk:=QK rs;have q31:((3:Nat)≠1)=True:=by simp
 simp_arith [kx,vC,nk,q31,kk,e]
noncomputable def mu(N:Nat):AS->Nat
 | [_,_,some (.ow l),_]=>N+1-l.length
 |_=>0
theorem L1(f:Int->Int) (e:Int) (n:Nat):((Wm n).map fun k=>itr f k e)++[itr f n e]=(Wm (n+1)).map fun k=>itr f k e:=by rw[List.range_succ,mBq];rfl
theorem K4(hm:Mp rs) {e:Int}(he:e∈rs.flatten):∃l,Cy (fw rs) e l/\l.length<=rs.flatten.length/\gN [.dict (stp rs rs.flatten),.int e]=some (aI l):=by
 have one:=Bj hm;obtain⟨l,cy,hle,hmin⟩:=one.cy he;have hl:=hm.hl;refine⟨l,cy,hle,?_⟩;have hst:∀n,Z.getD (stp rs rs.flatten) (.inl (itr (fw rs) n e))=some (.int (itr (fw rs) (n+1) e)):=fun n=>Kt hm.hn (one.itr_mem he n)
 have key:=zM (c:=dC (bV KB (aq 3) (aq 1))) (body:=iJ) (fun S=>∃n,1<=n/\n<=l.length/\S=[some (.sh (.dict (stp rs rs.flatten))),some (.sh (.int e)),some (aI ((Wm n).map fun k=>itr (fw rs) k e)),some (.sh (.int (itr (fw rs) n e)))]) (mu l.length) (fun S=>∃v3,S=[some (.sh (.dict (stp rs rs.flatten))),some (.sh (.int e)),some (aI l),v3]) (by
  rintro S ⟨n,h1,h2,rfl⟩
  by_cases hn:n<l.length
  .have hne:¬ itr (fw rs) n e=e:=hmin n (by lia) hn
   have hs:=hst n;have l1:n<dg:=by show _<16777216;lia
   have ap:((Wm n).map fun k=>itr (fw rs) k e).map (fun n=>AV.sh (.int n))++[.sh (.int (itr (fw rs) n e))]=((Wm (n+1)).map fun k=>itr (fw rs) k e).map fun n=>.sh (.int n):=by rw[←L1,mBq];rfl
   refine⟨true,[some (.sh (.dict (stp rs rs.flatten))),some (.sh (.int e)),some (aI ((Wm n).map fun k=>itr (fw rs) k e)),some (.sh (.int (itr (fw rs) n e)))],?_,fun _=>⟨[some (.sh (.dict (stp rs rs.flatten))),some (.sh (.int e)),some (aI ((Wm (n+1)).map fun k=>itr (fw rs) k e)),some (.sh (.int (itr (fw rs) (n+1) e)))],?_,⟨n+1,by lia,by lia,rfl⟩,?_⟩,fun q=>(nomatch q)⟩
   .simp_arith [hne]
   .simp_arith [iJ,V9,l1,ap,hs]
   .show l.length+1-_<l.length+1-_;simp only[lMq,V9];lia
  .have en:n=l.length:=by lia
   subst en;have hb:=cy.back;have hg:=cy.get;refine⟨false,[some (.sh (.dict (stp rs rs.flatten))),some (.sh (.int e)),some (aI ((Wm l.length).map fun k=>itr (fw rs) k e)),some (.sh (.int (itr (fw rs) l.length e)))],?_,fun q=>(nomatch q),fun _=>⟨some (.sh (.int (itr (fw rs) l.length e))),by rw[←hg]⟩⟩
   simp_arith [hb])
 have h0:=hst 0;have e0:[AV.sh (.int e)]=((Wm 1).map fun k=>itr (fw rs) k e).map fun n=>.sh (.int n):=rfl
 obtain⟨S',ew,v3,rfl⟩:=key 100000 [some (.sh (.dict (stp rs rs.flatten))),some (.sh (.int e)),some (.ow [.sh (.int e)]),some (.sh (.int (itr (fw rs) (0+1) e)))] ⟨1,Vu _,cy.len,rfl⟩ (by
  show l.length+1-1<100000;lia)
 have h0':Z.getD (stp rs rs.flatten) (.inl e)=some (.int (itr (fw rs) (0+1) e)):=h0
 simp_arith [gN,nZ,h0',ew]
end
end K15
--ZQ3 --ZQ4 --ZQ5 --ZQ6 --ZQ8 --ZQ9 --ZQB --ZQC --ZQD --ZQE --ZQF
namespace K15
open PySem L2 Mr Z Xe Zl
noncomputable def kI(ks:List Int):List (bI×D):=ks.map fun k=>((Wk k:bI),D.bl true)
theorem Jf(ks:List Int) (t:Int):(kI ks).any (fun kv=>decide (kv.1=(Wk t:bI)))=decide (t∈ks):=by
 induction ks with
 |nil=>simp[kI]
 |cons k ks ih =>
  unfold kI at ih ⊢;rw[VG,Xm,ih]
  by_cases h:t=k
  .subst h;simp
  .have h':¬ (Wk k:bI)=Wk t:=fun q=>h (Wk.inj q).symm
   simp[h',h]
theorem PV(ks:List Int) (t:Int):(Z.getD (kI ks) (Wk t)).isSome=decide (t∈ks):=by
 unfold Z.getD;rw[Yr,←Jf,Xl,List.find?_isSome,Zy]
theorem OQ{ks:List Int}{t:Int}(h:t∉ks):ue (kI ks) (Wk t) (.bl true)=kI (ks++[t]):=by
 unfold ue;rw[Jf,decide_eq_false h,if_neg (by simp)]
 simp[kI]
theorem Nn(ks:List Int):(kI ks).length=ks.length:=by unfold kI;rw[lMq]
section
variable {rs:List (List Int)}
structure Rd (f:Int->Int) (E:List Int) (kn:List Int) (L:List (List Int)):Prop where
 cy:∀l∈L,∃e,Cy f e l
 fl:L.flatten=kn
 nd:kn.Nodup
 sub:∀x∈kn,x∈E
 cl:∀x∈kn,f x∈kn
theorem Rd.itr{f:Int->Int}{E kn:List Int}{L:List (List Int)}(h:Rd f E kn L) {x:Int}(hx:x∈kn):∀n,itr f n x∈kn
 |0=>hx
 |n+1=>h.cl _ (h.itr hx n)
theorem Rd.out{f:Int->Int}{E kn:List Int}{L:List (List Int)}(h:Rd f E kn L) {e:Int}{l:List Int}(c:Cy f e l) (he:e∉kn):∀x∈l,x∉kn:=by
 intro x hx hk;obtain⟨j,hj⟩:=Wn.mp hx;have hlt:=(gSq.mp hj).1;rw[c.at hlt]at hj;have e1:=V2.inj hj;subst e1;have:=h.itr hk (l.length-j);rw[←lL,show l.length-j+j=l.length by lia,c.back]at this
 exact he this
theorem Rd.add{f:Int->Int}{E kn:List Int}{L:List (List Int)}(hf:AZ f E) (h:Rd f E kn L) {e:Int}{l:List Int}(c:Cy f e l) (heE:e∈E) (he:e∉kn):Rd f E (kn++l) (L++[l]):=by
 have ho:=h.out c he;refine⟨fun m hm=>?_,by rw[fAq,h.fl,VZ],?_,fun x hx=>?_,fun x hx=>?_⟩
 .rcases mAq.mp hm with q|q
  .exact h.cy m q
  .rw [mSq.mp q];exact⟨e,c⟩
 .rw [nAq];exact⟨h.nd,c.nd,fun a ha b hb q=>ho b hb (q ▸ ha)⟩
 .rcases mAq.mp hx with q|q
  .exact h.sub x q
  .rw [c.get]at q;obtain⟨n,_,rfl⟩:=mMq.mp q;exact hf.itr_mem heE n
 .rcases mAq.mp hx with q|q
  .exact mAq.mpr (.inl (h.cl x q))
  .refine mAq.mpr (.inr ?_);obtain⟨j,hj⟩:=Wn.mp q;have hlt:=(gSq.mp hj).1;rw[c.at hlt]at hj;rw[←V2.inj hj];show Zl.itr f (j+1) e∈l
   by_cases hj2:j+1<l.length
   .exact mGq (c.at hj2)
   .rw [show j+1=l.length by lia,c.back]
    exact c.self
theorem Rd.orb{f:Int->Int}{E kn:List Int}{L:List (List Int)}(h:Rd f E kn L) (hall:∀x∈E,x∈kn):Bk f E L:=⟨h.cy,by rw[h.fl];exact h.nd,fun x=>by rw[h.fl];exact⟨h.sub x,hall x⟩⟩
noncomputable def nV(rs:List (List Int)):List (List Int):=(rs.filter fun r=>decide (r=[])).map fun _=>[]
theorem G0(rs:List (List Int)):dh (dC (bV yV (kF iz (ai (aq 0) aG)) (rC (.int 0)))) (cW aK) [] (rs.map dI)=some ((nV rs).map aI):=by
 rw[Z.fe (fun d=>decide (jM d=[])) (fun _=>.ow [])]
 .unfold nV;rw[Xr,mPq,mPq];have:(fun d=>decide (jM d=[]))∘dI=fun r=>decide (r=[]):=by funext r;show decide (jM (dI r)=[])=_;rw[fq]
  rw[this];rfl
 .intro d hd;obtain⟨r,hr,rfl⟩:=lV hd;rw[fq];refine⟨[some (.sh (dI r))],?_,fun _=>⟨[some (.sh (dI r))],?_⟩⟩
  .by_cases h:r=[]
   .subst h;have z:((0:Nat):Int)=0:=rfl
    simp_arith [dI,z]
   .have h':¬ ((r.length:Nat):Int)=0:=fun q=>h (Wo.mp (by lia))
    simp_arith [dI,h',h]
  .simp_arith []
theorem Fc{kn l:List Int}{v0 v1 v3 v4 v5 v6:Option AV}(hn:(kn++l).Nodup) (hl:kn.length+l.length<500000):∃v6',fv 6 lg (l.map D.int) [v0,v1,some (.owd (kI kn)),v3,v4,v5,v6]=some (.nx [v0,v1,some (.owd (kI (kn++l))),v3,v4,v5,v6']):=by
 have key:=rS (x:=6) (body:=lg) (fun i S=>∃v6',S=[v0,v1,some (.owd (kI (kn++l.take i))),v3,v4,v5,v6']) (ds:=l.map D.int) (S:=[v0,v1,some (.owd (kI kn)),v3,v4,v5,v6]) ⟨v6,by simp⟩ (by
  rintro i d S hd ⟨v6',rfl⟩;rw[gMq]at hd;obtain⟨e,he,rfl⟩:=oMq.mp hd;have hi:=(gSq.mp he).1;have hnew:e∉kn++l.take i:=fun m=>by
   have h2:(kn++l.take (i+1)).Nodup:=V1.sublist (XB.append (XB.refl kn) (Wc (i+1) l)) hn;rw[gk he,←VP]at h2;exact(nAq.mp h2).2.2 e m e (by simp) rfl
  have hp:=OQ hnew;rw[VP,←gk he]at hp;have l1:(kI (kn++l.take i)).length<dg:=by rw[Nn,lAq,lTq];show _<16777216;lia
  refine⟨_,?_,some (.sh (.int e)),rfl⟩
  simp_arith [lg,l1,hp])
 obtain⟨S',e,v6',rfl⟩:=key;rw[lMq,Wy]at e;exact⟨v6',e⟩
def Fz(B L:List (List Int)):AV:=.ow (B.map aI++L.map fun l=>.sh (dI l))
theorem B9(hm:Mp rs):∃v1 v2 v4 v5 v6 L,fv 4 jv ((nQ rs.flatten).map D.int) [some (.sh (dM rs)),some (.owd (stp rs rs.flatten)),some (.owd []),some (Fz (nV rs) []),none,none,none]=some (.nx [some (.sh (dM rs)),v1,v2,some (Fz (nV rs) L),v4,v5,v6])/\Bk (fw rs) rs.flatten L:=by
 have one:=Bj hm;have hl:=hm.hl;have h1000:=hm.hr;have pS:=qV rs.flatten;have key:=rS (x:=4) (body:=jv) (fun i S=>∃kn L v1 v4 v5 v6,S=[some (.sh (dM rs)),some v1,some (.owd (kI kn)),some (Fz (nV rs) L),v4,v5,v6]/\aE v1 = .dict (stp rs rs.flatten)/\(∀x,v1=x->(x = .owd (stp rs rs.flatten)∨x = .sh (.dict (stp rs rs.flatten))))/\Rd (fw rs) rs.flatten kn L/\L.length<=i/\∀j x,j<i->(nQ rs.flatten)[j]?=some x->x∈kn) (ds:=(nQ rs.flatten).map D.int) (S:=[some (.sh (dM rs)),some (.owd (stp rs rs.flatten)),some (.owd []),some (Fz (nV rs) []),none,none,none]) ⟨[],[],.owd (stp rs rs.flatten),none,none,none,rfl,rfl,fun x h=>.inl h.symm,⟨by simp,rfl,V6,by simp,by simp⟩,Vu _,fun j x h=>absurd h (Xo _)⟩ (by
  rintro i d S hd ⟨kn,L,v1,v4,v5,v6,rfl,hv1,hv1',hr,hLl,hall⟩;rw[gMq]at hd;obtain⟨e,he,rfl⟩:=oMq.mp hd;have hiS:=(gSq.mp he).1;rw[pS.length_eq]at hiS;have heE:e∈rs.flatten:=pS.mem_iff.mp (mGq he);have hg:=PV kn e
  by_cases c:e∈kn
  .rw [decide_eq_true c]at hg;refine⟨[some (.sh (dM rs)),some v1,some (.owd (kI kn)),some (Fz (nV rs) L),some (.sh (.int e)),v5,v6],?_,kn,L,v1,_,_,_,rfl,hv1,hv1',hr,by lia,fun j x hj hx=>?_⟩
   .simp_arith [jv,hg]
   .rcases Yx.mp hj with q|rfl
    .exact hall j x q hx
    .rw [he]at hx;cases hx;exact c
  .rw [decide_eq_false c]at hg;obtain⟨l,cy,hle,eg⟩:=K4 hm heE;have hr2:=hr.add one cy heE c;have knl:=Ad _ _ hr.nd hr.sub;obtain⟨v6',em⟩:=Fc (kn:=kn) (l:=l) (v0:=some (.sh (dM rs))) (v1:=some (.sh (.dict (stp rs rs.flatten)))) (v3:=some (Fz (nV rs) L)) (v4:=some (.sh (.int e))) (v5:=some (.sh (dI l))) (v6:=v6) hr2.nd (by lia)
   have sl:=cH l;have lb:(nV rs).length<=rs.length:=by unfold nV;rw[lMq];exact WI _ _
   have l1:((nV rs).map aI++L.map fun l=>AV.sh (dI l)).length<dg:=by rw[lAq,lMq,lMq];show _<16777216;lia
   have ea:((nV rs).map aI++L.map fun l=>AV.sh (dI l))++[.sh (dI l)]=(nV rs).map aI++(L++[l]).map fun l=>.sh (dI l):=by rw[VP,mBq];rfl
   refine⟨[some (.sh (dM rs)),some (.sh (.dict (stp rs rs.flatten))),some (.owd (kI (kn++l))),some (Fz (nV rs) (L++[l])),some (.sh (.int e)),some (.sh (dI l)),v6'],?_,kn++l,L++[l],.sh (.dict (stp rs rs.flatten)),_,_,_,rfl,rfl,fun x h=>.inr h.symm,hr2,by rw[lAq,lSq];lia,fun j x hj hx=>?_⟩
   .unfold Fz at em ⊢
    simp_arith [jv,hg,hv1,eg,sl,em,l1,ea]
   .rcases Yx.mp hj with q|rfl
    .exact mAq.mpr (.inl (hall j x q hx))
    .rw [he]at hx;cases hx;exact mAq.mpr (.inr cy.self))
 obtain⟨S',e,kn,L,v1,v4,v5,v6,rfl,_,_,hr,_,hall⟩:=key;refine⟨_,_,_,_,_,L,e,hr.orb fun x hx=>?_⟩
 obtain⟨j,hj⟩:=Wn.mp (pS.mem_iff.mpr hx);exact hall j x (by rw[lMq];exact(gSq.mp hj).1) hj
theorem FH(rs:List (List Int)):(nV rs).length<=rs.length:=by unfold nV;rw[lMq];exact WI _ _
theorem ET(B L:List (List Int)):aE (Fz B L)=dM (B++L):=by
 unfold Fz;rw[hZ,mBq,mPq,mPq];show D.list _=D.list ((B++L).map dI);rw[mBq];congr 2
 .exact mCq fun r _=>cH r
theorem LM(hm:Mp rs) {L:List (List Int)}(h:Bk (fw rs) rs.flatten L):(∀l∈L,l.length<=1000)/\L.length<=1000:=by
 have p:L.flatten.Perm rs.flatten:=(XI h.dj hm.hn).mpr h.all;have hl:=hm.hl;refine⟨fun l hl'=>?_,?_⟩
 .have:=XB.length_le (VX hl');rw[p.length_eq]at this;lia
 .have:∀{L:List (List Int)},(∀l∈L,1<=l.length)->L.length<=L.flatten.length:=fun {L} h=>by
   induction L with
   |nil=>exact Vu _
   |cons a L ih =>
    have h1:=h a (V0 ..);have h2:=ih fun l hl=>h l (mCo _ hl)
    rw[lCq,fCq,lAq];lia
  have:=this (L:=L) fun l hl=>by obtain⟨e,c⟩:=h.cy l hl;exact c.len
  rw[p.length_eq]at this;lia
theorem AN(hm:Mp rs):∃L,Bk (fw rs) rs.flatten L/\dN [dM rs]=some (.ow ((mw ((nV rs++L).map good)).map aI)):=by
 obtain⟨v1,v2,v4,v5,v6,L,e,ho⟩:=B9 hm;have hl:=hm.hl;have h1000:=hm.hr;have ow:=A2 hm;have bc:=G0 rs;have en:=L8 (rs:=rs) (by lia)
 have lr:rs.length<=dg:=by show _<=16777216;lia
 have e0:AV.ow ((nV rs).map aI)=Fz (nV rs) []:=by unfold Fz;rw[YA,aNq]
 have st:=ET (nV rs) L;obtain⟨o1,o2⟩:=LM hm ho;have bl:=FH rs;have ig:=ky (rs:=nV rs++L) (fun r hr=>by
  rcases mAq.mp hr with q|q
  .unfold nV at q;obtain⟨x,_,rfl⟩:=mMq.mp q;exact Wf _
  .have:=o1 r q;lia) (by rw[lAq];show _<=16777216;lia)
 refine⟨L,ho,?_⟩;have sE:=cH (nQ rs.flatten)
 simp_arith [dN,AE,ow,dM,bc,lr,e0,en,sE,dI,e,st,ig]
end
end K15
--ZQ3 --ZQ4 --ZQ5 --ZQ6 --ZQ8 --ZQ9 --ZQB --ZQC --ZQD --ZQE --ZQF
namespace K15
open PySem L2 Mr Z Xe Zl
section
variable {rs:List (List Int)}
theorem Pq{r:List Int}{j:Nat}(hj:j<r.length):(K51.rot r)[j]?=r[(j+1) % r.length]?:=by
 unfold K51.rot
 by_cases h:j+1<r.length
 .rw [Ya h,gZq (by rw[VI];lia),Xj,YF]
 .have e:j+1=r.length:=by lia
  rw[e,YG,gYq (by rw[VI];lia),VI,Ww (by lia)]
  congr 1;lia
end
end K15
--ZQ3 --ZQ4 --ZQ5 --ZQ6 --ZQ8 --ZQ9 --ZQB --ZQC --ZQD --ZQE --ZQF
namespace K16
open PySem L2 Mr Z Xe Zl
def pm(l:List Int):List Int:=l.flatMap fun x=>[x, -x]
end K16
--ZQ3 --ZQ4 --ZQ5 --ZQ6 --ZQ8 --ZQ9 --ZQB --ZQC --ZQD --ZQE --ZQF
namespace K16
open PySem L2 Mr Z Xe Zl
noncomputable def above(kn:List Int) (n:Int):Nat:=kn.countP fun k=>decide (n<=k)
end K16
namespace K16
open PySem L2 Mr Z Xe Zl K15
section
variable {rs:List (List Int)}
theorem Jo(hn:rs.flatten.Nodup) {r:List Int}(hr:r∈rs) {j:Nat}{z y:Int}(hz:r[j]?=some z) (hy:r[(j+1) % r.length]?=some y):nx rs z=y:=by
 have hj:=(gSq.mp hz).1;have h1:=K51.tX hz ((Pq hj).trans hy);have h2:(Wk z,y)∈K51.dP rs:=by
  unfold K51.dP;exact mFq.mpr ⟨_,mMq.mpr ⟨r,hr,rfl⟩,mGq h1⟩
 have h3:=qu (xP hn) h2;unfold nx;rw[h3]
theorem Dw(hn:rs.flatten.Nodup) {r:List Int}(hr:r∈rs) {e:Int}(h0:r[0]?=some e):∀n,r[n % r.length]?=some (itr (nx rs) n e)
 |0=>by rw[Nat.zero_mod];exact h0
 |n+1=>by
  have hp:0<r.length:=(gSq.mp h0).1;have ih:=Dw hn hr h0 n;have hm:(n+1) % r.length<r.length:=Nat.mod_lt _ hp;have hm2:(n % r.length+1) % r.length=(n+1) % r.length:=by rw[Nat.mod_add_mod]
  obtain⟨y,hg⟩:∃y,r[(n+1) % r.length]?=some y:=⟨_,gEg hm⟩;have:=Jo hn hr ih (hm2 ▸ hg);rw[hg,←this];rfl
theorem IF(hn:rs.flatten.Nodup) {r:List Int}(hr:r∈rs) {e:Int}(h0:r[0]?=some e):Cy (nx rs) e r:=by
 have hp:0<r.length:=(gSq.mp h0).1;have it:=Dw hn hr h0;refine⟨hp,?_,?_,V1.sublist (VX hr) hn⟩
 .refine Yt fun i=>?_
  rw[gMq]
  by_cases hi:i<r.length
  .rw [XO hi,W6,←it i,Ya hi]
  .rw [Wv (by lia),Wv (by rw[V9];lia)]
   rfl
 .have:=it r.length;rw[YG,h0]at this;exact(V2.inj this).symm
noncomputable def ne(rs:List (List Int)):List (List Int):=rs.filter fun r=>!decide (r=[])
theorem tj:∀rs:List (List Int),(ne rs).flatten=rs.flatten
 | []=>rfl
 | []::rs=>tj rs
 | (x::r)::rs=>by
  show ((x::r)::ne rs).flatten=_;rw[fCq,fCq,tj rs]
theorem xJ:∀rs:List (List Int),(nV rs++ne rs).Perm rs
 | []=>.nil
 | []::rs=>(xJ rs).cons []
 | (x::r)::rs=>List.perm_middle.trans ((xJ rs).cons (x::r))
theorem Nz{r:List Int}:r∈ne rs↔r∈rs/\r≠[]:=by
 unfold ne;rw[WD];simp
theorem Hb(hn:rs.flatten.Nodup):Bk (nx rs) rs.flatten (ne rs):=by
 refine⟨fun l hl=>?_,by rw[tj];exact hn,fun x=>by rw[tj]⟩
 obtain⟨h1,h2⟩:=Nz.mp hl;cases l with
 |nil=>exact absurd rfl h2
 |cons x l=>exact⟨x,IF hn h1 rfl⟩
theorem NW(hn:rs.flatten.Nodup):AZ (nx rs) rs.flatten:=⟨hn,fun e he=>yC hn he,fun a ha b hb h=>HQ hn ha hb h⟩
theorem Mz{f:Int->Int}(hn:rs.flatten.Nodup) (h:∀l∈rs,l=[]∨∃e,Cy f e l) {x:Int}(hx:x∈rs.flatten):nx rs x=f x:=by
 obtain⟨l,hl,hxl⟩:=mFq.mp hx;rcases h l hl with rfl|⟨e,c⟩
 .cases hxl
 .obtain ⟨j,hj⟩:=Wn.mp hxl;have hlt:=(gSq.mp hj).1;have e1:=c.at hlt;rw[hj]at e1;have e2:=V2.inj e1;refine Jo hn hl hj ?_;rw[e2];show _=some (itr f (j+1) e)
  by_cases q:j+1<l.length
  .rw [Ya q];exact c.at q
  .have e3:j+1=l.length:=by lia
   rw[e3,YG,c.back];exact c.at (i:=0) (by lia)
theorem wN{f g:Int->Int}{E:List Int}(hf:AZ f E) (h:∀x∈E,f x=g x) {e:Int}(he:e∈E):∀n,itr f n e=itr g n e
 |0=>rfl
 |n+1=>by
  show f (itr f n e)=g (itr g n e);rw[h _ (hf.itr_mem he n),wN hf h he n]
theorem Ik{f g:Int->Int}{E:List Int}(hf:AZ f E) (h:∀x∈E,f x=g x) {e:Int}(he:e∈E) {l:List Int}(c:Cy f e l):Cy g e l:=by
 have ic:=wN hf h he;refine⟨c.len,?_,by rw[←ic];exact c.back,c.nd⟩
 rw[←mCq (f:=fun n=>itr f n e) fun n _=>ic n]
 exact c.get
theorem Eh{f g:Int->Int}{E E':List Int}{L:List (List Int)}(hf:AZ f E) (h:∀x∈E,f x=g x) (hE:∀x,x∈E↔x∈E') (o:Bk f E L):Bk g E' L:=by
 refine⟨fun l hl=>?_,o.dj,fun x=>(o.all x).trans (hE x)⟩
 obtain⟨e,c⟩:=o.cy l hl;exact⟨e,Ik hf h ((o.all e).mp (mFq.mpr ⟨l,hl,c.self⟩)) c⟩
theorem Dy{f:Int->Int}{e:Int}{l:List Int}(c:Cy f e l):∃e',Cy f e' (good l):=by
 unfold good
 by_cases h:bJ l l.length<l.length
 .exact ⟨_,c.rot h⟩
 .refine ⟨e,?_⟩;unfold Mr.rot;rw[WE (by lia),Wh (by lia),WQ]
  exact c
theorem pe:∀rs:List (List Int),nV rs=VM (rs.count []) []
 | []=>rfl
 | []::rs=>by
  rw[List.count_cons_self,Y8,←pe rs];rfl
 | (x::r)::rs=>by
  rw[YT (by simp),←pe rs]
  rfl
theorem zo:∀{L:List (List Int)},(∀l∈L,1<=l.length)->L.length<=L.flatten.length
 | [],_=>Vu _
 |a::L,h=>by
  have h1:=h a (V0 ..);have h2:=zo (L:=L) fun l hl=>h l (mCo _ hl)
  rw[lCq,fCq,lAq];lia
theorem zi:∀{L:List (List Int)},(∀l∈L,1<=l.length)->(L.map good).count []=0
 | [],_=>rfl
 |a::L,h=>by
  have h1:=h a (V0 ..);have hg:good a≠[]:=fun q=>by
   have:=congrArg WR q;rw[sj,XQ]at this;lia
  rw[VG,YT hg];exact zi fun l hl=>h l (mCo _ hl)
end
end K16
namespace K25
open PySem L2 Mr Z Xe Zl K15 K16
section
variable {rs:List (List Int)}
def Rt(rs:List (List Int)) (x:Int) (w:List Int):Prop:=∃u v,u++x::v∈rs/\w=v++u
theorem Rt.of{x:Int}(h:x∈rs.flatten):∃w,Rt rs x w:=by
 obtain⟨r,hr,hx⟩:=mFq.mp h;obtain⟨u,v,rfl⟩:=WJ hx;exact⟨v++u,u,v,hr,rfl⟩
theorem Rt.row{x:Int}{w:List Int}(h:Rt rs x w):∃r∈rs,∀y,y∈r↔y∈x::w:=by
 obtain⟨u,v,hr,rfl⟩:=h;exact⟨_,hr,fun y=>(Wg (l₁:=x::v) (l₂:=u)).symm.mem_iff⟩
theorem Rt.nd(hn:rs.flatten.Nodup) {x:Int}{w:List Int}(h:Rt rs x w):(x::w).Nodup:=by
 obtain⟨u,v,hr,rfl⟩:=h;have:=V1.sublist (VX hr) hn;exact(Wg (l₁:=x::v) (l₂:=u)).nodup_iff.mpr this
theorem Rt.sub{x y:Int}{w:List Int}(h:Rt rs x w) (hy:y∈w):y∈rs.flatten:=by
 obtain⟨r,hr,e⟩:=h.row;exact mFq.mpr ⟨r,hr,(e y).mpr (mCo _ hy)⟩
theorem Rt.to(hn:rs.flatten.Nodup) {x:Int}{w:List Int}(h:Rt rs x w):nx rs x=w.headD x:=by
 obtain⟨u,v,hr,rfl⟩:=h;refine Jo hn hr (j:=u.length) (by simp) ?_
 cases v with
 |nil =>
  rw[show (u++[x]).length=u.length+1 by simp,YG]
  cases u <;> rfl
 |cons y v =>
  rw[Ya (by simp)]
  simp
theorem Rt.step{x a:Int}{w:List Int}(h:Rt rs x (a::w)):Rt rs a (w++[x]):=by
 obtain⟨u,v,hr,e⟩:=h;cases v with
 |nil =>
  rw[WQ]at e;subst e;exact⟨[],w++[x],hr,by simp⟩
 |cons y v =>
  obtain⟨rfl,rfl⟩:=Zm.inj e;exact⟨u++[x],v,by simpa using hr,by simp⟩
theorem Rt.go{x:Int}:∀{z:Int}{a b:List Int},Rt rs z (a++x::b)->Rt rs x (b++z::a)
 |z,[],b,h=>h.step
 |z,y::a,b,h=>by
  have:=Rt.go (z:=y) (a:=a) (b:=b++[z]) (by simpa using h.step)
  simpa using this
theorem Rt.filt{x:Int}{w:List Int}(p:Int->Bool) (hx:p x=true) (h:Rt rs x w):Rt (rs.map fun r=>r.filter p) x (w.filter p):=by
 obtain⟨u,v,hr,rfl⟩:=h;refine⟨u.filter p,v.filter p,mMq.mpr ⟨_,hr,?_⟩,by rw[Zf]⟩
 rw[Zf,Wj hx]
noncomputable def pz(z e:Int):Bool:=!decide (e∈[z, -z])
theorem cM{z e:Int}:pz z e=true↔e≠z/\e ≠ -z:=by unfold pz;simp
theorem rX{z e:Int}(h:¬ pz z e=true):e=z∨e = -z:=by
 rw[cM]at h;lia
theorem yI(z:Int):pz (-z)=pz z:=by
 funext e;rw[Xl,cM,cM];lia
def Ta(z:Int) (f:Int->Int) (x:Int):Int:=if pz z (f x)=true then f x else if pz z (f (f x))=true then f (f x) else f (f (f x))
theorem PY{x z:Int}(hn:rs.flatten.Nodup) (hn':(rs.map fun r=>r.filter (pz z)).flatten.Nodup) (hx:x∈rs.flatten) (hp:pz z x=true):nx (rs.map fun r=>r.filter (pz z)) x=Ta z (nx rs) x:=by
 obtain⟨w,h⟩:=Rt.of hx;have h':=h.filt (pz z) hp;rw[h'.to hn'];have h0:=h.to hn;have nd:=h.nd hn;unfold Ta;cases w with
 |nil =>
  have h0:nx rs x=x:=h0;rw[h0,if_pos hp];rfl
 |cons y w =>
  have h0:nx rs x=y:=h0;rw[h0]
  by_cases py:pz z y=true
  .rw [Wj py,if_pos py];rfl
  .rw [Wp py,if_neg py];have h1:=h.step;have e1:=h1.to hn;cases w with
   |nil =>
    have e1:nx rs y=x:=e1;rw[e1,if_pos hp];rfl
   |cons y2 w =>
    have e1:nx rs y=y2:=e1;rw[e1]
    by_cases py2:pz z y2=true
    .rw [Wj py2,if_pos py2];rfl
    .rw [Wp py2,if_neg py2];have h2:=h1.step;have e2:=h2.to hn;have hw:w.filter (pz z)=w:=List.filter_eq_self.mpr fun e he=>by
      rw[Vx,Vx,Vx]at nd;have a1:=rX py;have a2:=rX py2;have b1:y≠y2:=fun q=>nd.2.1 (q ▸ V0 ..)
      have b2:e≠y:=fun q=>nd.2.1 (q ▸ mCo _ he)
      have b3:e≠y2:=fun q=>nd.2.2.1 (q ▸ he)
      rw[cM];lia
     rw[hw,e2];cases w <;> rfl
def IM(z:Int) (f:Int->Int) (x:Int):Int:=if pz z (f x)=true then f x else if pz z (f (-f x))=true then f (-f x) else f (-f (-f x))
theorem Dm(z:Int):IM (-z)=IM z:=by
 funext f x;unfold IM;rw[yI]
theorem Ct(z:Int):¬ pz z z=true:=by rw[cM];lia
theorem vA(z:Int):¬ pz z (-z)=true:=by rw[cM];lia
theorem RW{D:List (List Int)}(hn:rs.flatten.Nodup) (hD:D.flatten.Nodup) {t x:Int}{a b u v:List Int}(ha:Rt rs t a) (hb:Rt rs (-t) b) (pa:∀e∈a,pz t e=true) (pb:∀e∈b,pz t e=true) (e:a=u++x::v) (h:Rt D x (v++b++u)):nx D x=IM t (nx rs) x:=by
 subst e;have h1:=ha.go;have e1:=h1.to hn;rw[h.to hD];unfold IM;cases v with
 |cons y v =>
  have e1:nx rs x=y:=e1;rw[e1,if_pos (pa y (by simp))]
  rfl
 |nil =>
  have e1:nx rs x=t:=e1;have e2:=hb.to hn;rw[e1,if_neg (Ct t),e2];cases b with
  |cons y b=>exact(if_pos (pb y (V0 ..))).symm
  |nil =>
   have e3:=ha.to hn;show _=if pz t (-t)=true then _ else nx rs (- -t)
   rw[if_neg (vA t),Xx,e3];cases u <;> rfl
theorem Qy{D:List (List Int)}(hn:rs.flatten.Nodup) (hD:D.flatten.Nodup) {t x:Int}{a b u v:List Int}(ha:Rt rs t (a ++ -t::b)) (pa:∀e∈a,pz t e=true) (e:a=u++x::v) (h:Rt D x (v++u)):nx D x=IM t (nx rs) x:=by
 subst e;have h1:Rt rs x ((v ++ -t::b)++t::u):=Rt.go (by simpa using ha)
 have e1:=h1.to hn;rw[h.to hD];unfold IM;cases v with
 |cons y v =>
  have e1:nx rs x=y:=e1;rw[e1,if_pos (pa y (by simp))]
  rfl
 |nil =>
  have e1:nx rs x = -t:=e1;have e2:=ha.to hn;rw[e1,if_neg (vA t),Xx,e2];have:((u++[x] ++ -t::b).headD t)=u.headD x:=by cases u <;> rfl
  rw[this];refine(if_pos (pa _ ?_)).symm;cases u <;> simp
theorem HB{r:List Int}{a:Int}(ha:a∈r):∀rs:List (List Int),rs.count r<=rs.flatten.count a
 | []=>Vu _
 |s::rs=>by
  have ih:=HB ha rs;rw[W7,fCq,cAq]
  by_cases h:s=r
  .subst h;have:=W4.mpr ha;simp;lia
  .simp [h];lia
theorem CD{r r':List Int}(hne:r≠r') {a:Int}(ha:a∈r) (ha':a∈r'):∀rs:List (List Int),rs.count r+rs.count r'<=rs.flatten.count a
 | []=>Vu _
 |s::rs=>by
  have ih:=CD hne ha ha' rs;rw[W7,W7,fCq,cAq]
  by_cases h:s=r
  .subst h;have:=W4.mpr ha;simp[hne];lia
  .by_cases h':s=r'
   .subst h';have:=W4.mpr ha';simp[h];lia
   .simp [h,h'];lia
theorem Kb{z:Int}(hz:z ≠ -z) {r:List Int}(hn:r.Nodup):(if r.filter (pz z)=[] then 1 else 0)=(if r=[] then 1 else 0)+(if r=[z] then 1 else 0)+(if r=[-z] then 1 else 0)+(if r=[z, -z] then 1 else 0)+(if r=[-z,z] then 1 else 0):=by
 have pz1:=Ct z;have pz2:=vA z
 match r,hn with
 | [],_=>simp
 | [a],_ =>
  by_cases h:pz z a=true
  .have h2:=cM.mp h;rw[Wj h];simp[h2.1,h2.2]
  .rw [Wp h];rcases rX h with rfl|rfl
   .simp [hz]
   .simp [hz.symm]
 | [a,b],hn =>
  have hab:a≠b:=by simpa using hn
  by_cases h:pz z a=true
  .have h2:=cM.mp h;rw[Wj h];simp[h2.1,h2.2]
  .rw [Wp h]
   by_cases h3:pz z b=true
   .have h4:=cM.mp h3;rw[Wj h3];simp[h4.1,h4.2]
   .rw [Wp h3];rcases rX h with rfl|rfl <;> rcases rX h3 with rfl|rfl
    .exact absurd rfl hab
    .simp [hz]
    .simp [hz.symm]
    .exact absurd rfl hab
 |a::b::c::r,hn =>
  have:(a::b::c::r).filter (pz z)≠[]:=fun q=>by
   rw[List.filter_eq_nil_iff]at q;have h1:=rX (q a (by simp))
   have h2:=rX (q b (by simp))
   have h3:=rX (q c (by simp))
   simp only[Vx,VB,not_or]at hn;lia
  rw[if_neg this];simp
theorem zG{z:Int}(hz:z ≠ -z):∀{rs:List (List Int)},(∀r∈rs,r.Nodup)->bare (rs.map fun r=>r.filter (pz z))=bare rs+rs.count [z]+rs.count [-z]+(rs.count [z, -z]+rs.count [-z,z])
 | [],_=>rfl
 |r::rs,h=>by
  have ih:=zG hz (rs:=rs) fun r hr=>h r (mCo _ hr)
  have h1:=Kb hz (h r (V0 ..));unfold bare at ih ⊢;rw[VG,XJ,XJ,W7,W7,W7,W7,ih];simp only[decide_eq_true_eq,beq_iff_eq]at h1 ⊢;lia
theorem CN(hn:rs.flatten.Nodup) {z:Int}(hz:z∈rs.flatten):rs.count [z]=if nx rs z=z then 1 else 0:=by
 have hle:=HB (r:=[z]) (a:=z) (by simp) rs
 have h1:=Y2.mp hn z
 by_cases h:[z]∈rs
 .have:=W4.mpr h;have h0:Rt rs z []:=⟨[],[],h,rfl⟩;have e:nx rs z=z:=h0.to hn;rw[if_pos e];lia
 .rw [Xt h];obtain⟨w,hw⟩:=Rt.of hz;have e:=hw.to hn;have nd:=hw.nd hn;cases w with
  |nil =>
   obtain⟨u,v,hr,q⟩:=hw;obtain⟨rfl,rfl⟩:=YK.mp q.symm;exact absurd hr h
  |cons y w =>
   have e:nx rs z=y:=e;rw[if_neg];rw[e];rintro rfl;exact(Vx.mp nd).1 (V0 ..)
theorem LG(hn:rs.flatten.Nodup) {z y:Int}(hne:z≠y) (hz:z∈rs.flatten):rs.count [z,y]+rs.count [y,z]=if nx rs z=y/\nx rs y=z then 1 else 0:=by
 have hle:=CD (r:=[z,y]) (r':=[y,z]) (a:=z) (by simp[hne]) (by simp) (by simp) rs
 have h1:=Y2.mp hn z
 by_cases h:[z,y]∈rs∨[y,z]∈rs
 .have hp:0<rs.count [z,y]+rs.count [y,z]:=by
   rcases h with h|h
   .have:=W4.mpr h;lia
   .have:=W4.mpr h;lia
  have h0:Rt rs z [y]:=by
   rcases h with h|h
   .exact ⟨[],[y],h,rfl⟩
   .exact ⟨[y],[],h,rfl⟩
  have e:nx rs z=y:=h0.to hn;have e2:nx rs y=z:=h0.step.to hn;rw[if_pos ⟨e,e2⟩];lia
 .have h':[z,y]∉rs/\[y,z]∉rs:=⟨fun q=>h (.inl q),fun q=>h (.inr q)⟩
  rw[Xt h'.1,Xt h'.2];obtain⟨w,hw⟩:=Rt.of hz;have nd:=hw.nd hn;rw[if_neg];rintro⟨q1,q2⟩;have e:=hw.to hn;rw[q1]at e;cases w with
  |nil=>exact hne e.symm
  |cons y' w =>
   have e:y=y':=e;subst e;have e2:=hw.step.to hn;rw[q2]at e2;cases w with
   |cons x w =>
    have e2:z=x:=e2;subst e2;exact(Vx.mp nd).1 (by simp)
   |nil =>
    obtain⟨u,v,hr,q⟩:=hw;cases v with
    |nil=>rw[WQ]at q;subst q;exact h'.2 hr
    |cons x v =>
     have q2:=Zm.inj q;obtain⟨rfl,rfl⟩:=YK.mp q2.2.symm;rw[←q2.1]at hr;exact h'.1 hr
noncomputable def rest(z:Int) (rs:List (List Int)):List (List Int):=rs.filter fun r=>!decide (z∈r) && !decide (-z∈r)
theorem qd{z:Int}{r:List Int}:r∈rest z rs↔r∈rs/\z∉r/\-z∉r:=by
 unfold rest;rw[WD];simp
theorem xa(z:Int):bare (rest z rs)=bare rs:=by
 unfold bare rest;rw[List.countP_filter];refine List.countP_congr fun r _=>?_
 constructor
 .intro h;exact(WZ _ _ ▸ h).1
 .intro h;have:=of_decide_eq_true h;subst this;simp
structure Sl (rs:List (List Int)) (z:Int) (D:List (List Int)):Prop where
 nd:D.flatten.Nodup
 mem:∀x,x∈D.flatten↔x∈rs.flatten/\pz z x=true
 on:∀x∈D.flatten,nx D x=IM z (nx rs) x
 br:bare D=bare rs+((if nx rs (-z)=z then 1 else 0)+(if nx rs z = -z then 1 else 0)+(if nx rs (-z) = -z/\nx rs z=z then 1 else 0))
 len:D.length<=rs.length+2
theorem kQ(hn:rs.flatten.Nodup) {r s:List Int}{x:Int}(hr:r∈rs) (hs:s∈rs) (h1:x∈r) (h2:x∈s):r=s:=by
 obtain⟨i,hi⟩:=Wn.mp hr;obtain⟨j,hj⟩:=Wn.mp hs;have:=By hn hi hj h1 h2;subst this;exact V2.inj (hi.symm.trans hj)
theorem vt(z:Int):(rest z rs).length<=rs.length:=WI _ _
theorem C7(hn:rs.flatten.Nodup) {z x:Int}{K:List (List Int)}(hx:x∈(rest z rs).flatten) (hD:(rest z rs++K).flatten.Nodup):nx (rest z rs++K) x=IM z (nx rs) x:=by
 obtain⟨w,u,v,hr,e⟩:=Rt.of hx;have h1:=qd.mp hr;have r1:Rt rs x w:=⟨u,v,h1.1,e⟩;have r2:Rt (rest z rs++K) x w:=⟨u,v,mAq.mpr (.inl hr),e⟩;rw[r2.to hD];have e1:=r1.to hn;unfold IM;rw[e1];refine(if_pos ?_).symm;have hin:w.headD x∈u++x::v:=by
  refine(Wg (l₁:=x::v) (l₂:=u)).mem_iff.mp ?_;rw[X6,←e];cases w <;> simp
 rw[cM];exact⟨fun q=>h1.2.1 (q ▸ hin),fun q=>h1.2.2 (q ▸ hin)⟩
theorem wC(p:List Int->Bool):∀rs:List (List Int),(rs.filter p).flatten.Sublist rs.flatten
 | []=>XB.refl _
 |r::rs=>by
  have ih:=wC p rs;cases h:p r with
  |true=>rw[Wj h,fCq,fCq];exact XB.append_left ih _
  |false=>rw[Wp (by simp[h]),fCq];exact ih.trans (List.sublist_append_right ..)
theorem Ci(hn:rs.flatten.Nodup) {z:Int}{K:List (List Int)}(k1:K.flatten.Nodup) (k2:∀x,x∈K.flatten↔pz z x=true/\∃r∈rs,x∈r/\(z∈r∨-z∈r)):(rest z rs++K).flatten.Nodup/\∀x,x∈(rest z rs++K).flatten↔x∈rs.flatten/\pz z x=true:=by
 rw[fAq];refine⟨?_,fun x=>?_⟩
 .rw [nAq];refine⟨V1.sublist (wC _ rs) hn,k1,fun x hx y hy e=>?_⟩
  subst e;obtain⟨r,hr,hxr⟩:=mFq.mp hx;obtain⟨_,s,hs,hxs,q⟩:=(k2 x).mp hy;have h1:=qd.mp hr;have:=kQ hn h1.1 hs hxr hxs;subst this;rcases q with q|q
  .exact h1.2.1 q
  .exact h1.2.2 q
 .rw [mAq,k2];constructor
  .rintro (h|⟨h1,r,hr,hx,_⟩)
   .obtain ⟨r,hr,hxr⟩:=mFq.mp h;have h1:=qd.mp hr;refine⟨mFq.mpr ⟨r,h1.1,hxr⟩,cM.mpr ⟨fun q=>h1.2.1 (q ▸ hxr),fun q=>h1.2.2 (q ▸ hxr)⟩⟩
   .exact ⟨mFq.mpr ⟨r,hr,hx⟩,h1⟩
  .rintro ⟨h1,h2⟩;obtain⟨r,hr,hxr⟩:=mFq.mp h1
   by_cases c:z∈r∨-z∈r
   .exact .inr ⟨h2,r,hr,hxr,c⟩
   .exact .inl (mFq.mpr ⟨r,qd.mpr ⟨hr,fun q=>c (.inl q),fun q=>c (.inr q)⟩,hxr⟩)
theorem uM(a b:List (List Int)):bare (a++b)=bare a+bare b:=List.countP_append
theorem vd(a:List Int):bare [a]=if a=[] then 1 else 0:=by
 unfold bare;rw[XJ,List.countP_nil];simp
theorem G9(a b:List Int):bare [a,b]=(if a=[] then 1 else 0)+(if b=[] then 1 else 0):=by
 rw[show [a,b]=[a]++[b] from rfl,uM,vd,vd]
theorem KQ(hn:rs.flatten.Nodup) {z:Int}(hz:z ≠ -z) {a b:List Int}(h:Rt rs z (a ++ -z::b)):Sl rs z (rest z rs++[a,b]):=by
 have h':Rt rs (-z) (b ++ - -z::a):=by rw[Xx];exact h.go
 have nd:=h.nd hn;obtain⟨r,hr,er⟩:=h.row;have nda:∀e∈a,pz z e=true:=fun e he=>by
  rw[Vx,nAq]at nd;exact cM.mpr ⟨fun q=>nd.1 (mAq.mpr (.inl (q ▸ he))),fun q=>nd.2.2.2 _ he _ (V0 ..) q⟩
 have ndb:∀e∈b,pz z e=true:=fun e he=>by
  rw[Vx,nAq,Vx]at nd;exact cM.mpr ⟨fun q=>nd.1 (mAq.mpr (.inr (mCo _ (q ▸ he)))),fun q=>nd.2.2.1.1 (q ▸ he)⟩
 have k1:[a,b].flatten.Nodup:=by
  rw[show [a,b].flatten=a++b by simp]
  exact V1.sublist (XB.append_left (List.sublist_cons_self ..) _) (Vx.mp nd).2
 have zr:z∈r:=(er z).mpr (by simp)
 have zr':-z∈r:=(er (-z)).mpr (by simp)
 obtain⟨d1,d2⟩:=Ci hn (z:=z) k1 fun x=>by
  rw[show [a,b].flatten=a++b by simp,mAq]
  constructor
  .intro q;have hx:pz z x=true:=by
    rcases q with q|q
    .exact nda x q
    .exact ndb x q
   refine⟨hx,r,hr,(er x).mpr ?_,.inl zr⟩;rcases q with q|q <;> simp[q]
  .rintro ⟨hx,s,hs,hxs,q⟩;have:s=r:=by
    rcases q with q|q
    .exact kQ hn hs hr q zr
    .exact kQ hn hs hr q zr'
   subst this;have:=(er x).mp hxs;have hx:=cM.mp hx;simp[hx.1,hx.2]at this;exact this
 refine⟨d1,d2,fun x hx=>?_,?_,by rw[lAq];have:=vt (rs:=rs) z;show _+2<=_;lia⟩
 .rw [fAq]at hx;rcases mAq.mp hx with q|q
  .exact C7 hn q d1
  .rw [show [a,b].flatten=a++b by simp]at q
   rcases mAq.mp q with q|q
   .obtain ⟨u,v,e⟩:=WJ q;exact Qy hn d1 h nda e ⟨u,v,by rw[←e];simp,rfl⟩
   .obtain ⟨u,v,e⟩:=WJ q;rw[←Dm];exact Qy hn d1 h' (by rw[yI];exact ndb) e ⟨u,v,by rw[←e];simp,rfl⟩
 .rw [uM,xa,G9];have e1:=h.to hn;have e2:=h'.to hn;rw[Xx]at e2;have q1:(nx rs z = -z)↔a=[]:=by
   rw[e1];cases a with
   |nil=>simp
   |cons y a =>
    have:=cM.mp (nda y (by simp))
    simp[this.2]
  have q2:(nx rs (-z)=z)↔b=[]:=by
   rw[e2];cases b with
   |nil=>simp
   |cons y b =>
    have:=cM.mp (ndb y (by simp))
    simp[this.1]
  have q3:¬ (nx rs (-z) = -z/\nx rs z=z):=by
   rintro⟨q,_⟩;rw[e2]at q;cases b with
   |nil=>exact hz q
   |cons y b =>
    have:=cM.mp (ndb y (by simp))
    exact this.2 q
  simp only[q1,q2,if_neg q3];lia
theorem Kj(hn:rs.flatten.Nodup) {z:Int}(hz:z ≠ -z) {a b:List Int}(h:Rt rs z a) (h':Rt rs (-z) b) (hna:-z∉a):Sl rs z (rest z rs++[a++b]):=by
 have nd:=h.nd hn;have nd':=h'.nd hn;obtain⟨r,hr,er⟩:=h.row;obtain⟨s,hs,es⟩:=h'.row;have zr:z∈r:=(er z).mpr (by simp)
 have zs':-z∈s:=(es (-z)).mpr (by simp)
 have hrs:r≠s:=fun q=>by
  subst q;have:=(er (-z)).mp zs';rcases VB.mp this with q|q
  .exact hz q.symm
  .exact hna q
 have zb:z∉b:=fun q=>hrs (kQ hn hr hs zr ((es z).mpr (mCo _ q)))
 have nda:∀e∈a,pz z e=true:=fun e he=>cM.mpr ⟨fun q=>(Vx.mp nd).1 (q ▸ he),fun q=>hna (q ▸ he)⟩
 have ndb:∀e∈b,pz z e=true:=fun e he=>cM.mpr ⟨fun q=>zb (q ▸ he),fun q=>(Vx.mp nd').1 (q ▸ he)⟩
 have k1:[a++b].flatten.Nodup:=by
  rw[show [a++b].flatten=a++b by simp,nAq]
  refine⟨(Vx.mp nd).2,(Vx.mp nd').2,fun x hx y hy e=>?_⟩
  subst e;exact hrs (kQ hn hr hs ((er x).mpr (mCo _ hx)) ((es x).mpr (mCo _ hy)))
 obtain⟨d1,d2⟩:=Ci hn (z:=z) k1 fun x=>by
  rw[show [a++b].flatten=a++b by simp,mAq]
  constructor
  .rintro (q|q)
   .exact ⟨nda x q,r,hr,(er x).mpr (mCo _ q),.inl zr⟩
   .exact ⟨ndb x q,s,hs,(es x).mpr (mCo _ q),.inr zs'⟩
  .rintro ⟨hx,t,ht,hxt,q⟩;have hx:=cM.mp hx;rcases q with q|q
   .have:=kQ hn ht hr q zr;subst this;have:=(er x).mp hxt;simp[hx.1]at this;exact .inl this
   .have:=kQ hn ht hs q zs';subst this;have:=(es x).mp hxt;simp[hx.2]at this;exact .inr this
 refine⟨d1,d2,fun x hx=>?_,?_,by rw[lAq];have:=vt (rs:=rs) z;show _+1<=_;lia⟩
 .rw [fAq]at hx;rcases mAq.mp hx with q|q
  .exact C7 hn q d1
  .rw [show [a++b].flatten=a++b by simp]at q
   rcases mAq.mp q with q|q
   .obtain ⟨u,v,e⟩:=WJ q;exact RW hn d1 h h' nda ndb e ⟨u,v++b,by rw[e];simp,rfl⟩
   .obtain ⟨u,v,e⟩:=WJ q;rw[←Dm];exact RW hn d1 h' (by rw[Xx];exact h) (by rw[yI];exact ndb) (by rw[yI];exact nda) e ⟨a++u,v,by rw[e];simp,by simp⟩
 .rw [uM,xa,vd];have e1:=h.to hn;have e2:=h'.to hn;have q1:¬ (nx rs z = -z):=by
   rw[e1];cases a with
   |nil=>exact hz
   |cons y a=>exact(cM.mp (nda y (by simp))).2
  have q2:¬ (nx rs (-z)=z):=by
   rw[e2];cases b with
   |nil=>exact hz.symm
   |cons y b=>exact(cM.mp (ndb y (by simp))).1
  have q3:(nx rs (-z) = -z/\nx rs z=z)↔a++b=[]:=by
   rw[e1,e2];cases a with
   |cons y a =>
    have:=(cM.mp (nda y (by simp))).1
    simp[this]
   |nil =>
    cases b with
    |cons y b =>
     have:=(cM.mp (ndb y (by simp))).2
     simp[this]
    |nil=>simp
  simp only[if_neg q1,if_neg q2,q3];lia
end
section
variable {rs:List (List Int)}
theorem kG(rs:List (List Int)):bare rs=rs.count []:=by
 unfold bare;rw[List.count];congr 1;funext r;cases r <;> rfl
theorem xV{r:List Int}:good r=[]↔r=[]:=by
 rw[←Wo,sj,Wo]
theorem wJ:∀rs:List (List Int),bare (rs.map good)=bare rs
 | []=>rfl
 |r::rs=>by
  have ih:=wJ rs;unfold bare at ih ⊢;rw[VG,XJ,XJ,ih];simp only[xV]
theorem Ju(rs:List (List Int)):bare (mw (rs.map good))=bare rs:=by
 rw[kG,(fk _).count_eq,←kG,wJ]
theorem Gj(rs:List (List Int)):(nV rs).flatten=[]:=by
 unfold nV;refine List.flatten_eq_nil_iff.mpr fun l hl=>?_
 obtain⟨x,_,rfl⟩:=mMq.mp hl;rfl
theorem Dn(hm:Mp rs):∃M:List (List Int),dN [dM rs]=some (.ow (M.map aI))/\M.flatten.Perm rs.flatten/\bare M=bare rs/\M.length<=rs.length+rs.flatten.length/\∀x∈M.flatten,nx M x=fw rs x:=by
 obtain⟨L,o1,e1⟩:=AN hm;have pL:L.flatten.Perm rs.flatten:=(XI o1.dj hm.hn).mpr o1.all;have hL1:∀l∈L,1<=l.length:=fun l hl=>by obtain⟨e,c⟩:=o1.cy l hl;exact c.len
 have hLl:=zo hL1;rw[pL.length_eq]at hLl;have hf0:(nV rs++L).flatten=L.flatten:=by rw[fAq,Gj,WQ]
 have pM:(mw ((nV rs++L).map good)).flatten.Perm rs.flatten:=by
  refine(iX (fk _)).trans ((dR jd _).trans ?_);rw[hf0];exact pL
 have hcnt:(mw ((nV rs++L).map good)).count []=rs.count []:=by
  rw[(fk _).count_eq,mBq,cAq,zi hL1,pe,Zg,show good []=[] from rfl,List.count_replicate_self]
  rfl
 have hMl:(mw ((nV rs++L).map good)).length<=rs.length+rs.flatten.length:=by
  have:=FH rs;rw[lD,lMq,lAq];lia
 have hrow:∀l∈mw ((nV rs++L).map good),l=[]∨∃e,Cy (fw rs) e l:=fun l hl=>by
  obtain⟨m,hm',rfl⟩:=mMq.mp ((fk _).mem_iff.mp hl);rcases mAq.mp hm' with q|q
  .left;unfold nV at q;obtain⟨x,_,rfl⟩:=mMq.mp q;rfl
  .right;obtain⟨e,c⟩:=o1.cy m q;exact Dy c
 refine⟨_,e1,pM,by rw[kG,kG,hcnt],hMl,fun x hx=>Mz (pM.nodup_iff.mpr hm.hn) hrow hx⟩
theorem Nu{T:List (List Int)}(hn:T.flatten.Nodup) {x:Int}(hx:x∈T.flatten):nx (mw (T.map good)) x=nx T x:=by
 have pN:(mw (T.map good)).flatten.Perm T.flatten:=(iX (fk _)).trans (dR jd _);refine Mz (pN.nodup_iff.mpr hn) (fun l hl=>?_) (pN.mem_iff.mpr hx)
 obtain⟨m,hm',rfl⟩:=mMq.mp ((fk _).mem_iff.mp hl);cases m with
 |nil=>exact .inl rfl
 |cons y m=>exact .inr (Dy (IF hn hm' rfl))
theorem GP{T D:List (List Int)}(hm:Mp T) (hD:D.flatten.Nodup) (hE:∀x,x∈T.flatten↔x∈D.flatten) (hf:∀x∈T.flatten,fw T x=nx D x) (hb:bare T=bare D):dN [dM T]=some (.ow ((mw (D.map good)).map aI)):=by
 obtain⟨L,o,e⟩:=AN hm;have o':=Eh (Bj hm) hf hE o;have hp:=o'.perm (NW hD) (Hb hD);rw[e];have hq:((nV T++L).map good).Perm (D.map good):=by
  rw[mBq,pe T,←kG,hb,kG,←pe D];refine(Wx.append_left _ hp).trans ?_;rw[←mBq];exact(xJ D).map good
 rw[Et hq]
theorem RN(z:Int) (M:List (List Int)):K23.C z M=M.map fun r=>r.filter (pz z):=rfl
theorem drawn(hm:Mp rs) (hlen:rs.length+rs.flatten.length<=900) {z:Int}(hz:z∈rs.flatten) (hne:z ≠ -z):∃M:List (List Int),dN [dM rs]=some (.ow (M.map aI))/\M.flatten.Perm rs.flatten/\M.length<=900/\∀D,Sl rs z D->bare (K23.C z M)=bare D/\dN [dM (mw ((K23.C z M).map good))]=some (.ow ((mw (D.map good)).map aI)):=by
 obtain⟨M,e1,pM,bM,lM,hx⟩:=Dn hm;have nM:M.flatten.Nodup:=pM.nodup_iff.mpr hm.hn;have hz':=hm.hneg z hz;refine⟨M,e1,pM,by lia,fun D hD=>?_⟩
 have x1:nx M z=nx rs (-z):=hx z (pM.mem_iff.mpr hz);have x2:nx M (-z)=nx rs z:=by rw[hx (-z) (pM.mem_iff.mpr hz')];unfold fw;rw[Xx]
 have b1:=zG hne (rs:=M) fun r hr=>V1.sublist (VX hr) nM
 rw[CN nM (pM.mem_iff.mpr hz),CN nM (pM.mem_iff.mpr hz'),LG nM hne (pM.mem_iff.mpr hz),x1,x2,bM]at b1;have hb:bare (K23.C z M)=bare D:=by
  rw[RN,b1,hD.br];lia
 refine⟨hb,?_⟩;have cf:(K23.C z M).flatten=M.flatten.filter (pz z):=K23.GI;have nC:(K23.C z M).flatten.Nodup:=by rw[cf];exact V1.sublist List.filter_sublist nM
 have pN:(mw ((K23.C z M).map good)).flatten.Perm (K23.C z M).flatten:=(iX (fk _)).trans (dR jd _);have hmem:∀x,x∈(mw ((K23.C z M).map good)).flatten↔x∈rs.flatten/\pz z x=true:=fun x=>by rw[pN.mem_iff,cf,WD,pM.mem_iff]
 have hlC:(K23.C z M).length=M.length:=by unfold K23.C;rw[lMq]
 have neg:∀x,pz z x=true->pz z (-x)=true:=fun x h=>by rw[cM]at h ⊢;lia
 have mpN:Mp (mw ((K23.C z M).map good)):=⟨pN.nodup_iff.mpr nC,by
   rw[pN.length_eq,cf];have:=WI (pz z) M.flatten;rw[pM.length_eq]at this;lia,by rw[lD,lMq,hlC];lia,fun e he=>by
   have:=(hmem e).mp he;exact(hmem (-e)).mpr ⟨hm.hneg e this.1,neg e this.2⟩⟩
 refine GP mpN hD.nd (fun x=>by rw[hmem,hD.mem]) (fun x hxN=>?_) (by rw[Ju,hb])
 have h1:=(hmem x).mp hxN;have hn1:-x∈rs.flatten:=hm.hneg x h1.1;have hn2:-x∈(K23.C z M).flatten:=by rw[cf,WD,pM.mem_iff];exact⟨hn1,neg x h1.2⟩
 rw[hD.on x ((hD.mem x).mpr h1)];show nx (mw ((K23.C z M).map good)) (-x)=_;rw[Nu nC hn2,RN,PY nM nC (pM.mem_iff.mpr hn1) (neg x h1.2)];have f1:∀t∈rs.flatten,nx M t=nx rs (-t):=fun t ht=>hx t (pM.mem_iff.mpr ht)
 have g1:nx M (-x)=nx rs x:=by rw[f1 _ hn1,Xx]
 have m1:=yC hm.hn h1.1;have m2:=yC hm.hn (hm.hneg _ m1);unfold Ta IM;rw[g1,f1 _ m1,f1 _ m2]
end
end K25
--ZQ3 --ZQ4 --ZQ5 --ZQ6 --ZQ8 --ZQ9 --ZQB --ZQC --ZQD --ZQE --ZQF --ZQG
namespace K25
open PySem L2 Mr Z Xe Zl K15 K16
open K23 (cz oq vQ C)
abbrev dz(z:Int):D:=.ins "Draw" [("road", .int z)]
theorem NK(z:Int):vU "Draw" "road" (dz z)=some (.int z):=by rfl
theorem j1(z:Int):vL "Draw" "done" (.sh (dz z))=some (dz z):=by rfl
theorem j2(z:Int):vL "Draw" "back" (.sh (dz z))=some (dz z):=by rfl
theorem j3(z:Int):vL "Draw" "told" (.sh (dz z))=some (dz z):=by rfl
theorem j4(z:Int):vL "Draw" "other" (.sh (dz z))=some (dz z):=by rfl
theorem Va{z:Int}{S:AS}(h:S[0]?.join=some (.sh (dz z))):zX "Cut" ["road"] (ai (kr (vU "Draw" "road") (aq 0)) aG) S=some (.sh (cz z),S):=by
 have f:=NK z
 simp_arith [MZ,h,f]
 rfl
theorem vo(z:Int):eA [dz z]=some (.sh (cz z)):=by
 have h:zX "Cut" ["road"] (ai (kr (vU "Draw" "road") (aq 0)) aG) [some (.sh (dz z))]=some (.sh (cz z),[some (.sh (dz z))]):=Va rfl
 simp_arith [eA,oi,h]
section
variable {rs:List (List Int)}{z:Int}
theorem LH(M:List (List Int)):(M.map aI).map aE=M.map dI:=by rw[mPq];exact mCq fun r _=>cH r
theorem Ku:gb [dz z]=some (.sh (.tup [.str "draw", .int z])):=by
 have h:=NK z
 simp_arith [gb,pQ,h]
theorem Kf{M N G:List (List Int)}(h1:dN [dM rs]=some (.ow (M.map aI))) (h2:K23.aY [dM M,.int z]=some (.ok (.ow (N.map aI)))) (h3:dN [dM N]=some (.ow (G.map aI))):dr [dz z,dM rs]=some (.ok (.ow (G.map aI))):=by
 have i4:=j4 z;have oe:=vo z;have i1:=K23.in1 z;have sM:=LH M;have sN:=LH N;have h4:=K23.yt (z:=z) (dM M);rw[h2]at h4;have e:fj [dz z,dM rs]=some (.ok (.ow (G.map aI))):=by
  simp_arith [fj,lC,pA,i4,oe,i1,h1,sM,h4,sN,h3]
 simp_arith [dr,lj,e]
theorem CJ{M:List (List Int)}{c:Str}{fs:List (Str×Int)}(h1:dN [dM rs]=some (.ow (M.map aI))) (h2:K23.aY [dM M,.int z]=some (.ex c fs)):dr [dz z,dM rs]=some (.ex c fs):=by
 have i4:=j4 z;have oe:=vo z;have i1:=K23.in1 z;have sM:=LH M;have h4:=K23.yt (z:=z) (dM M);rw[h2]at h4;have e:fj [dz z,dM rs]=some (.ex c fs):=by
  simp_arith [fj,lC,pA,i4,oe,i1,h1,sM,h4]
 simp_arith [dr,lj,e]
theorem zl{M:List (List Int)}{c:Str}{fs:List (Str×Int)}(h1:dN [dM rs]=some (.ow (M.map aI))) (h2:K23.aY [dM M,.int z]=some (.ex c fs)):gm [dz z,dM rs]=some (.ex c fs):=by
 have i4:=j4 z;have oe:=vo z;have i2:=K23.Vc z;have sM:=LH M;have h4:=K23.back_ex h2;have e:iB [dz z,dM rs]=some (.ex c fs):=by
  simp_arith [iB,pE,RC,pA,i4,oe,i2,h1,sM,h4]
 simp_arith [gm,qi,e]
theorem KJ{d:D}{G:List (List Int)}(h:dr [dz z,d]=some (.ok (.ow (G.map aI)))):eE [dz z,d]=some (vQ G):=by
 have h2:=j1 z
 simp_arith [eE,qP,pA,h,h2,vQ]
theorem Dz{d:D}{c:Str}{fs:List (Str×Int)}{w:Str}{y:Int}(hu:under c "MapError" = true) (h:dr [dz z,d]=some (.ex c fs)) (hk:K23.fg [.exc c fs]=some (.ow [.sh (.tup [.str w,.int y])])):eE [dz z,d]=some (oq w y):=by
 have h2:=j1 z
 simp_arith [eE,qP,pA,h,h2,hu,hk,oq]
theorem back_ex{d:D}{c:Str}{fs:List (Str×Int)}{w:Str}{y:Int}(hu:under c "MapError" = true) (h:gm [dz z,d]=some (.ex c fs)) (hk:K23.fg [.exc c fs]=some (.ow [.sh (.tup [.str w,.int y])])):ju [dz z,d]=some (oq w y):=by
 have h2:=j2 z
 simp_arith [ju,wg,pA,h,h2,hu,hk,oq]
theorem EM(e:Int) (rs:List (List Int)):dh (dC (bV (qp false) (aq 1) (aq 0))) (aH 0) [some (.sh (.int e))] (rs.map dI)=some ((rs.filter fun r=>decide (e∈r)).map fun r=>.sh (dI r)):=by
 rw[Z.fe (fun d=>decide (e∈jM d)) (fun d=>.sh d)]
 .rw [Xr,mPq];have:(fun d=>decide (e∈jM d))∘dI=fun r=>decide (e∈r):=by funext r;show decide (e∈jM (dI r))=_;rw[fq]
  rw[this];rfl
 .intro d hd;obtain⟨r,hr,rfl⟩:=lV hd;rw[fq];have h:=uq false e r;refine⟨[some (.sh (dI r)),some (.sh (.int e))],?_,fun _=>⟨[some (.sh (dI r)),some (.sh (.int e))],?_⟩⟩
  .simp_arith [dI,h]
  .simp_arith []
theorem Em(z:Int) (rs:List (List Int)):dh (wx (dC (bV (qp true) (aq 1) (aq 0))) (dC (bV (qp true) (kr gn (aq 1)) (aq 0)))) (aH 0) [some (.sh (.int z))] (rs.map dI)=some ((rest z rs).map fun r=>.sh (dI r)):=by
 rw[Z.fe (fun d=>!decide (z∈jM d) && !decide (-z∈jM d)) (fun d=>.sh d)]
 .rw [Xr,mPq];have:(fun d=>!decide (z∈jM d) && !decide (-z∈jM d))∘dI=fun r=>!decide (z∈r) && !decide (-z∈r):=by funext r;show (!decide (z∈jM (dI r)) && !decide (-z∈jM (dI r)))=_;rw[fq]
  rw[this];rfl
 .intro d hd;obtain⟨r,hr,rfl⟩:=lV hd;rw[fq];have h:=uq true z r;have h':=uq true (-z) r;refine⟨[some (.sh (dI r)),some (.sh (.int z))],?_,fun _=>⟨[some (.sh (dI r)),some (.sh (.int z))],?_⟩⟩
  .by_cases c:z∈r
   .have c':decide (z∈r)=true:=decide_eq_true c;rw[c']at h
    simp_arith [dI,h,c',YU]
   .have c':decide (z∈r)=false:=decide_eq_false c;rw[c']at h
    simp_arith [dI,h,h',c',Bool.true_and]
  .simp_arith []
theorem C3{u v:List Int}{e:Int}(h:e∉u):(u++e::v).idxOf e=u.length:=by
 rw[Zk,if_neg h,YY,WT]
theorem zH{r:List Int}{e:Int}(he:e∈r):lN (dI r) [.int e]=some (.int (r.idxOf e:Nat)):=by
 show (eB (r.map D.int)).bind _=_;rw[eZ];show (if _ then _ else _)=_
 rw[if_pos he]
theorem wm{e:Int}(hn:rs.flatten.Nodup) (hf:rs.flatten.length<=1000) (hl:rs.length<=1000) (he:e∈rs.flatten):∃w,Rt rs e w/\gU [dM rs,.int e]=some (aI w):=by
 have wc:=EM e rs;obtain⟨r,T,hr⟩:∃r T,(rs.filter fun r=>decide (e∈r))=r::T:=by
  cases h:rs.filter fun r=>decide (e∈r) with
  |nil =>
   obtain⟨r,h1,h2⟩:=mFq.mp he;have:=WD (p:=fun r=>decide (e∈r)).mpr ⟨h1,decide_eq_true h2⟩
   rw[h]at this;cases this
  |cons r T=>exact⟨r,T,rfl⟩
 have hmem:=WD.mp (hr ▸ V0 ..:r∈rs.filter fun r=>decide (e∈r))
 rw[hr]at wc;have her:=of_decide_eq_true hmem.2;obtain⟨u,v,rfl⟩:=WJ her;have hrl:=ro hmem.1;have hnd:(u++e::v).Nodup:=V1.sublist (VX hmem.1) hn;have hu:e∉u:=fun q=>(nAq.mp hnd).2.2 e q e (V0 ..) rfl
 have ix:=zH her;rw[C3 hu]at ix;refine⟨v++u,⟨u,v,hmem.1,rfl⟩,?_⟩;have l1:rs.length<=dg:=dA (by lia)
 have a0:∀L:List D,atI (dI (u++e::v)::L) 0=some (dI (u++e::v)):=fun L=>qE (j:=0) (by rfl)
 have s1:iU (u++e::v) (some ((u.length:Int)+1)) none=v:=by
  have:=K12.zc (u++e::v) (u.length+1);rw[show ((u.length+1:Nat):Int)=(u.length:Int)+1 by lia]at this
  rw[this,←YW,YV];rfl
 have s2:iU (u++e::v) none (some (u.length:Int))=u:=by
  rw[K12.FN];simp
 rw[lAq,lCq]at hrl;have l2:v.length+u.length<=dg:=dA (by lia)
 simp_arith [gU,rP,wc,l1,a0,ix,dI,gq,s1,s2,l2,←mBq,ql]
theorem Hz(hf:rs.flatten.length<=128) (h:z∉rs.flatten):dO [dM rs,.int z]=some (oq "there" z):=by
 have ht:=kZ (rs:=rs) (by lia)
 have d0:decide (z∈rs.flatten)=false:=decide_eq_false h
 simp_arith [dO,jh,ht,d0,oq]
theorem LY(hm:Mp rs) (hf:rs.flatten.length<=128) (hl:rs.length<=900) (hz:z ≠ -z) (h:z∈rs.flatten):∃D,Sl rs z D/\dO [dM rs,.int z]=some (if bare D<=128 then vQ (mw (D.map good)) else oq "many" 0):=by
 have ht:=kZ (rs:=rs) (by lia)
 have d0:decide (z∈rs.flatten)=true:=decide_eq_true h;have rc:=Em z rs;have rl:=vt (rs:=rs) z;have l1:rs.length<=dg:=dA (by lia)
 obtain⟨w,hw,bw⟩:=wm hm.hn (by lia) (by lia) h
 have nd:=hw.nd hm.hn;have hwl:w.length<=128:=by
  have:=Ad _ _ (Vx.mp nd).2 fun x hx=>hw.sub hx
  lia
 by_cases c:-z∈w
 .have c':decide (-z∈w)=true:=decide_eq_true c;obtain⟨a,b,rfl⟩:=WJ c;have hD:=KQ hm.hn hz hw;have na:-z∉a:=fun q=>(nAq.mp (Vx.mp nd).2).2.2 _ q _ (V0 ..) rfl
  have ix:=zH c;rw[C3 na]at ix;have s1:iU (a ++ -z::b) (some ((a.length:Int)+1)) none=b:=by
   have:=K12.zc (a ++ -z::b) (a.length+1);rw[show ((a.length+1:Nat):Int)=(a.length:Int)+1 by lia]at this
   rw[this,←YW,YV];rfl
  have s2:iU (a ++ -z::b) none (some (a.length:Int))=a:=by
   rw[K12.FN];simp
  have q1:(rest z rs).map dI++[.list (a.map D.int),.list (b.map D.int)]=(rest z rs++[a,b]).map dI:=by rw[mBq];rfl
  have l2:(rest z rs).length+2<=dg:=dA (by lia)
  have l3:(rest z rs++[a,b]).length<=dg:=dA (by have:=hD.len;lia)
  refine⟨_,hD,?_⟩;have fb:=K23.rn (rest z rs++[a,b]);have em:=K23.rm (rest z rs++[a,b]);have mo:=K13.B1 (rs:=rest z rs++[a,b]) (fun r hr=>by
   have:=Ad _ _ (V1.sublist (VX hr) hD.nd) fun x hx=>((hD.mem x).mp (mFq.mpr ⟨r,hr,hx⟩)).1
   lia) l3
  have hle:=hD.len;generalize rest z rs++[a,b]=D at q1 l3 fb em mo hle
  by_cases q:bare D<=128
  .rw [if_pos q];have c1:¬ (128:Int)<((bare D:Nat):Int):=by lia
   simp_arith [dO,jh,ht,d0,rc,l1,bw,c',ix,dI,gq,s1,s2,l2,q1,l3,em,fb,c1,mo,vQ]
  .rw [if_neg q];have c1:(128:Int)<((bare D:Nat):Int):=by lia
   simp_arith [dO,jh,ht,d0,rc,l1,bw,c',ix,dI,gq,s1,s2,l2,q1,l3,em,fb,c1,oq]
 .have c':decide (-z∈w)=false:=decide_eq_false c;obtain⟨b,hb,bb⟩:=wm hm.hn (by lia) (by lia) (hm.hneg z h)
  have hbl:b.length<=128:=by
   have:=Ad _ _ (Vx.mp (hb.nd hm.hn)).2 fun x hx=>hb.sub hx
   lia
  have hD:=Kj hm.hn hz hw hb c;have q1:(rest z rs).map dI++[.list (w.map D.int++b.map D.int)]=(rest z rs++[w++b]).map dI:=by rw[mBq,←mBq (f:=D.int)];rfl
  have l2:(rest z rs).length+1<=dg:=dA (by lia)
  have l3:(rest z rs++[w++b]).length<=dg:=dA (by have:=hD.len;lia)
  have l4:w.length+b.length<=dg:=dA (by lia)
  refine⟨_,hD,?_⟩;have fb:=K23.rn (rest z rs++[w++b]);have em:=K23.rm (rest z rs++[w++b]);have mo:=K13.B1 (rs:=rest z rs++[w++b]) (fun r hr=>by
   have:=Ad _ _ (V1.sublist (VX hr) hD.nd) fun x hx=>((hD.mem x).mp (mFq.mpr ⟨r,hr,hx⟩)).1
   lia) l3
  generalize rest z rs++[w++b]=D at q1 l3 fb em mo
  by_cases q:bare D<=128
  .rw [if_pos q];have c1:¬ (128:Int)<((bare D:Nat):Int):=by lia
   simp_arith [dO,jh,ht,d0,rc,l1,bw,c',bb,l4,l2,q1,l3,em,fb,c1,mo,vQ]
  .rw [if_neg q];have c1:(128:Int)<((bare D:Nat):Int):=by lia
   simp_arith [dO,jh,ht,d0,rc,l1,bw,c',bb,l4,l2,q1,l3,em,fb,c1,oq]
theorem LU(hm:Mp rs) (hf:rs.flatten.length<=128) (hl:rs.length<=700) (hz:z ≠ -z):(∃w y,dO [dM rs,.int z]=some (oq w y)/\eE [dz z,dM rs]=some (oq w y)/\ju [dz z,dM rs]=some (oq w y))∨(∃G,dO [dM rs,.int z]=some (vQ G)/\eE [dz z,dM rs]=some (vQ G)/\G.length<=1000/\G.flatten.length<=1000):=by
 have u1:under "NotThere" "MapError" = true:=by decide +kernel
 have u2:under "TooMany" "MapError" = true:=by decide +kernel
 by_cases h:z∈rs.flatten
 .obtain ⟨D,hD,e⟩:=LY hm hf (by lia) hz h
  obtain⟨M,h1,pM,lM,hM⟩:=drawn hm (by lia) h hz
  obtain⟨hb,h3⟩:=hM D hD;have h2:=K23.J1 (rs:=M) (z:=z) (by rw[pM.length_eq];exact hf) (by lia) (pM.mem_iff.mpr h)
  rw[hb]at h2
  by_cases c:bare D<=128
  .rw [if_pos c]at h2 e;refine .inr ⟨_,e,KJ (Kf h1 h2 h3),?_,?_⟩
   .rw [lD,lMq];have:=hD.len;lia
   .rw [(kJ _).length_eq];have:=Ad _ _ hD.nd fun x hx=>((hD.mem x).mp hx).1
    lia
  .rw [if_neg c]at h2 e;exact .inl ⟨_,_,e,Dz u2 (CJ h1 h2) K23.wI,back_ex u2 (zl h1 h2) K23.wI⟩
 .obtain ⟨M,h1,pM,_,_,_⟩:=Dn hm;have h2:=K23.Iu (rs:=M) (z:=z) (by rw[pM.length_eq];exact hf) fun q=>h (pM.mem_iff.mp q)
  exact .inl ⟨_,_,Hz hf h,Dz u1 (CJ h1 h2) (K23.vz z),back_ex u1 (zl h1 h2) (K23.vz z)⟩
end
end K25
--ZQ3 --ZQ4 --ZQ5 --ZQ6 --ZQ8 --ZQ9 --ZQB --ZQC --ZQD --ZQE --ZQF
namespace K25
open PySem L2 Mr Z Xe Zl
open K23 (oq vQ)
def tl:MS:=(aJ (aZ 8 (bj K25.dO (au (aH 5) (au (aH 7) aK))))
 (aJ (aZ 9 (zX "Draw" ["road"] (ai (aq 7) aG)))
 (aJ (jl (vO (eh (dC (HS "Draw" true (aq 9)))) (eh (dC (cK K13.ba (ai (rOf (bj K25.gb (tS "Draw" "told" (aH 9) aK))) (ai (rOf (qr (au (kSc (rC (.str "draw"))) (au (aH 7) aK)))) aG)))))) (cB (kSc (rC (.bl false)))) bG)
 (aJ (aZ 10 (bj K51.ku (au (aH 5) aK)))
 (aJ (aZ 11 (bj K25.eE (au (aH 9) (au (aH 10) aK))))
 (aJ (jl (vO (eh (dC (cK K13.ba (ai (aq 11) (ai (aq 8) aG))))) (eh (dC (cK K13.ba (ai (aq 10) (ai (aq 5) aG)))))) (cB (kSc (rC (.bl false)))) bG)
 (aJ (jl (dC (bV yV (bV sD (aq 11) (rC (.int 0))) (rC (.str "map")))) (nF 11 12 (.int 7)) (jl (eh (dC (cK K13.ba (ai (rOf (bj K25.ju (au (aH 9) (au (aH 10) aK)))) (ai (aq 8) aG))))) (cB (kSc (rC (.bl false)))) bG))
 (aJ (jl (eh (dC (cK K13.ba (ai (rOf (bj K25.eE (au (aH 9) (au (aH 10) aK)))) (ai (aq 8) aG))))) (cB (kSc (rC (.bl false)))) bG)
 (cB (kSc (AJ (cK K13.ba (ai (aq 10) (ai (aq 5) aG))) (cK K13.ba (ai (kr (vU "Draw" "road") (aq 9)) (ai (aq 7) aG))))))))))))))
theorem GJ{G:List (List Int)}(h:G.flatten.length<=1000) {v0 v1 v2 v3 v4 v5 v6 v7 v8 v9 v10 v12:Option AV}:nF 11 12 (.int 7) [v0,v1,v2,v3,v4,v5,v6,v7,v8,v9,v10,some (.ow [.sh (.str "map"),.ow (G.map aI)]),v12]=some (.nx [v0,v1,v2,v3,v4,v5,v6,v7,v8,v9,v10,none,none]):=by
 obtain⟨bs,e,_⟩:=K12.NZ (rs:=G) fun r hr=>Wi (ro hr) h
 unfold nF;rw[if_neg (by simp)]
 show ((mN (.int 7) (G.map aI)).map _)=_;rw[e];rfl
theorem JV(w:Str) (z:Int):K13.plain 4 (.tup [.str w,.int z]):=⟨by show 2<1000000;decide,fun d hd=>by
 rcases VB.mp hd with rfl|hd
 .trivial
 .rw [mSq.mp hd];trivial⟩
theorem M4{M:List (List Int)}{z:Int}(hm:Mp M) (hz:z ≠ -z) (hf:M.flatten.length<=128) (hl:M.length<=700) {v0 v1 v2 v3 v4 v6:Option AV}{a5:AV}(h5:aE a5=dM M):tl [v0,v1,v2,v3,v4,some a5,v6,some (.sh (.int z)),none,none,none,none,none]=some (.rt (.sh (.bl true))):=by
 have i3:=j3 z;have tq:=Ku (z:=z);have al0:K13.ba [.tup [.str "draw", .int z],.tup [.str "draw", .int z]]=some (.sh (.bl true)):=K13.fQ 4 _ (JV _ _);have al1:K13.ba [dM M,dM M]=some (.sh (.bl true)):=K13.fQ 4 _ (K13.DD 1 M (by lia) (by lia))
 have al2:K13.ba [.int z,.int z]=some (.sh (.bl true)):=K13.fQ 4 _ trivial;have cp:K51.ku [dM M]=some (.ow (M.map aI)):=by
  have cG:=K12.Fp M;have lG:M.length<=dg:=dA (by lia)
  simp_arith [K51.ku,K51.wX,cG,lG]
 have sM:(M.map aI).map aE=M.map dI:=by rw[mPq];exact mCq fun r _=>cH r
 have fd:=NK z;have mk:∀S:AS,S[7]?.join=some (.sh (.int z))->zX "Draw" ["road"] (ai (aq 7) aG) S=some (.sh (dz z),S):=fun S h=>by
  simp_arith [MZ,h]
  rfl
 have is:∀S:AS,S[9]?.join=some (.sh (dz z))->HS "Draw" true (aq 9) S=some (.bl true,S):=fun S h=>by
  unfold HS
  simp_arith [h]
 rcases LU (z:=z) hm hf hl hz with ⟨w,y,e1,e2,e3⟩|⟨G,e1,e2,g1,g2⟩
 .have al3:K13.ba [.list [.str "refused", .list [.tup [.str w,.int y]]],.list [.str "refused", .list [.tup [.str w,.int y]]]]=some (.sh (.bl true)):=K13.fQ 4 _ (K13.BU w y);have a0:atI [D.str "refused", .list [.tup [.str w,.int y]]] 0=some (.str "refused"):=rfl;have ne:decide ((("refused" : Str)) = "map")=false:=by decide
  unfold oq at e1 e2 e3
  simp_arith [tl,h5,e1,mk,is,pA,i3,tq,al0,cp,e2,sM,al3,al1,a0,ne,e3,fd,al2]
 .have al3:K13.ba [.list [.str "map", .list (G.map dI)],.list [.str "map", .list (G.map dI)]]=some (.sh (.bl true)):=K13.fQ 4 _ (K13.EU G g1 g2);have a0:atI [D.str "map", .list (G.map dI)] 0=some (.str "map"):=rfl;have sG:(G.map aI).map aE=G.map dI:=by rw[mPq];exact mCq fun r _=>cH r
  have sp:=fun a b c d e f g h i j k l=>@GJ G g2 a b c d e f g h i j k l
  unfold vQ at e1 e2
  simp_arith [tl,h5,e1,mk,is,pA,i3,tq,al0,cp,e2,sM,sG,al3,al1,a0,sp,fd,al2]
def md:MS:=(aJ (aZ 5 (bj K13.jW (au (aH 2) aK)))
 (aJ (aZ 6 (oH (lOf (eX (lu (bj Zl.aX (au (aH 5) aK))) [] (dC (bV A0 (aq 0) (rC (.int 0)))) (aH 0))) (lOf (cW (au (kSc (bV sD (aq 1) (rC (.int 65)))) aK)))))
 (aJ (aZ 7 (kSc (bV sD (aq 6) (bV il (cK Zl.aV (ai (aq 0) (ai (rC (.int 4)) aG))) (kF iz (ai (aq 6) aG))))))
 (aJ (jl (wx (dC (bV A0 (aq 3) (rC (.int 7)))) (dC (bV yV (bV il (cK Zl.aV (ai (aq 0) (ai (rC (.int 4)) aG))) (rC (.int 3))) (rC (.int 1))))) (aZ 7 (kSc (bV sD (aq 1) (rC (.int 64))))) bG) K25.tl))))
theorem Jq:FK=(aJ (aZ 1 (bj K12.gP (au (aH 0) aK)))
 (aJ (aZ 2 (bj Zl.aX (au (bj K12.jj (au (CC (jO 0) (iR (rC (.int 5))) (iR (rC (.int 65)))) (au (aH 1) aK))) aK)))
 (aJ (aZ 3 (kSc (bV il (cK Zl.aV (ai (aq 0) (ai (rC (.int 3)) aG))) (rC (.int 12)))))
 (aJ (jl (dC (bV A0 (aq 3) (rC (.int 7)))) (aJ (aZ 2 (oH (kE 2) (lOf (cW (au (cW (au (kSc (bV sD (aq 1) (rC (.int 64)))) (au (kSc (kr gn (bV sD (aq 1) (rC (.int 64))))) aK))) aK))))) (aJ (aZ 4 (kSc (kF iz (ai (rOf (eX (lu (aH 2)) [] (eh (xp (aq 0))) (aH 0))) aG)))) (aZ 2 (oH (kE 2) (lOf (eX (RD (ai (bV KH (bV lK (rC (.int 117)) (aq 3)) (aq 4)) aG)) [] gf (cW aK))))))) bG) K25.md)))):=rfl
theorem Tr{i j:Int}(h:0<j):il (.int i) (.int j)=some (.int (i % j)):=by
 show iD (0<j) _=_;rw[iV h]
theorem Gv{T:List (List Int)}(hnd:T.flatten.Nodup) (hng:∀e∈T.flatten, -e∈T.flatten) (hf:T.flatten.length<=128) (hl:T.length<=700) {ns nm:List Int}{n64 n65:Int}(p64:1<=n64) (p65:1<=n65) (a64:atI (nm.map D.int) 64=some (.int n64)) (a65:atI (nm.map D.int) 65=some (.int n65)) {w:Int}{v4:Option AV}{a2:AV}(h2:aE a2=dM T) :
  md [some (.sh (.scr ns)),some (.sh (dI nm)),some a2,some (.sh (.int w)),v4,none,none,none,none,none,none,none,none]=some (.rt (.sh (.bl true))):=by
 have mo:=K13.B1 (rs:=T) (fun r hr=>by have:=ro hr;lia) (dA (by lia))
 have hM:(mw (T.map good)).flatten.length<=128:=by rw[(kJ T).length_eq];exact hf
 have hMl:(mw (T.map good)).length<=700:=by rw[lD,lMq];exact hl
 have mp:Mp (mw (T.map good)):=⟨(kJ T).nodup_iff.mpr hnd,by lia,by lia,fun e he=>(kJ T).mem_iff.mpr (hng e ((kJ T).mem_iff.mp he))⟩
 generalize mw (T.map good)=M at mo hM hMl mp;have tm:=kZ (rs:=M) (by lia)
 have sM:(M.map aI).map aE=M.map dI:=by rw[mPq];exact mCq fun r _=>cH r
 have fc:=He M.flatten;have c4:aV [.scr ns,.int 4]=some (.sh (.int (cell ns 4))):=qa ns (by decide)
 generalize cell ns 4=c at c4;have hR:(M.flatten.filter fun z=>decide (0<z)).length<=128:=Wi (WI _ _) hM
 have hRp:∀x∈M.flatten.filter fun z=>decide (0<z),1<=x:=fun x hx=>by have:=of_decide_eq_true (WD.mp hx).2;lia
 generalize (M.flatten.filter fun z=>decide (0<z))=R at fc hR hRp
 have l1:M.flatten.length<=dg:=dA (by lia)
 have sR:(R.map fun n=>AV.sh (D.int n)).map aE=R.map D.int:=by rw[mPq];exact mCq fun r _=>by simp
 have l2:R.length+1<=dg:=dA (by lia)
 have rl:(R.map D.int++[D.int n65]).length=R.length+1:=by simp
 have pos:(0:Int)<((R.length+1:Nat):Int):=by lia
 obtain⟨z,hz,hzp⟩:∃z,atI (R.map D.int++[D.int n65]) (c % ((R.length+1:Nat):Int))=some (.int z)/\1<=z:=by
  have b1:=WG c (b:=((R.length+1:Nat):Int)) (by lia)
  have b2:=Wq c pos;rw[xu b1];have e:R.map D.int++[D.int n65]=(R++[n65]).map D.int:=by simp
  rw[e,gMq];have hi:(c % ((R.length+1:Nat):Int)).toNat<(R++[n65]).length:=by rw[lAq,lSq];lia
  rw[gEg hi];refine⟨_,rfl,?_⟩;rcases mAq.mp (gRq hi) with q|q
  .exact hRp _ q
  .rw [mSq.mp q];exact p65
 have t1:=fun v0 v1 v2 v3 v4 v6=>@M4 M z mp (by lia) hM hMl v0 v1 v2 v3 v4 v6 (.sh (dM M)) (by simp)
 have t3:=fun v0 v1 v2 v3 v4 v6=>@M4 M n64 mp (by lia) hM hMl v0 v1 v2 v3 v4 v6 (.sh (dM M)) (by simp)
 have m1:il (.int c) (.int ((R.length+1:Nat):Int))=some (.int (c % ((R.length+1:Nat):Int))):=Tr pos;have m2:il (.int c) (.int 3)=some (.int (c % 3)):=Tr (by decide)
 by_cases c7:(7:Int)<w
 .by_cases c1:c % 3=1
  .simp_arith [md,h2,mo,sM,tm,l1,fc,sR,a65,l2,c4,rl,m1,m2,hz,c7,c1,a64,t3]
  .simp_arith [md,h2,mo,sM,tm,l1,fc,sR,a65,l2,c4,rl,m1,m2,hz,c7,c1,t1]
 .simp_arith [md,h2,mo,sM,tm,l1,fc,sR,a65,l2,c4,rl,m1,m2,hz,c7,t1]
theorem Kk(rs:List (List Int)):bare rs<=rs.length:=List.countP_le_length
theorem Ee(k:Nat):dh gf (cW aK) [] (cS 0 k)=some ((VM k ([]:List Int)).map aI):=by
 rw[Z.jy fun _=>AV.ow []]
 .rw [Zg,List.map_const',fP];rfl
 .intro d hd;refine⟨[some (.sh d)],?_⟩
  simp_arith []
theorem OA{ns:List Int}(hns:ns.length<=63):Cn [.scr ns]=some (.sh (.bl true)):=by
 obtain⟨st,sh,a,b,h1,h1',h2,h2',h3,h4,en⟩:=K12.Gq ns;have hnm:=K12.Pd (b:=b) h1 h1' h2 h2' h3 h4;generalize K12.MC st sh a b=nm at en hnm;have hcs:iU ns (some 5) (some 65)=(ns.drop 5).take 60:=Gf ns 5 65;have hl:((ns.drop 5).take 60).length<=63:=by rw[lTq];lia
 generalize (ns.drop 5).take 60=cs at hcs hl;obtain⟨P,u,ep,pp,hu,l1,l2⟩:=K12.GE (nm:=nm) hl hnm.len;have hP:=K12.Qr hnm pp hu l1 l2;have sP:=K12.CA P;have he:=hP.le;have fl:aX [.list (P.map dM)]=some (K13.oM P.flatten):=K13.PB (ms:=P) (by lia)
 have hnd:=hP.nd;have hng:=hP.ng;have fresh:∀{x:Int},nm[64]?=some x->x∉P.flatten.flatten/\-x∉P.flatten.flatten:=fun {x} hx=>by
  have lx:=hnm.lo x (mGq hx);have key:∀z,z=x∨z = -x->z∉P.flatten.flatten:=fun z hz q=>by
   obtain⟨y,hy,e⟩:=K12.qC.mp (pp.mem_iff.mp q);have ly:=hnm.lo y (V3 hy);have:y=x:=by lia
   subst this;obtain⟨j,hj⟩:=Wn.mp hy;have hj2:=(gSq.mp hj).1;rw[lTq]at hj2;rw[Ww (by lia)]at hj
   have:=(Zp (i:=64) (j:=j) (by have:=hnm.len;lia) hnm.nd).mp (by rw[hx,hj])
   lia
  exact⟨key x (.inl rfl),key (-x) (.inr rfl)⟩
 generalize P.flatten=Q at fl l1 he hnd hng fresh;have so:=K13.Ab Q;have sQ:(Q.map fun r=>AV.sh (dI r)).map aE=Q.map dI:=by rw[mPq];exact mCq fun r _=>by simp
 have sN:=cH nm;have hnl:=hnm.len;obtain⟨n64,e64⟩:∃x,nm[64]?=some x:=⟨_,gEg (by lia)⟩
 obtain⟨n65,e65⟩:∃x,nm[65]?=some x:=⟨_,gEg (by lia)⟩
 have p64:=hnm.lo n64 (mGq e64);have p65:=hnm.lo n65 (mGq e65);have a64:atI (nm.map D.int) 64=some (.int n64):=qE (j:=64) (by rw[gMq,e64];rfl)
 have a65:atI (nm.map D.int) 65=some (.int n65):=qE (j:=65) (by rw[gMq,e65];rfl)
 have c3:aV [.scr ns,.int 3]=some (.sh (.int (cell ns 3))):=qa ns (by decide)
 have w0:=WG (cell ns 3) (b:=12) (by decide)
 have w1:=Wq (cell ns 3) (b:=12) (by decide)
 have m3:il (.int (cell ns 3)) (.int 12)=some (.int (cell ns 3 % 12)):=Tr (by decide)
 generalize cell ns 3 % 12=w at m3 w0 w1
 by_cases c7:(7:Int)<w
 .have q1:Q.map dI++[D.list [D.int n64,D.int (-n64)]]=(Q++[[n64, -n64]]).map dI:=by rw[mBq];rfl
  have lT:(Q++[[n64, -n64]]).length=Q.length+1:=by simp
  have fT:(Q++[[n64, -n64]]).flatten.length=Q.flatten.length+2:=by simp
  have l3:Q.length+1<=dg:=dA (by lia)
  obtain⟨g1,g2⟩:=fresh e64;have tnd:(Q++[[n64, -n64]]).flatten.Nodup:=by
   rw[fAq,nAq];refine⟨hnd,by simp;lia,fun x hx y hy q=>?_⟩
   subst q;simp at hy;rcases hy with rfl|rfl
   .exact g1 hx
   .exact g2 hx
  have tng:∀e∈(Q++[[n64, -n64]]).flatten, -e∈(Q++[[n64, -n64]]).flatten:=fun e he=>by
   rw[fAq,mAq]at he ⊢;rcases he with q|q
   .exact .inl (hng e q)
   .right;simp at q ⊢;lia
  generalize Q++[[n64, -n64]]=T at q1 lT fT tnd tng;have em:=K23.rm T;have fb:=K23.rn T;have bl:=Kk T;have lT1:T.length<=dg:=dA (by lia)
  obtain⟨k,hk⟩:∃k:Nat,117+w-((bare T:Nat):Int)=(k:Int):=⟨(117+w-((bare T:Nat):Int)).toNat,by lia⟩
  have rg:=tO (n:=k) (by lia)
  have nc:=Ee k;have rd:=fP 0 k;have l4:k<=dg:=dA (by lia)
  have l5:Q.length+1+k<=dg:=dA (by lia)
  have sK:((VM k ([]:List Int)).map aI).map aE=(VM k ([]:List Int)).map dI:=by rw[mPq];exact mCq fun r _=>cH r
  have q2:T.map dI++(VM k ([]:List Int)).map dI=(T++VM k []).map dI:=by rw[mBq]
  have lR:(VM k ([]:List Int)).length=k:=Xu;have fR:(T++VM k ([]:List Int)).flatten=T.flatten:=by simp
  have t:=fun v4 a2 h=>@Gv (T++VM k []) (by rw[fR];exact tnd) (by rw[fR];exact tng) (by rw[fR];lia) (by rw[lAq,lR];lia) ns nm n64 n65 p64 p65 a64 a65 w v4 a2 h
  have sT:aE (.ow ((T++VM k []).map fun r=>AV.sh (dI r)))=dM (T++VM k []):=K13.Ab _
  have t2:=fun v4=>t v4 _ sT
  simp_arith [Cn,Jq,en,sN,gq,hcs,ep,sP,fl,c3,m3,c7,K13.oM,sQ,a64,q1,l3,em,fb,hk,rg,nc,rd,l4,l5,sK,q2,lR,lT1,lT,t2]
 .have t:=fun v4 a2 h=>@Gv Q hnd hng (by lia) (by lia) ns nm n64 n65 p64 p65 a64 a65 w v4 a2 h
  have t2:=fun v4=>t v4 _ so
  simp_arith [Cn,Jq,en,sN,gq,hcs,ep,sP,fl,c3,m3,c7,t2]
end K25
namespace K25
open PySem L2 Mr Z Xe
theorem Ot{l:W.OpenLaw}{w:World}{K:W.Frag}{h:Heap}{mg:Str->Option Value}{fa:Addr}(X:K.In h) (G:h.Ns mainGlobals mg) (hfa:mg "law" = some (.ref fa))
  {M:Addr}
  {gV:Addr}
  {yw:Addr}
  {kH:Addr}
  {rK:Addr}
  {mj:Addr}
  {ym:Addr}{OW NG Nf Ny GX Pz:Value}{Of NJ:Option Addr}{OJ:Array (Option Value)}
  {eO:Addr}
  {tw:Addr}{LL LF Ka KY CB LP:Value}{K1 JU:Option Addr}{Lh:Array (Option Value)}
  {Az:Addr}
  (a0:W.nsIn K mainGlobals "turned" = some (some (.ref f0))) (l0:K.lookup f0=some ⟨oc0,od0,.func (W.fnOf "turned" "turned" (aT ik) (aO ik) (aj ik) .none kV0 dc0 pm0 an0 cd0 ct0),sl0⟩) (c0:W.codeIn K cd0 "turned" = true) (k0:W.keepIn K (.ref f0)=true)
  (a1:W.nsIn K mainGlobals "told_ends" = some (some (.ref f1))) (l1:K.lookup f1=some ⟨oc1,od1,.func (W.fnOf "told_ends" "told_ends" (aT cV) (aO cV) (aj cV) .none kV1 dc1 pm1 an1 cd1 ct1),sl1⟩) (c1:W.codeIn K cd1 "told_ends" = true) (k1:W.keepIn K (.ref f1)=true)
  (a2:W.nsIn K mainGlobals "refuse_too_many" = some (some (.ref f2))) (l2:K.lookup f2=some ⟨oc2,od2,.func (W.fnOf "refuse_too_many" "refuse_too_many" (aT bU) (aO bU) (aj bU) .none kV2 dc2 pm2 an2 cd2 ct2),sl2⟩) (c2:W.codeIn K cd2 "refuse_too_many" = true) (k2:W.keepIn K (.ref f2)=true)
  (a3:W.nsIn K mainGlobals "in_good_order" = some (some (.ref f3))) (l3:K.lookup f3=some ⟨oc3,od3,.func (W.fnOf "in_good_order" "in_good_order" (aT bZ) (aO bZ) (aj bZ) .none kV3 dc3 pm3 an3 cd3 ct3),sl3⟩) (c3:W.codeIn K cd3 "in_good_order" = true) (k3:W.keepIn K (.ref f3)=true)
  (a4:W.nsIn K mainGlobals "ends_of" = some (some (.ref f4))) (l4:K.lookup f4=some ⟨oc4,od4,.func (W.fnOf "ends_of" "ends_of" (aT gg) (aO gg) (aj gg) .none kV4 dc4 pm4 an4 cd4 ct4),sl4⟩) (c4:W.codeIn K cd4 "ends_of" = true) (k4:W.keepIn K (.ref f4)=true)
  (a5:W.nsIn K mainGlobals "nexts" = some (some (.ref f5))) (l5:K.lookup f5=some ⟨oc5,od5,.func (W.fnOf "nexts" "nexts" (aT jZ) (aO jZ) (aj jZ) .none kV5 dc5 pm5 an5 cd5 ct5),sl5⟩) (c5:W.codeIn K cd5 "nexts" = true) (k5:W.keepIn K (.ref f5)=true)
  (a6:W.nsIn K mainGlobals "onwards" = some (some (.ref f6))) (l6:K.lookup f6=some ⟨oc6,od6,.func (W.fnOf "onwards" "onwards" (aT fZ) (aO fZ) (aj fZ) .none kV6 dc6 pm6 an6 cd6 ct6),sl6⟩) (c6:W.codeIn K cd6 "onwards" = true) (k6:W.keepIn K (.ref f6)=true)
  (a7:W.nsIn K mainGlobals "gone_round" = some (some (.ref f7))) (l7:K.lookup f7=some ⟨oc7,od7,.func (W.fnOf "gone_round" "gone_round" (aT du) (aO du) (aj du) .none kV7 dc7 pm7 an7 cd7 ct7),sl7⟩) (c7:W.codeIn K cd7 "gone_round" = true) (k7:W.keepIn K (.ref f7)=true)
  (a8:W.nsIn K mainGlobals "lands" = some (some (.ref f8))) (l8:K.lookup f8=some ⟨oc8,od8,.func (W.fnOf "lands" "lands" (aT iY) (aO iY) (aj iY) .none kV8 dc8 pm8 an8 cd8 ct8),sl8⟩) (c8:W.codeIn K cd8 "lands" = true) (k8:W.keepIn K (.ref f8)=true)
  (a9:W.nsIn K mainGlobals "settled" = some (some (.ref f9))) (l9:K.lookup f9=some ⟨oc9,od9,.func (W.fnOf "settled" "settled" (aT fX) (aO fX) (aj fX) .none kV9 dc9 pm9 an9 cd9 ct9),sl9⟩) (c9:W.codeIn K cd9 "settled" = true) (k9:W.keepIn K (.ref f9)=true)
  (a10:W.nsIn K mainGlobals "thinned" = some (some (.ref f10))) (l10:K.lookup f10=some ⟨oc10,od10,.func (W.fnOf "thinned" "thinned" (aT gc) (aO gc) (aj gc) .none kV10 dc10 pm10 an10 cd10 ct10),sl10⟩) (c10:W.codeIn K cd10 "thinned" = true) (k10:W.keepIn K (.ref f10)=true)
  (a11:W.nsIn K mainGlobals "without_road" = some (some (.ref f11))) (l11:K.lookup f11=some ⟨oc11,od11,.func (W.fnOf "without_road" "without_road" (aT cI) (aO cI) (aj cI) .none kV11 dc11 pm11 an11 cd11 ct11),sl11⟩) (c11:W.codeIn K cd11 "without_road" = true) (k11:W.keepIn K (.ref f11)=true)
  (a13:W.nsIn K mainGlobals "refuse_as_done" = some (some (.ref f13))) (l13:K.lookup f13=some ⟨oc13,od13,.func (W.fnOf "refuse_as_done" "refuse_as_done" (aT cg) (aO cg) (aj cg) .none kV13 dc13 pm13 an13 cd13 ct13),sl13⟩) (c13:W.codeIn K cd13 "refuse_as_done" = true) (k13:W.keepIn K (.ref f13)=true)
  (a15:W.nsIn K mainGlobals "done_over" = some (some (.ref f15))) (l15:K.lookup f15=some ⟨oc15,od15,.func (W.fnOf "done_over" "done_over" (aT dZ) (aO dZ) (aj dZ) .none kV15 dc15 pm15 an15 cd15 ct15),sl15⟩) (c15:W.codeIn K cd15 "done_over" = true) (k15:W.keepIn K (.ref f15)=true)
  (a17:W.nsIn K mainGlobals "back_over" = some (some (.ref f17))) (l17:K.lookup f17=some ⟨oc17,od17,.func (W.fnOf "back_over" "back_over" (aT ef) (aO ef) (aj ef) .none kV17 dc17 pm17 an17 cd17 ct17),sl17⟩) (c17:W.codeIn K cd17 "back_over" = true) (k17:W.keepIn K (.ref f17)=true)
  (a18:W.nsIn K mainGlobals "_law_cell" = some (some (.ref f18))) (l18:K.lookup f18=some ⟨oc18,od18,.func (W.fnOf "_law_cell" "_law_cell" (aT gL) (aO gL) (aj gL) .none kV18 dc18 pm18 an18 cd18 ct18),sl18⟩) (c18:W.codeIn K cd18 "_law_cell" = true) (k18:W.keepIn K (.ref f18)=true)
  (a19:W.nsIn K mainGlobals "_law_names" = some (some (.ref f19))) (l19:K.lookup f19=some ⟨oc19,od19,.func (W.fnOf "_law_names" "_law_names" (aT gh) (aO gh) (aj gh) .none kV19 dc19 pm19 an19 cd19 ct19),sl19⟩) (c19:W.codeIn K cd19 "_law_names" = true) (k19:W.keepIn K (.ref f19)=true)
  (a20:W.nsIn K mainGlobals "_law_parts" = some (some (.ref f20))) (l20:K.lookup f20=some ⟨oc20,od20,.func (W.fnOf "_law_parts" "_law_parts" (aT gj) (aO gj) (aj gj) .none kV20 dc20 pm20 an20 cd20 ct20),sl20⟩) (c20:W.codeIn K cd20 "_law_parts" = true) (k20:W.keepIn K (.ref f20)=true)
  (a21:W.nsIn K mainGlobals "_law_turn" = some (some (.ref f21))) (l21:K.lookup f21=some ⟨oc21,od21,.func (W.fnOf "_law_turn" "_law_turn" (aT iy) (aO iy) (aj iy) .none kV21 dc21 pm21 an21 cd21 ct21),sl21⟩) (c21:W.codeIn K cd21 "_law_turn" = true) (k21:W.keepIn K (.ref f21)=true)
  (a22:W.nsIn K mainGlobals "_law_map" = some (some (.ref f22))) (l22:K.lookup f22=some ⟨oc22,od22,.func (W.fnOf "_law_map" "_law_map" (aT iT) (aO iT) (aj iT) .none kV22 dc22 pm22 an22 cd22 ct22),sl22⟩) (c22:W.codeIn K cd22 "_law_map" = true) (k22:W.keepIn K (.ref f22)=true)
  (a23:W.nsIn K mainGlobals "_law_all" = some (some (.ref f23))) (l23:K.lookup f23=some ⟨oc23,od23,.func (W.fnOf "_law_all" "_law_all" (aT iS) (aO iS) (aj iS) .none kV23 dc23 pm23 an23 cd23 ct23),sl23⟩) (c23:W.codeIn K cd23 "_law_all" = true) (k23:W.keepIn K (.ref f23)=true)
  (a24:W.nsIn K mainGlobals "_law_alike" = some (some (.ref f24))) (l24:K.lookup f24=some ⟨oc24,od24,.func (W.fnOf "_law_alike" "_law_alike" (aT dS) (aO dS) (aj dS) .none kV24 dc24 pm24 an24 cd24 ct24),sl24⟩) (c24:W.codeIn K cd24 "_law_alike" = true) (k24:W.keepIn K (.ref f24)=true)
  (a25:W.nsIn K mainGlobals "_law_copy" = some (some (.ref f25))) (l25:K.lookup f25=some ⟨oc25,od25,.func (W.fnOf "_law_copy" "_law_copy" (aT iq) (aO iq) (aj iq) .none kV25 dc25 pm25 an25 cd25 ct25),sl25⟩) (c25:W.codeIn K cd25 "_law_copy" = true) (k25:W.keepIn K (.ref f25)=true)
  (a26:W.nsIn K mainGlobals "_law_kind" = some (some (.ref f26))) (l26:K.lookup f26=some ⟨oc26,od26,.func (W.fnOf "_law_kind" "_law_kind" (aT gu) (aO gu) (aj gu) .none kV26 dc26 pm26 an26 cd26 ct26),sl26⟩) (c26:W.codeIn K cd26 "_law_kind" = true) (k26:W.keepIn K (.ref f26)=true)
  (a28:W.nsIn K mainGlobals "_law_done" = some (some (.ref f28))) (l28:K.lookup f28=some ⟨oc28,od28,.func (W.fnOf "_law_done" "_law_done" (aT hX) (aO hX) (aj hX) .none kV28 dc28 pm28 an28 cd28 ct28),sl28⟩) (c28:W.codeIn K cd28 "_law_done" = true) (k28:W.keepIn K (.ref f28)=true)
  (a29:W.nsIn K mainGlobals "_law_behind" = some (some (.ref f29))) (l29:K.lookup f29=some ⟨oc29,od29,.func (W.fnOf "_law_behind" "_law_behind" (aT eU) (aO eU) (aj eU) .none kV29 dc29 pm29 an29 cd29 ct29),sl29⟩) (c29:W.codeIn K cd29 "_law_behind" = true) (k29:W.keepIn K (.ref f29)=true)
  (a30:W.nsIn K mainGlobals "_law_draw" = some (some (.ref f30))) (l30:K.lookup f30=some ⟨oc30,od30,.func (W.fnOf "_law_draw" "_law_draw" (aT hV) (aO hV) (aj hV) .none kV30 dc30 pm30 an30 cd30 ct30),sl30⟩) (c30:W.codeIn K cd30 "_law_draw" = true) (k30:W.keepIn K (.ref f30)=true)
  (a32:W.nsIn K mainGlobals "_law_back" = some (some (.ref f32))) (l32:K.lookup f32=some ⟨oc32,od32,.func (W.fnOf "_law_back" "_law_back" (aT iC) (aO iC) (aj iC) .none kV32 dc32 pm32 an32 cd32 ct32),sl32⟩) (c32:W.codeIn K cd32 "_law_back" = true) (k32:W.keepIn K (.ref f32)=true)
  (a34:W.nsIn K mainGlobals "law" = some (some (.ref f34))) (l34:K.lookup f34=some ⟨oc34,od34,.func (W.fnOf "law" "law" (aT nY) (aO nY) (aj nY) .none kV34 dc34 pm34 an34 cd34 ct34),sl34⟩) (c34:W.codeIn K cd34 "law" = true) (k34:W.keepIn K (.ref f34)=true)
  (aM:W.nsIn K mainGlobals "MapError" = some (some (.ref M))) (xM:kc K "MapError" M jD=true)
  (rM:W.readsIn K M (.type "type")=true) (sM:W.specialIn K (.ref M) "__getattribute__" = some (some (.builtin "type.__getattribute__"))) (fM:W.findCls K (.ref M) (.type "type") "__init__" = some (.val (.builtin "ValueError.__init__")))
  (a_NotThere:W.nsIn K mainGlobals "NotThere" = some (some (.ref gV))) (x_NotThere:kc K "NotThere" gV (.ref M::jD)=true) (l_NotThere:Ov K gV=true)
  (n_NotThere:W.findIn K (.ref gV) "__init__" = some (some (.ref j_NotThere))) (e_NotThere:K.lookup j_NotThere=some ⟨oc_NotThere,od_NotThere,.func (W.fnOf "__init__" "NotThere.__init__" (aT ij) (aO ij) (aj ij) .none kV_NotThere dc_NotThere pm_NotThere an_NotThere cd_NotThere ct_NotThere),sl_NotThere⟩) (d_NotThere:W.codeIn K cd_NotThere "NotThere.__init__" = true) (k_NotThere:W.keepIn K (.ref j_NotThere)=true) (fn_NotThere:W.isFn K (.ref j_NotThere)=true) (kp_NotThere:W.keepIn K (.ref gV)=true) (nf_NotThere:W.findIn K (.ref gV) "end" = some none)
  (a_Taken:W.nsIn K mainGlobals "Taken" = some (some (.ref yw))) (x_Taken:kc K "Taken" yw (.ref M::jD)=true) (l_Taken:Ov K yw=true)
  (a_TooMany:W.nsIn K mainGlobals "TooMany" = some (some (.ref kH))) (x_TooMany:kc K "TooMany" kH (.ref M::jD)=true) (l_TooMany:Ov K kH=true)
  (n_TooMany:W.findIn K (.ref kH) "__init__" = some (some (.builtin "ValueError.__init__"))) (kp_TooMany:W.keepIn K (.ref kH)=true)
  (a_NoPlace:W.nsIn K mainGlobals "NoPlace" = some (some (.ref rK))) (x_NoPlace:kc K "NoPlace" rK (.ref M::jD)=true) (l_NoPlace:Ov K rK=true)
  (bve:W.nsIn K mainGlobals "ValueError" = some none)
  (btu:W.nsIn K mainGlobals "tuple" = some none)
  (oa_Cut:W.nsIn K mainGlobals "Cut" = some (some (.ref mj))) (og_Cut:W.plainGet K mj Str.empty=true) (oh_Cut:W.hasDictIn K mj=true) (oo_Cut:W.plainOver K mj=true) (os_Cut:W.findIn K (.ref mj) "__setattr__" = some (some (.builtin "object.__setattr__")))
  (on_Cut_road:W.findIn K (.ref mj) "road" = some none)
  (om_Cut:W.makesIn K mj=true) (oi_Cut:W.findIn K (.ref mj) "__init__" = some (some (.ref ym))) (of_Cut:W.isFn K (.ref ym)=true) (ok_Cut:W.keepIn K (.ref mj)=true)
  (ol_Cut:K.lookup ym=some ⟨OW,Of,.func (W.fnOf "__init__" "Cut.__init__" (aT uS) (aO uS) (aj uS) .none NG Nf Ny NJ GX Pz),OJ⟩) (oc_Cut:W.codeIn K GX "Cut.__init__" = true) (ob_Cut:W.keepIn K (.ref ym)=true)
  (oa_Draw:W.nsIn K mainGlobals "Draw" = some (some (.ref eO))) (og_Draw:W.plainGet K eO Str.empty=true) (oh_Draw:W.hasDictIn K eO=true) (oo_Draw:W.plainOver K eO=true) (os_Draw:W.findIn K (.ref eO) "__setattr__" = some (some (.builtin "object.__setattr__")))
  (on_Draw_road:W.findIn K (.ref eO) "road" = some none)
  (om_Draw:W.makesIn K eO=true) (oi_Draw:W.findIn K (.ref eO) "__init__" = some (some (.ref tw))) (of_Draw:W.isFn K (.ref tw)=true) (ok_Draw:W.keepIn K (.ref eO)=true)
  (ol_Draw:K.lookup tw=some ⟨LL,K1,.func (W.fnOf "__init__" "Draw.__init__" (aT qb) (aO qb) (aj qb) .none LF Ka KY JU CB LP),Lh⟩) (oc_Draw:W.codeIn K CB "Draw.__init__" = true) (ob_Draw:W.keepIn K (.ref tw)=true)
  (oa_Change:W.nsIn K mainGlobals "Change" = some (some (.ref Az))) (ia_Draw:W.findIn K (.ref eO) "__class__" = some (some (.builtin "object.__class__"))) (ib_Draw:W.specialIn K (.builtin "object.__class__") "__get__" = some (some (.builtin "getset_descriptor.__get__"))) (id_Draw:W.takesIn K (.builtin "object.__class__")=some true) (ie_Draw:W.mroIn K eO (.type "object")=some true) (if_Draw:W.kitOne K (.ref eO) (.ref Az)=some true)
  (a12:W.findIn K (.ref mj) "done" = some (some (.ref f12))) (l12:K.lookup f12=some ⟨oc12,od12,.func (W.fnOf "done" "Cut.done" (aT jB) (aO jB) (aj jB) .none kV12 dc12 pm12 an12 cd12 ct12),sl12⟩) (c12:W.codeIn K cd12 "Cut.done" = true) (k12:W.keepIn K (.ref f12)=true) (i12:W.isFn K (.ref f12)=true)
  (a14:W.findIn K (.ref eO) "other" = some (some (.ref f14))) (l14:K.lookup f14=some ⟨oc14,od14,.func (W.fnOf "other" "Draw.other" (aT gw) (aO gw) (aj gw) .none kV14 dc14 pm14 an14 cd14 ct14),sl14⟩) (c14:W.codeIn K cd14 "Draw.other" = true) (k14:W.keepIn K (.ref f14)=true) (i14:W.isFn K (.ref f14)=true)
  (a16:W.findIn K (.ref mj) "back" = some (some (.ref f16))) (l16:K.lookup f16=some ⟨oc16,od16,.func (W.fnOf "back" "Cut.back" (aT jr) (aO jr) (aj jr) .none kV16 dc16 pm16 an16 cd16 ct16),sl16⟩) (c16:W.codeIn K cd16 "Cut.back" = true) (k16:W.keepIn K (.ref f16)=true) (i16:W.isFn K (.ref f16)=true)
  (a27:W.findIn K (.ref eO) "done" = some (some (.ref f27))) (l27:K.lookup f27=some ⟨oc27,od27,.func (W.fnOf "done" "Draw.done" (aT hW) (aO hW) (aj hW) .none kV27 dc27 pm27 an27 cd27 ct27),sl27⟩) (c27:W.codeIn K cd27 "Draw.done" = true) (k27:W.keepIn K (.ref f27)=true) (i27:W.isFn K (.ref f27)=true)
  (a31:W.findIn K (.ref eO) "back" = some (some (.ref f31))) (l31:K.lookup f31=some ⟨oc31,od31,.func (W.fnOf "back" "Draw.back" (aT iA) (aO iA) (aj iA) .none kV31 dc31 pm31 an31 cd31 ct31),sl31⟩) (c31:W.codeIn K cd31 "Draw.back" = true) (k31:W.keepIn K (.ref f31)=true) (i31:W.isFn K (.ref f31)=true)
  (a33:W.findIn K (.ref eO) "told" = some (some (.ref f33))) (l33:K.lookup f33=some ⟨oc33,od33,.func (W.fnOf "told" "Draw.told" (aT ir) (aO ir) (aj ir) .none kV33 dc33 pm33 an33 cd33 ct33),sl33⟩) (c33:W.codeIn K cd33 "Draw.told" = true) (k33:W.keepIn K (.ref f33)=true) (i33:W.isFn K (.ref f33)=true)
  {t_MOST_ENDS:Tok}(q_MOST_ENDS:W.nsIn K mainGlobals "MOST_ENDS" = some (some (.int 128 t_MOST_ENDS))) {t_MOST_BARE_PLACES:Tok}(q_MOST_BARE_PLACES:W.nsIn K mainGlobals "MOST_BARE_PLACES" = some (some (.int 128 t_MOST_BARE_PLACES)))
  (z0:W.nsIn K mainGlobals "len" = some none) (z1:W.nsIn K mainGlobals "min" = some none) (z2:W.nsIn K mainGlobals "max" = some none) (z3:W.nsIn K mainGlobals "abs" = some none) (z4:W.nsIn K mainGlobals "all" = some none) (z5:W.nsIn K mainGlobals "sorted" = some none) (z6:W.nsIn K mainGlobals "isinstance" = some none) (z7:W.nsIn K mainGlobals "list" = some none) (z8:W.nsIn K mainGlobals "int" = some none) (z9:W.nsIn K mainGlobals "bool" = some none) (z10:W.nsIn K mainGlobals "str" = some none) (z11:W.nsIn K mainGlobals "dict" = some none) (z12:W.nsIn K mainGlobals "zip" = some none) (z13:W.nsIn K mainGlobals "enumerate" = some none) (z14:W.nsIn K mainGlobals "range" = some none) (z15:W.nsIn K mainGlobals "reversed" = some none) :
  ∃fd:FuncData,(∀(s:Shared) (v:Value),BindsTo s fd ⟨[v],[]⟩ [("_law_script", v)])/\∀base:Heap,K.In base->base.Ns mainGlobals mg->jx l.prog w K mg base Fx 11 fa fd ["_law_script"] (Dc K):=by
 have e:=hfa.symm.trans (W.mg_of X G a34);cases e;have B:Bt mg:=⟨W.mg_none_of X G z0,W.mg_none_of X G z1,W.mg_none_of X G z2,W.mg_none_of X G z3,W.mg_none_of X G z4,W.mg_none_of X G z5,W.mg_none_of X G z6,W.mg_none_of X G z7,W.mg_none_of X G z8,W.mg_none_of X G z9,W.mg_none_of X G z10,W.mg_none_of X G z11,W.mg_none_of X G z12,W.mg_none_of X G z13,W.mg_none_of X G z14,W.mg_none_of X G z15⟩;have D0:fU K mg "turned" ik ["ends"] _ _:=⟨aB l0 c0 k0,W.mg_of X G a0,(aB l0 c0 k0).binds fun _ _ _ _ _ _ us hl=>match us,hl with|[_],_=>rfl⟩
 have D1:fU K mg "told_ends" cV ["turns"] _ _:=⟨aB l1 c1 k1,W.mg_of X G a1,(aB l1 c1 k1).binds fun _ _ _ _ _ _ us hl=>match us,hl with|[_],_=>rfl⟩
 have D2:fU K mg "refuse_too_many" bU ["turns"] _ _:=⟨aB l2 c2 k2,W.mg_of X G a2,(aB l2 c2 k2).binds fun _ _ _ _ _ _ us hl=>match us,hl with|[_],_=>rfl⟩
 have D3:fU K mg "in_good_order" bZ ["turns"] _ _:=⟨aB l3 c3 k3,W.mg_of X G a3,(aB l3 c3 k3).binds fun _ _ _ _ _ _ us hl=>match us,hl with|[_],_=>rfl⟩
 have D4:fU K mg "ends_of" gg ["m"] _ _:=⟨aB l4 c4 k4,W.mg_of X G a4,(aB l4 c4 k4).binds fun _ _ _ _ _ _ us hl=>match us,hl with|[_],_=>rfl⟩
 have D5:fU K mg "nexts" jZ ["m"] _ _:=⟨aB l5 c5 k5,W.mg_of X G a5,(aB l5 c5 k5).binds fun _ _ _ _ _ _ us hl=>match us,hl with|[_],_=>rfl⟩
 have D6:fU K mg "onwards" fZ ["m"] _ _:=⟨aB l6 c6 k6,W.mg_of X G a6,(aB l6 c6 k6).binds fun _ _ _ _ _ _ us hl=>match us,hl with|[_],_=>rfl⟩
 have D7:fU K mg "gone_round" du ["steps", "end"] _ _:=⟨aB l7 c7 k7,W.mg_of X G a7,(aB l7 c7 k7).binds fun _ _ _ _ _ _ us hl=>match us,hl with|[_,_],_=>rfl⟩
 have D8:fU K mg "lands" iY ["m"] _ _:=⟨aB l8 c8 k8,W.mg_of X G a8,(aB l8 c8 k8).binds fun _ _ _ _ _ _ us hl=>match us,hl with|[_],_=>rfl⟩
 have D9:fU K mg "settled" fX ["turns"] _ _:=⟨aB l9 c9 k9,W.mg_of X G a9,(aB l9 c9 k9).binds fun _ _ _ _ _ _ us hl=>match us,hl with|[_],_=>rfl⟩
 have D10:fU K mg "thinned" gc ["turn", "gone"] _ _:=⟨aB l10 c10 k10,W.mg_of X G a10,(aB l10 c10 k10).binds fun _ _ _ _ _ _ us hl=>match us,hl with|[_,_],_=>rfl⟩
 have D11:fU K mg "without_road" cI ["m", "road"] _ _:=⟨aB l11 c11 k11,W.mg_of X G a11,(aB l11 c11 k11).binds fun _ _ _ _ _ _ us hl=>match us,hl with|[_,_],_=>rfl⟩
 have D13:fU K mg "refuse_as_done" cg ["change", "m"] _ _:=⟨aB l13 c13 k13,W.mg_of X G a13,(aB l13 c13 k13).binds fun _ _ _ _ _ _ us hl=>match us,hl with|[_,_],_=>rfl⟩
 have D15:fU K mg "done_over" dZ ["change", "m"] _ _:=⟨aB l15 c15 k15,W.mg_of X G a15,(aB l15 c15 k15).binds fun _ _ _ _ _ _ us hl=>match us,hl with|[_,_],_=>rfl⟩
 have D17:fU K mg "back_over" ef ["change", "m"] _ _:=⟨aB l17 c17 k17,W.mg_of X G a17,(aB l17 c17 k17).binds fun _ _ _ _ _ _ us hl=>match us,hl with|[_,_],_=>rfl⟩
 have D18:fU K mg "_law_cell" gL ["_law_script", "_law_k"] _ _:=⟨aB l18 c18 k18,W.mg_of X G a18,(aB l18 c18 k18).binds fun _ _ _ _ _ _ us hl=>match us,hl with|[_,_],_=>rfl⟩
 have D19:fU K mg "_law_names" gh ["_law_script"] _ _:=⟨aB l19 c19 k19,W.mg_of X G a19,(aB l19 c19 k19).binds fun _ _ _ _ _ _ us hl=>match us,hl with|[_],_=>rfl⟩
 have D20:fU K mg "_law_parts" gj ["_law_cells", "_law_names_here"] _ _:=⟨aB l20 c20 k20,W.mg_of X G a20,(aB l20 c20 k20).binds fun _ _ _ _ _ _ us hl=>match us,hl with|[_,_],_=>rfl⟩
 have D21:fU K mg "_law_turn" iy ["_law_turn_here"] _ _:=⟨aB l21 c21 k21,W.mg_of X G a21,(aB l21 c21 k21).binds fun _ _ _ _ _ _ us hl=>match us,hl with|[_],_=>rfl⟩
 have D22:fU K mg "_law_map" iT ["_law_turns"] _ _:=⟨aB l22 c22 k22,W.mg_of X G a22,(aB l22 c22 k22).binds fun _ _ _ _ _ _ us hl=>match us,hl with|[_],_=>rfl⟩
 have D23:fU K mg "_law_all" iS ["_law_parts_here"] _ _:=⟨aB l23 c23 k23,W.mg_of X G a23,(aB l23 c23 k23).binds fun _ _ _ _ _ _ us hl=>match us,hl with|[_],_=>rfl⟩
 have D24:fU K mg "_law_alike" dS ["_law_found", "_law_due"] _ _:=⟨aB l24 c24 k24,W.mg_of X G a24,(aB l24 c24 k24).binds fun _ _ _ _ _ _ us hl=>match us,hl with|[_,_],_=>rfl⟩
 have D25:fU K mg "_law_copy" iq ["_law_m"] _ _:=⟨aB l25 c25 k25,W.mg_of X G a25,(aB l25 c25 k25).binds fun _ _ _ _ _ _ us hl=>match us,hl with|[_],_=>rfl⟩
 have D26:fU K mg "_law_kind" gu ["_law_e"] _ _:=⟨aB l26 c26 k26,W.mg_of X G a26,(aB l26 c26 k26).binds fun _ _ _ _ _ _ us hl=>match us,hl with|[_],_=>rfl⟩
 have D28:fU K mg "_law_done" hX ["_law_change", "_law_m"] _ _:=⟨aB l28 c28 k28,W.mg_of X G a28,(aB l28 c28 k28).binds fun _ _ _ _ _ _ us hl=>match us,hl with|[_,_],_=>rfl⟩
 have D29:fU K mg "_law_behind" eU ["_law_m", "_law_end"] _ _:=⟨aB l29 c29 k29,W.mg_of X G a29,(aB l29 c29 k29).binds fun _ _ _ _ _ _ us hl=>match us,hl with|[_,_],_=>rfl⟩
 have D30:fU K mg "_law_draw" hV ["_law_m", "_law_road"] _ _:=⟨aB l30 c30 k30,W.mg_of X G a30,(aB l30 c30 k30).binds fun _ _ _ _ _ _ us hl=>match us,hl with|[_,_],_=>rfl⟩
 have D32:fU K mg "_law_back" iC ["_law_change", "_law_m"] _ _:=⟨aB l32 c32 k32,W.mg_of X G a32,(aB l32 c32 k32).binds fun _ _ _ _ _ _ us hl=>match us,hl with|[_,_],_=>rfl⟩
 have D34:fU K mg "law" nY ["_law_script"] _ _:=⟨aB l34 c34 k34,W.mg_of X G a34,(aB l34 c34 k34).binds fun _ _ _ _ _ _ us hl=>match us,hl with|[_],_=>rfl⟩
 have g_MOST_ENDS:=W.mg_of X G q_MOST_ENDS;have g_MOST_BARE_PLACES:=W.mg_of X G q_MOST_BARE_PLACES;refine⟨W.fnOf "law" "law" (aT nY) (aO nY) (aj nY) .none kV34 dc34 pm34 an34 cd34 ct34,fun s v=>.of_eq rfl,fun base kb nb=>?_⟩
 have bTU:=W.mg_none_of X G btu;have cR:=Lu X G aM xM;have bVE:=W.mg_none_of X G bve;have R_NotThere:=xw a_NotThere aM x_NotThere xM l_NotThere;have dw:=yB (P:=l.prog) (w:=w) (base:=base) (aB e_NotThere d_NotThere k_NotThere) ((aB e_NotThere d_NotThere k_NotThere).binds fun _ _ _ _ _ _ us hl=>match us,hl with|[_,_],_=>rfl) R_NotThere (W.mg_of X G aM) rM sM fM n_NotThere fn_NotThere kp_NotThere nf_NotThere (W.mg_of X G a_NotThere)
 have R_Taken:=xw a_Taken aM x_Taken xM l_Taken;have tN:=FY X G R_Taken;have R_TooMany:=xw a_TooMany aM x_TooMany xM l_TooMany;have dk:=Lf X G R_TooMany n_TooMany kp_TooMany;have R_NoPlace:=xw a_NoPlace aM x_NoPlace xM l_NoPlace;have nA:=FY X G R_NoPlace;have dW:ko K "Cut" mj:=⟨oa_Cut,⟨og_Cut,oh_Cut,oo_Cut,os_Cut⟩⟩;have Ji:=Ke (P:=l.prog) (w:=w) (base:=base) (aB ol_Cut oc_Cut ob_Cut) ((aB ol_Cut oc_Cut ob_Cut).binds fun _ _ _ _ _ _ us hl=>match us,hl with|[_,_],_=>rfl) ⟨om_Cut,oi_Cut,of_Cut,ok_Cut⟩ dW.cl on_Cut_road (W.mg_of X G oa_Cut)
 have bg:ko K "Draw" eO:=⟨oa_Draw,⟨og_Draw,oh_Draw,oo_Draw,os_Draw⟩⟩;have Be:=Jy (P:=l.prog) (w:=w) (base:=base) (aB ol_Draw oc_Draw ob_Draw) ((aB ol_Draw oc_Draw ob_Draw).binds fun _ _ _ _ _ _ us hl=>match us,hl with|[_,_],_=>rfl) ⟨om_Draw,oi_Draw,of_Draw,ok_Draw⟩ bg.cl on_Draw_road (W.mg_of X G oa_Draw)
 have yJ:Ts K eO:=⟨ia_Draw,ib_Draw,id_Draw,ie_Draw⟩;have F0:=Fq (P:=l.prog) (w:=w) (base:=base) D0 B;have F1:=xX (P:=l.prog) (w:=w) (base:=base) D1 B;have F2:=oX (P:=l.prog) (w:=w) (base:=base) D2 B g_MOST_ENDS g_MOST_BARE_PLACES dk F1;have F3:=qZ (P:=l.prog) (w:=w) (base:=base) D3 B F0;have F4:=BP (P:=l.prog) (w:=w) (base:=base) D4 B F1;have F5:=Jh (P:=l.prog) (w:=w) (base:=base) D5 B;have F6:=Bq (P:=l.prog) (w:=w) (base:=base) D6 B F5;have F7:=vP (P:=l.prog) (w:=w) (base:=base) D7 B;have F8:=Jk (P:=l.prog) (w:=w) (base:=base) D8 B F6 F4 F3 F7;have F9:=Bv (P:=l.prog) (w:=w) (base:=base) D9 B F2 F3;have F10:=BZ (P:=l.prog) (w:=w) (base:=base) D10 B;have F11:=sJ (P:=l.prog) (w:=w) (base:=base) D11 B dw F9 F1 F10;have F12:=zI (P:=l.prog) (w:=w) (base:=base) (aB l12 c12 k12) ⟨a12,i12,k12⟩ ((aB l12 c12 k12).binds fun _ _ _ _ _ _ us hl=>match us,hl with|[_,_],_=>rfl) B F11 dW on_Cut_road
 have F13:=qh (P:=l.prog) (w:=w) (base:=base) D13 B dW on_Cut_road F12;have F14:=vG (P:=l.prog) (w:=w) (base:=base) (aB l14 c14 k14) ⟨a14,i14,k14⟩ ((aB l14 c14 k14).binds fun _ _ _ _ _ _ us hl=>match us,hl with|[_],_=>rfl) B dW on_Cut_road bg on_Draw_road Ji
 have F15:=xC (P:=l.prog) (w:=w) (base:=base) D15 B F8 dW on_Cut_road bg on_Draw_road F14 F12;have F16:=zu (P:=l.prog) (w:=w) (base:=base) (aB l16 c16 k16) ⟨a16,i16,k16⟩ ((aB l16 c16 k16).binds fun _ _ _ _ _ _ us hl=>match us,hl with|[_,_],_=>rfl) B F13 dW on_Cut_road
 have F17:=xW (P:=l.prog) (w:=w) (base:=base) D17 B F8 dW on_Cut_road bg on_Draw_road F14 F16;have F18:=DR (P:=l.prog) (w:=w) (base:=base) D18 B;have F19:=B0 (P:=l.prog) (w:=w) (base:=base) D19 B F18;have F20:=BV (P:=l.prog) (w:=w) (base:=base) D20 B;have F21:=EC (P:=l.prog) (w:=w) (base:=base) D21 B;have F22:=HN (P:=l.prog) (w:=w) (base:=base) D22 B F21;have F23:=Ie (P:=l.prog) (w:=w) (base:=base) D23 B;have F24:=BY (P:=l.prog) (w:=w) (base:=base) D24 B bTU;have F25:=DZ (P:=l.prog) (w:=w) (base:=base) D25 B;have F26:=Fo (P:=l.prog) (w:=w) (base:=base) D26 B dw tN dk nA bVE;have F27:=xH (P:=l.prog) (w:=w) (base:=base) (aB l27 c27 k27) ⟨a27,i27,k27⟩ ((aB l27 c27 k27).binds fun _ _ _ _ _ _ us hl=>match us,hl with|[_,_],_=>rfl) B F15 bg on_Draw_road
 have F28:=DU (P:=l.prog) (w:=w) (base:=base) D28 B cR F26 bg on_Draw_road F27;have F29:=Aw (P:=l.prog) (w:=w) (base:=base) D29 B;have F30:=ED (P:=l.prog) (w:=w) (base:=base) D30 B F29 F23 F22;have F31:=xR (P:=l.prog) (w:=w) (base:=base) (aB l31 c31 k31) ⟨a31,i31,k31⟩ ((aB l31 c31 k31).binds fun _ _ _ _ _ _ us hl=>match us,hl with|[_,_],_=>rfl) B F17 bg on_Draw_road
 have F32:=EN (P:=l.prog) (w:=w) (base:=base) D32 B cR F26 bg on_Draw_road F31;have F33:=xF (P:=l.prog) (w:=w) (base:=base) (aB l33 c33 k33) ⟨a33,i33,k33⟩ ((aB l33 c33 k33).binds fun _ _ _ _ _ _ us hl=>match us,hl with|[_],_=>rfl) B bg on_Draw_road
 have F34:=NI (P:=l.prog) (w:=w) (base:=base) D34 B F19 F23 F22 F30 F25 F28 F20 F18 F24 F32 bg on_Draw_road Be yJ if_Draw (W.mg_of X G oa_Change) F33;exact F34.ok.imp (Kr fun ns h=>OA h)
theorem SI{l:W.OpenLaw}{q:Program}{loose:List Str}{XP:(Str->Option Value)->Heap->Prop}{YP:World->Heap->Prop}{d:DefRec}{K:Params->W.Frag}(hn:l.most=some 63) (hdf:d.params.defaults=[])
  (hY:∀(w:World) (h:Heap),YP w h->(K w.params).In h)
  (F:∀(w:World) (mg:Str->Option Value) (fa:Addr) (h:Heap),(K w.params).In h->h.Ns mainGlobals mg->mg d.name=some (.ref fa) ->
   ∃fd:FuncData,(∀(s:Shared) (u:Value),BindsTo s fd ⟨[u],[]⟩ [("_law_script", u)])/\∀base:Heap,(K w.params).In base->base.Ns mainGlobals mg->jx l.prog w (K w.params) mg base Fx 11 fa fd ["_law_script"] (Dc (K w.params))) :
  W.WalkO q loose XP YP l.row.toRowW d [] (fun f vs=>PySem.call f vs) :=
 L2.KF (n:=63) (k:=11) (x := "_law_script") (CX:=fun _=>Fx) (sp:=fun w=>Dc (K w.params)) hn (by decide) hdf ⟨rfl,by decide,by decide⟩ hY F (fun _ _ a ns hl _ hS=>⟨a,ns,rfl,hS,hl,fun _=>rfl⟩) fun _ _ _ _ _ z=>z
end K25
structure PySem.W.Fast:Prop where(tw9645606815596112871 tw11157791049235423512 tw5182908925661693854 tw11186413691768042769 tw15440546607651429618 tw8095770496168260653 tw4169773154415073457 tw11681742529151312176 tw9778622422806105927 tw1753846602117309243 tw13249046116170301643 tw1052826966485772784 tw1137477586591720168 tw260333898212780163 tw4042930129697208982 tw14526900613579215538 tw979043113018728787 tw3600596354088855277 tw9835562651875297254 tw11671363077923045463 tw7287552814834898132 tw4188728291376581079 tw14977502556380316498 tw16492760207121455055 tw16661366481223640553 tw3235700037856854654 tw4967943162137348020 tw14348552172988924513 tw17536264206606349905 tw10042900428011843789 tw8416945023579505054 tw1381958571297223611 tw9016592463155244846 tw3524052641831500458 tw15113277391946603105 tw12674166620645663638 tw12876336971810246733 tw6800134340791589059 tw15648084672222947120 tw16828951617472915484 tw15282998882827458900 tw3784158793912977103 tw17458614441456243767 tw10891671199191560179 tw1621127351919800219 tw5904568672069426411 tw5118673667135404724 tw18247268974352365278 tw11522908293998107372 tw1043014317500844729 tw3120909891985675390 tw7107387724599981597 tw8010744696249671732 tw10999188375915746522 tw11464830990669596320 tw68104029600791648 tw13405334952458118075 tw14803664265588832171 tw12956175474441409770 tw3920237992542657329 tw16363812387486080701 tw9148536983927096059 tw3411805654173707999 tw10927347277430588599 tw11103961390405498495 tw8634856013558152861 tw17698346552492251940 tw9267202526173510421 tw15928030778706945348 tw3679085468763532754 tw15576796982298382687 tw17367077889888123785 tw14019166663414856718 tw18135747688436052640 tw13096447572309232839 tw10483753050805147237 tw2265390259608898679 tw11721184870949307176 tw13422516871692823821 tw8016089848280631398 tw10419821890058089477 tw15320347390707650528 tw7364520483959209291 tw10234742329165304862 tw16605562786488970616 tw15858789087457897600 tw14758597318954539141 tw18400130287666227638 tw15599640416997826611 tw8673771086140699367 tw16852752608661949049 tw12240277288080138619 tw10381161134918623847 tw5272231094457094230 tw13922180352973815637 tw12309708703016598111 tw18109954532157330936 tw496901823021096797 tw3666820518428507171 tw2537244207215581746 tw17178001519987628985 tw5404612240878402138 tw15406971163312260069 tw15514396770603198214 tw2614205254510391915 tw5423802488042797121 tw17885404127365635524 tw11876662223566094522 tw3969624011700670482 tw14439964996773686042 tw933893234733216319 tw3609080752796727263 tw6965850330159063818 tw11645418015295262510 tw12512346747989643416 tw2579675870026252590 tw3299659473116182296 tw14611781616421511815 tw14287323607896454408 tw3243923135059948372 tw15296670898551378802 tw10635201069293656406 tw1694406648040262735 tw1144548189309419240 tw7423222442132640868 tw5253962173290602145 tw8972640987494605761 tw2453718697894639912 tw1812362872405297886 tw17321307020842893422 tw8936993832246691209 tw17707921138577241138 tw444853818551558296 tw1172961457322632976 tw5293158587675949596 tw760415936462861239 tw13260876758005889707 tw7589092505836544794 tw3076864720769185994 tw9304259590083647396 tw349540180513285465 tw11941258048446857088 tw11141340887255983059 tw2280786022681815939 tw7836586219798791067 tw9944819915324246787 tw6210389303604291796 tw8682862599306208079 tw13389129039891541073 tw3068149146990313607 tw13189563087637642042 tw6738837730184039728 tw12856621353635706342 tw15949194763488600462 tw6206430732784839186 tw18297793808198432177 tw9959591807322371389 tw13516622487216092471 tw7456790806745188834 tw18087114246299324043 tw17726321099709041154 tw9584012754499597277 tw10151815538784731214 tw10631373184100446908 tw8772452695232343769 tw6424697254218817158 tw21860784481142347 tw2101978090341643501 tw8534071413723278082 tw1081494668046203188 tw1297105854357851959 tw2166675803256557143 tw14662978836495353944 tw8066995601022809604 tw3508167226980340763 tw14561235034403505368 tw18088513638251580458 tw7020246488290028183 tw1124469505879801727 tw13139767965084537350 tw11882203854628722586 tw6052125220169085487 tw2545070015103068589 tw16334488393521970468 tw5284088015181030318 tw16294147725072076877 tw8744102967386469691 tw1681197349460669235 tw639027670552522179 tw11320041711000852076 tw4916248907235075109 tw10816625655005247795 tw16370645171825118300 tw9924695123045345700 tw9411045501241371174 tw372197348557712547 tw13395611732271905084 tw6042998001008276072 tw9652217513475135944 tw4008887978432362270 tw14638531307233267328 tw2899200574163353580 tw7961617118487794158 tw17132510097299517490 tw2409565981772250439 tw15439454519212128510 tw14876951208769691595 tw10159843622743822297 tw17601024662339695609 tw9899945925870414103 tw14231392469914325378 tw16623584352975748550 tw9001458443011583414 tw17970127423062407936 tw10103452811459894715 tw7570647977072996537 tw10489439696435087169 tw155590887234224638 tw5155685241527677334 tw10031580433652135432 tw17522344370133835533 tw3368616345693530505 tw9106625927624775517 tw15170295665617833863 tw11440865114285398214 tw10398297168906430325 tw5983642476161913518 tw15290007740929417961 tw8466598924851950017 tw5630462933539001259 tw5511261989578142782 tw602728691551518744 tw8576708644509362438 tw6879428018185050606 tw1507608712310962532 tw16063829594902543809 tw13968590561775916683 tw17487727794546973652 tw11559292506840475102 tw8174298153728103341 tw7467158449878057623 tw13409333043312964964 tw5142733670179430351 tw12960029093142012390 tw17435390668266021118 tw8393867903012712411 tw18379483665678311213 tw8230481654000996472 tw4775248029121225205 tw16520257629742424615 tw13273000194858531329 tw7354206268731356424 tw16134773076072020504 tw11206344879949146265 tw12868579384801268286 tw12648569983568594084 tw15919324519539733727 tw1907199328115199096 tw8699778034211225734 tw10824224543128638020 tw7850813283265721119 tw14902651140396343396 tw15908642212829174475 tw3342841276399522395 tw13178959524358595504 tw1318164360450079264 tw14457469139777044605 tw14224202419695797520 tw18021775479351803131 tw12102389825719218564 tw11426584066749144295 tw18043996295325532639 tw11379963817817866711 tw15751936523237686256 tw17685303822665854785 tw9394382833791748899 tw8122256941859204910 tw10545663789688952264 tw15364975367284619461 tw11323866661053616339 tw12985775578633956100 tw3533969163427198142 tw11472451589216678939 tw5455447587638264239 tw2179363000143276902 tw7468594443993113636 tw3113071483951270189 tw18173255208482029221 tw16582445209551693501 tw2385123139154259343 tw2916030636144128999 tw10956918190049927350 tw16034292345369661324 tw5895328735864468738 tw7311843598076468649 tw4535639194582554584 tw2482517701276929448 tw5126288467734994814 tw1413690513437637063 tw1075323326575643701 tw6376025107105900748 tw11461623793453099371 tw6246656335159724055 tw8755269399033932758 tw7626355487919255376 tw57885749335495317 tw14506794635553174460 tw5393266685272110875 tw189628063409712685 tw3836556045341877839 tw10191260022227842856 tw10991760148402782160 tw9518585898967370089 tw11729495782533581446 tw8806222804665134003 tw15335584534186731369 tw726214857334192389 tw6464689551495200232 tw193442759617430043 tw16645414042079932221 tw13481374583677911538 tw8553992164797990161 tw18002746181789007594 tw8952760478990814827 tw15522645162622692933 tw9561647602101287700 tw17525909997213531157 tw4606309571111047799 tw16650861619684272790 tw10996873879713679203 tw12443169799945957165 tw6260405560530203042 tw10832095912417132718 tw1297541831588137486 tw9746890055633555867 tw15142934815313479752 tw17167324329467614629 tw1422814516105322953 tw13096024675443394098 tw11625859314280973648 tw11488535828436137392 tw6913301477598018161 tw13220361646183825722 tw11560252800035971515 tw12096975605462876682 tw2036998484007734763 tw10759005833811219482 tw16517988157659514830 tw17220034292065579954 tw8622885343914204647 tw11975985980843799699 tw12038507996862135662 tw12568456852719567728 tw3486175293761920508 tw15799523090774751448 tw14726489185615403101 tw15074706988149017590 tw1653916800226920887 tw9625898431808620888 tw15134635095386801460 tw11964491089752498789 tw15652445474056727612 tw4565612050314041209 tw4519710706422707641 tw5981307748836276445 tw16606552048813789526 tw6436600812482999273 tw12850653656397015748 tw8673205461785733151 tw10546163462972403638 tw5633942067858810813 tw948346948676733950 tw13769674313756182065 tw14966629451849259454 tw8521890045099014723 tw4553370114333737347:True)
open PySem PySem.W PyProof.Rows
set_option maxRecDepth 100000 in
set_option maxHeartbeats 0 in
theorem PySem.Challenge.cw_mapround_k25_road_drawn_together_holds : PySem.Challenge.rw_mapround_k25_road_drawn_together.Holds := by
 w_on;o_law;k_head;(case hw=>w_witness2)
 k_fill
 refine K25.SI (l:=PySem.Challenge.rw_mapround_k25_road_drawn_together) rfl rfl (fun w h Y=>W.kIn_of Y) ?F
 case F =>
  intro w mg fa h KX G hmg;refine' K25.Ot KX G hmg ?a0 ?l0 ?c0 ?k0 ?a1 ?l1 ?c1 ?k1 ?a2 ?l2 ?c2 ?k2 ?a3 ?l3 ?c3 ?k3 ?a4 ?l4 ?c4 ?k4 ?a5 ?l5 ?c5 ?k5 ?a6 ?l6 ?c6 ?k6 ?a7 ?l7 ?c7 ?k7 ?a8 ?l8 ?c8 ?k8 ?a9 ?l9 ?c9 ?k9 ?a10 ?l10 ?c10 ?k10 ?a11 ?l11 ?c11 ?k11 ?a13 ?l13 ?c13 ?k13 ?a15 ?l15 ?c15 ?k15 ?a17 ?l17 ?c17 ?k17 ?a18 ?l18 ?c18 ?k18 ?a19 ?l19 ?c19 ?k19 ?a20 ?l20 ?c20 ?k20 ?a21 ?l21 ?c21 ?k21 ?a22 ?l22 ?c22 ?k22 ?a23 ?l23 ?c23 ?k23 ?a24 ?l24 ?c24 ?k24 ?a25 ?l25 ?c25 ?k25 ?a26 ?l26 ?c26 ?k26 ?a28 ?l28 ?c28 ?k28 ?a29 ?l29 ?c29 ?k29 ?a30 ?l30 ?c30 ?k30 ?a32 ?l32 ?c32 ?k32 ?a34 ?l34 ?c34 ?k34 ?aM ?xM ?rM ?sM ?fM ?a_NotThere ?x_NotThere ?l_NotThere ?n_NotThere ?e_NotThere ?d_NotThere ?k_NotThere ?fn_NotThere ?kp_NotThere ?nf_NotThere ?a_Taken ?x_Taken ?l_Taken ?a_TooMany ?x_TooMany ?l_TooMany ?n_TooMany ?kp_TooMany ?a_NoPlace ?x_NoPlace ?l_NoPlace ?bve ?btu ?oa_Cut ?og_Cut ?oh_Cut ?oo_Cut ?os_Cut ?on_Cut_road ?om_Cut ?oi_Cut ?of_Cut ?ok_Cut ?ol_Cut ?oc_Cut ?ob_Cut ?oa_Draw ?og_Draw ?oh_Draw ?oo_Draw ?os_Draw ?on_Draw_road ?om_Draw ?oi_Draw ?of_Draw ?ok_Draw ?ol_Draw ?oc_Draw ?ob_Draw ?oa_Change ?ia_Draw ?ib_Draw ?id_Draw ?ie_Draw ?if_Draw ?a12 ?l12 ?c12 ?k12 ?i12 ?a14 ?l14 ?c14 ?k14 ?i14 ?a16 ?l16 ?c16 ?k16 ?i16 ?a27 ?l27 ?c27 ?k27 ?i27 ?a31 ?l31 ?c31 ?k31 ?i31 ?a33 ?l33 ?c33 ?k33 ?i33 ?q_MOST_ENDS ?q_MOST_BARE_PLACES ?z0 ?z1 ?z2 ?z3 ?z4 ?z5 ?z6 ?z7 ?z8 ?z9 ?z10 ?z11 ?z12 ?z13 ?z14 ?z15
  (case a0=>k_is);(case l0=>k_is);(case c0=>k_is);(case k0=>k_is)
  (case a1=>k_is);(case l1=>k_is);(case c1=>k_is);(case k1=>k_is)
  (case a2=>k_is);(case l2=>k_is);(case c2=>k_is);(case k2=>k_is)
  (case a3=>k_is);(case l3=>k_is);(case c3=>k_is);(case k3=>k_is)
  (case a4=>k_is);(case l4=>k_is);(case c4=>k_is);(case k4=>k_is)
  (case a5=>k_is);(case l5=>k_is);(case c5=>k_is);(case k5=>k_is)
  (case a6=>k_is);(case l6=>k_is);(case c6=>k_is);(case k6=>k_is)
  (case a7=>k_is);(case l7=>k_is);(case c7=>k_is);(case k7=>k_is)
  (case a8=>k_is);(case l8=>k_is);(case c8=>k_is);(case k8=>k_is)
  (case a9=>k_is);(case l9=>k_is);(case c9=>k_is);(case k9=>k_is)
  (case a10=>k_is);(case l10=>k_is);(case c10=>k_is);(case k10=>k_is)
  (case a11=>k_is);(case l11=>k_is);(case c11=>k_is);(case k11=>k_is)
  (case a13=>k_is);(case l13=>k_is);(case c13=>k_is);(case k13=>k_is)
  (case a15=>k_is);(case l15=>k_is);(case c15=>k_is);(case k15=>k_is)
  (case a17=>k_is);(case l17=>k_is);(case c17=>k_is);(case k17=>k_is)
  (case a18=>k_is);(case l18=>k_is);(case c18=>k_is);(case k18=>k_is)
  (case a19=>k_is);(case l19=>k_is);(case c19=>k_is);(case k19=>k_is)
  (case a20=>k_is);(case l20=>k_is);(case c20=>k_is);(case k20=>k_is)
  (case a21=>k_is);(case l21=>k_is);(case c21=>k_is);(case k21=>k_is)
  (case a22=>k_is);(case l22=>k_is);(case c22=>k_is);(case k22=>k_is)
  (case a23=>k_is);(case l23=>k_is);(case c23=>k_is);(case k23=>k_is)
  (case a24=>k_is);(case l24=>k_is);(case c24=>k_is);(case k24=>k_is)
  (case a25=>k_is);(case l25=>k_is);(case c25=>k_is);(case k25=>k_is)
  (case a26=>k_is);(case l26=>k_is);(case c26=>k_is);(case k26=>k_is)
  (case a28=>k_is);(case l28=>k_is);(case c28=>k_is);(case k28=>k_is)
  (case a29=>k_is);(case l29=>k_is);(case c29=>k_is);(case k29=>k_is)
  (case a30=>k_is);(case l30=>k_is);(case c30=>k_is);(case k30=>k_is)
  (case a32=>k_is);(case l32=>k_is);(case c32=>k_is);(case k32=>k_is)
  (case a34=>k_is);(case l34=>k_is);(case c34=>k_is);(case k34=>k_is)
  (case aM=>k_is);(case xM=>kernel_rfl)
  (case rM=>k_is);(case sM=>k_is);(case fM=>k_is)
  (case a_NotThere=>k_is);(case x_NotThere=>kernel_rfl);(case l_NotThere=>kernel_rfl)
  (case n_NotThere=>k_is);(case e_NotThere=>k_is);(case d_NotThere=>k_is);(case k_NotThere=>k_is);(case fn_NotThere=>k_is);(case kp_NotThere=>k_is);(case nf_NotThere=>k_is)
  (case a_Taken=>k_is);(case x_Taken=>kernel_rfl);(case l_Taken=>kernel_rfl)
  (case a_TooMany=>k_is);(case x_TooMany=>kernel_rfl);(case l_TooMany=>kernel_rfl)
  (case n_TooMany=>first|k_is|kernel_rfl);(case kp_TooMany=>k_is)
  (case a_NoPlace=>k_is);(case x_NoPlace=>kernel_rfl);(case l_NoPlace=>kernel_rfl)
  (case bve=>k_is)
  (case btu=>k_is)
  (case oa_Cut=>k_is);(case og_Cut=>first|k_is|kernel_rfl);(case oh_Cut=>first|k_is|kernel_rfl);(case oo_Cut=>first|k_is|kernel_rfl);(case os_Cut=>first|k_is|kernel_rfl)
  (case on_Cut_road=>first|k_is|kernel_rfl)
  (case om_Cut=>first|k_is|kernel_rfl);(case oi_Cut=>first|k_is|kernel_rfl);(case of_Cut=>first|k_is|kernel_rfl);(case ok_Cut=>first|k_is|kernel_rfl);(case ol_Cut=>first|k_is|kernel_rfl);(case oc_Cut=>first|k_is|kernel_rfl);(case ob_Cut=>first|k_is|kernel_rfl)
  (case oa_Draw=>k_is);(case og_Draw=>first|k_is|kernel_rfl);(case oh_Draw=>first|k_is|kernel_rfl);(case oo_Draw=>first|k_is|kernel_rfl);(case os_Draw=>first|k_is|kernel_rfl)
  (case on_Draw_road=>first|k_is|kernel_rfl)
  (case om_Draw=>first|k_is|kernel_rfl);(case oi_Draw=>first|k_is|kernel_rfl);(case of_Draw=>first|k_is|kernel_rfl);(case ok_Draw=>first|k_is|kernel_rfl);(case ol_Draw=>first|k_is|kernel_rfl);(case oc_Draw=>first|k_is|kernel_rfl);(case ob_Draw=>first|k_is|kernel_rfl)
  (case oa_Change=>k_is);(case ia_Draw=>first|k_is|kernel_rfl);(case ib_Draw=>first|k_is|kernel_rfl);(case id_Draw=>first|k_is|kernel_rfl);(case ie_Draw=>first|k_is|kernel_rfl);(case if_Draw=>first|k_is|kernel_rfl)
  (case a12=>k_is);(case l12=>k_is);(case c12=>k_is);(case k12=>k_is);(case i12=>k_is)
  (case a14=>k_is);(case l14=>k_is);(case c14=>k_is);(case k14=>k_is);(case i14=>k_is)
  (case a16=>k_is);(case l16=>k_is);(case c16=>k_is);(case k16=>k_is);(case i16=>k_is)
  (case a27=>k_is);(case l27=>k_is);(case c27=>k_is);(case k27=>k_is);(case i27=>k_is)
  (case a31=>k_is);(case l31=>k_is);(case c31=>k_is);(case k31=>k_is);(case i31=>k_is)
  (case a33=>k_is);(case l33=>k_is);(case c33=>k_is);(case k33=>k_is);(case i33=>k_is)
  (case q_MOST_ENDS=>k_is)
  (case q_MOST_BARE_PLACES=>k_is)
  (case z0=>k_is);(case z1=>k_is);(case z2=>k_is);(case z3=>k_is);(case z4=>k_is);(case z5=>k_is);(case z6=>k_is);(case z7=>k_is);(case z8=>k_is);(case z9=>k_is);(case z10=>k_is);(case z11=>k_is);(case z12=>k_is);(case z13=>k_is);(case z14=>k_is);(case z15=>k_is)

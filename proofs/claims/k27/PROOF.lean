import PyProof.Rows.All
import Wide.All
import OpenK.AllK
import Wide.FinOn
import Lean
import PyProof.EqAt
import PyProof.EqKinds
import PyProof.TupleCall
import KE.KIntText
import PyProof.ConsumeWalk
import PySem.Challenge.RW_mapround_k27_whole_road_and_counts
set_option Elab.async false
set_option linter.all false
set_option bootstrap.genMatcherCode false
set_option genSizeOf false
set_option compiler.extract_closed false
set_option maxRecDepth 100000
set_option maxHeartbeats 4000000
open Option renaming bind_eq_some_iff->oBq,map_eq_some_iff->oMq
open List renaming getElem?_eq_some_iff->gSq,getElem?_eq_getElem->gEg,getD_eq_getElem?_getD->gDq,length_append->lAq,length_map->lMq,mem_append->mAq,mem_flatten->mFq,mem_map->mMq,getElem?_map->gMq,mem_of_getElem?->mGq,map_congr_left->mCq,getElem_mem->gRq,length_singleton->lSq,mem_singleton->mSq,length_take->lTq,nodup_append->nAq,append_nil->aNq,flatten_append->fAq,getElem?_append_right->gYq,getElem?_append_left->gZq,length_cons->lCq,map_map->mPq,map_append->mBq,mem_cons_of_mem->mCo,length_set->lZq,flatten_cons->fCq,count_append->cAq,mem_cons->ab,append_assoc->ag,nodup_cons->ah,map_cons->ai,mem_iff_getElem?->aj,mem_cons_self->ao,mem_append_right->aq,length_drop->ax,replicate->ay,size_toArray->aA,sublist_flatten_of_mem->aE,getElem?_set_ne->aF,nodup_iff_pairwise_ne->aG,Pairwise->aJ,drop_eq_getElem_cons->aK,pairwise_append->aM,flatten_singleton->aQ,take_append_drop->aR,getElem?_set_self->aS,nodup_nil->aV,take_length->aY,pairwise_map->bf,count_pos_iff->bg,mem_of_mem_take->bh,take_sublist->bj,length_range->bo,mem_filter->bq,perm_ext_iff_of_nodup->bx,nil_append->bA,perm_append_comm->bD,cons_append->bE,mem_append_left->bG,mem_of_mem_drop->bH,range->bI,getElem?_eq_none->bK,length_eq_zero_iff->bN,filter_cons_of_neg->bO,getElem?_set->bQ,take_of_length_le->bR,countP_eq_length_filter->bS,countP_cons->bT,filter_cons_of_pos->bU,length->bV,Perm->bY,length_eq_countP_add_countP->bZ,eraseIdx_cons_succ->cj,mem_reverse->cm,drop_sublist->cv,idxOf_lt_length_iff->cA,Sublist->cE,length_nil->cF,length_pos_iff->cH,drop_eq_nil_of_le->cI,foldl_cons->cJ,length_replicate->cM,pairwise_iff_getElem->cO,eq_nil_or_concat->cP,concat_eq_append->cQ,length_filter_le->cR,pairwise_cons->cS,append_of_mem->cU,mem_iff_getElem->cX,count_cons->cZ,getElem?_replicate->dc,map_id->de,flatten_eq_nil_iff->df,filter_sublist->dg,drop_length->dh,drop_of_length_le->dk,not_mem_nil->dr,find?_cons_of_neg->du,cons->dA,getElem?_drop->dB,set_cons_zero->dC,map_replicate->dD,any_cons->dO,take_add_one->dQ,getElem?_zip_eq_some->dR,length_eraseIdx->dS,findIdx_lt_length_of_exists->dU,take_succ_eq_append_getElem->dW,getElem?_take_of_lt->dX,eq_of_mem_replicate->dY,getElem?_range->eA,map_nil->eB,getElem_idxOf->eD,filter_append->eI,find?_cons->eJ,find?_cons_of_pos->eK,count_eq_zero_of_not_mem->eN,ext_getElem?->eP,count_cons_of_ne->eR,mem_range->eS,drop_zero->eT,getElem_toArray->eU,extract_eq_take_drop->eX,lookup->eZ,filter_map->fc,set_cons_succ->fg,getElem_drop->ft,length_pos_of_mem->fB,not_of_lt_findIdx->fD,append_eq_nil_iff->fE,eraseIdxIfInBounds_toArray->fF,set_getElem_self->fI,any_eq_true->fK,getElem_map->fL,mem_flatMap->fM,countP_le_length->fO,min?_eq_some_iff->fP,idxOf_cons_self->fR,findIdx_getElem->fT,dropLast_concat->fU,count_cons_self->fV,nodup_iff_count->fW,filterMap_cons->fZ,eq_append_cons_of_mem->gi,range'->gj,idxOf_append->gu,getElem_take->gA,foldl_append->gC,count_replicate_self->gD,countP_congr->gF,sublist_append_right->gG,mem_of_find?_eq_some->gH,exists_mem_of_ne_nil->gI,length_erase_of_mem->gN,map_fst_zip->gO,pairwise_mergeSort->gQ,of_mem_zip->gU,countP_map->gW,pairwise_lt_range->gY,set_append_right->gZ,getElem?_zipWith->hR,countP_mono_left->ie,mem_of_mem_erase->ij,drop_left->il,take_left->ip,length_dropLast->iq,reverse_reverse->ir,flatten_flatten->iw,all_cons->iy,reverse_append->iA,mergeSort_perm->iB,replicate_succ->iC,map_take->iD,flatMap_append->iF,perm_iff_count->iG,filter_eq_self->iH,mem_filterMap->iI,count_eq_zero->iJ,find?_eq_none->iK,mem_replicate->iM,set_set->iO,any_map->iQ,flatMap_cons->iV,find?_isSome->iW,isEmpty_cons->iX,findIdx_cons->iY,drop_append->jc,lookup_cons->jf,nodup_range->jg,perm_middle->jh,isEmpty_nil->ji,map_const'->jn,find?_some->jo,take_zero->jv,zipWith->jz,flatten->jB
open Nat renaming le_refl->aa,ne_of_lt->aN,zero_le->aT,lt_of_lt_of_le->aU,zero_add->bC,le_trans->bX,sub_self->cw,lt_succ_iff_lt_or_eq->cB,le_of_lt->cC,not_lt_zero->cG,le_succ->cL,min_eq_left->dG,lt_irrefl->dN,lt_succ_of_lt->dP,lt_succ_self->ee,le_add_right->ef,add_one_sub_one->eY,lt_or_eq_of_le->fe,ne_of_gt->fi,le_of_eq->fj,add_assoc->fG,min_eq_right->fJ,mod_eq_of_lt->fN,lt_of_le_of_lt->gb,pos_of_ne_zero->gc,add_sub_cancel_left->gP,add_comm->gS,mod_self->gT,strongRecOn->gX,le_of_ble_eq_true->hU,add_zero->iN,le_of_lt_succ->iS,lt_trichotomy->iT,le_of_not_lt->jb,max_eq_right->jd,sub_zero->jA
open Array renaming getElem?_eq_getElem->ae,length_toList->au,getElem?_toList->aH,toList_append->aL,getElem_mem->aX,getElem?_eq_some_iff->bw,toList_reverse->cY,toList_push->eO,size_extract->ff,mem_toList_iff->fQ,toList_extract->fS,toList_setIfInBounds->gh,getElem?_extract->gV,toArray_toList->iu,getD->iz,Perm->jt,size_map->jw
open PySem.F renaming plainAttrs_list->af,slot_list_append->aC,type_list_append->aD,slot_list_index->cD,slot_list_extend->cV,type_list_extend->cW,slot_list_pop->dE,type_list_pop->dF,type_list_index->eC,args_list_index_2->gB,entry_list_index->gJ,slot_list_remove->gK,slot_list_count->gR
open PySem.Heap renaming get?_push_of_some->ak,lt_size->ar,get?_push_size->bu,get?_update_ne->eh,size_update->eW,SameBut->fh,get?_push_ne->fu,size_push->ik
open Option renaming some->aw,map_some->cK,isSome_map->fq,getD_none->ja,bind_some->je,none->jH
open Bool renaming false_ne_true->aB,eq_iff_iff->cx,not_eq_true->dt,false_eq_true->eE,and_eq_true->eV,not_true->iE,not_eq_true'->iU,or_eq_true->jm,false_and->ju,or_true->jC
open Sum renaming inl->aO,inr->gq
open PySem.Value renaming ref->aW,str->dJ,type->fY,int->gk,none->jq,bool->jr,isStrOf->jy,isInt->jE,bytes->jF,float->jG
open PyProof.Rows renaming boot_isinstance->aZ,boot_list->bW,callWith_type1->dw,boot_sorted->dZ,boot_min->eQ,boot_tuple->fk,boot_str->hV,boot_int->hZ,callWith_builtin1->jj,boot_bool->jD,lt_int->jI
open Classical renaming propDecidable->bb
open Int renaming neg_neg->bp,emod_lt_of_pos->bJ,emod_nonneg->bP,toNat_natCast->cu,toNat->fA,le_of_lt->fX,fdiv_eq_ediv_of_nonneg->gf,le_refl->gg,zero_add->iR,mul_le_mul->jx
open Or renaming inr->iZ
open Prod renaming ext->jk
open PySem renaming Shared->jJ,model->jN,wpAny_bind->jO,sizeLine->jP,mainGlobals->jQ,wpAny->jR,Program->jS,starEach->jT,World->jU,wpAny_pure->jW,FuncData->jX,call_isinstance->jY,sizeLine_eq->ka,wpAny_mono->kc,compareOp->kg,backTo->ko,wpAny_truthy_bool->kq,cLine->ku,sysModules->kx,wpAny_passesOwn->ky,isinstance_true->kz,codeAny_builtin->kB,call_meets->kC,isinstance_false_int->kF,Scope->kJ,sliceBounds->kK,wpAny_Call_Name_kw->kN,bootBuiltins->kO,binaryOp->kP,unsupported->kR,keywordEach->kS,behindInMarks->kU,attributeBase->kY,codeAny->lj,wpAny_execs_nil->ly,letOwnedTupleGo->lB,assignEach->lD,relabel->lH,tupleKind_room_in1->lI,swapsWith->lJ,getMethod->lK,wpAny_newList->lN,plainId_quiet->lO,foldedSetIterable->lQ,valueAt->lS,standAt->lU,holding->lY,callerA->lZ,wpAny_comprehension_free->mh,codeAny_mono->mi,backToKw->mj,tupleKind->mv,atKey->mB,subscripted->mD,wpAny_isTrue_Compare1->mE,isinstance_false_none->mF,isSubtype_type->mG,getItem->mH,BindsTo->mI,isTrue->mJ,assign->mK,lookup_relabel_local->mL,isinstance_false_str->mM,wpAny_holding->mN,seqIndex?->mQ
open PyProof.Rows renaming Keyed->jK,wpS_bind->jL,wpS_pure->jM,arrOf->jV,seqObj->jZ,wpS_forRange->ke,setArr->kf,IntsAre->ki,wpS_mono->kj,SortKind->km,elem'->kr,pairsOf->kA,pendingOf->kE,wpS_modify->kG,oneType'->kH,wpS_get->kL,getElem?_mirror_all->kM,envOfC->kQ,reverseSlice'->kT,gallopOf->kZ,AllBare->lu,pairsOf_size->lC,sortedHeap->lR,get?_update_seq->mq,subscriptTail_builtinR->mC,subscriptTail->mO,listUpdate_at->mP,seqEpoch_at->mR
abbrev Λ:=List (List Int)
abbrev Ϝ:=List Int
abbrev Φ:=List (PySem.Addr×PySem.Obj)
abbrev Δ:=List PySem.Addr
abbrev Θ:=List Nat
abbrev Ξ:=List PySem.Value
abbrev Ω:=Array PySem.Value
abbrev Υ:=Option PySem.Value
abbrev Ψ:=PySem.Value->PySem.Shared->Prop
abbrev Ζ:=PySem.W.Frag
noncomputable section
open Array renaming mem_of_getElem?->aQq
local macro_rules|`(tactic|trivial)=>`(tactic|first|exact Or.inl rfl|exact iZ rfl|exact iZ (Or.inl rfl)|exact iZ (iZ rfl)|exact⟨rfl,rfl,rfl,by decide +kernel,rfl,by decide +kernel,by decide +kernel⟩|decide +kernel|fail)
noncomputable def pB{c:Prop}{_:Decidable c}(h:c){α}{t e:α}:ite c t e=t:=if_pos h
noncomputable def oZ{c:Prop}{_:Decidable c}(h:¬c){α}{t e:α}:ite c t e=e:=if_neg h
theorem d4{p:Prop}[Decidable p](h:p):decide p=true:=decide_eq_true h
theorem d6{p:Prop}[Decidable p](h:¬p):decide p=false:=decide_eq_false h
namespace L2
open PySem PySem.Spec PyProof.Rows
abbrev pE:=Sum Int Str
noncomputable def Ii:pE->Value->Bool
 | .inl k,v=>jE k v
 | .inr x,v=>jy x v
noncomputable def ae9(w:jU):pE->Int
 | .inl k=>hashInt k
 | .inr x=>hashStr w x
def qO:∀{k:pE}{v:Value},Ii k v=true->(∃i t,k=aO i/\v=gk i t)∨(∃x t,k=gq x/\v=dJ x t)
 | .inl i,v,h=>by
  obtain⟨t,e⟩:=Value.isInt_shape (k:=i) (v:=v) h;exact .inl ⟨i,t,rfl,e⟩
 | .inr x,v,h=>by
  obtain⟨t,e⟩:=Value.isStrOf_shape (x:=x) (v:=v) h;exact .inr ⟨x,t,rfl,e⟩
def Rb(i:Int)(t:Tok):Ii (.inl i) (.int i t)=true:=by simp[Ii,jE]
def Qc(x:Str)(t:Tok):Ii (.inr x) (.str x t)=true:=by simp[Ii,jy]
def abp(a b:Int):decide ((aO a:pE)=aO b)=(a == b):=by
 by_cases e:a=b
 .subst e;simp
 .have h:¬ (aO a:pE)=aO b:=λq=>e (aO.inj q)
  rw[d6 h];exact(beq_eq_false_iff_ne.mpr e).symm
noncomputable def Z7(a b:Str):decide ((gq a:pE)=gq b)=decide (a=b):=by
 by_cases e:a=b
 .subst e;simp
 .have h:¬ (gq a:pE)=gq b:=λq=>e (gq.inj q)
  rw[d6 h,d6 e]
noncomputable def aao(a:Int)(b:Str):decide ((aO a:pE)=gq b)=false:=d6 (λq=>nomatch q)
noncomputable def aaU(a:Str)(b:Int):decide ((gq a:pE)=aO b)=false:=d6 (λq=>nomatch q)
def qS(prog:jS)(w:jU):PySem.KeyKind prog w pE where
 is:=Ii
 hash:=ae9 w
 inj:=λv a b ha hb=>by
  rcases qO ha with⟨i,t,rfl,rfl⟩|⟨x,t,rfl,rfl⟩
  .rcases qO hb with⟨j,u,rfl,e⟩|⟨y,u,rfl,e⟩
   .injection e with l _;rw[l]
   .exact nomatch e
  .rcases qO hb with⟨j,u,rfl,e⟩|⟨y,u,rfl,e⟩
   .exact nomatch e
   .injection e with l _;rw[l]
 byValue:=λk v h=>by
  rcases qO h with⟨i,t,rfl,rfl⟩|⟨x,t,rfl,rfl⟩ <;> rfl
 pyHash:=λn h=>by
  rcases qO n with⟨i,t,rfl,rfl⟩|⟨x,t,rfl,rfl⟩
  .exact wpAny_pyHash_int h
  .exact wpAny_pyHash_str h
 eqBool:=λs n h=>by
  rcases qO s with⟨i,t,rfl,rfl⟩|⟨x,t,rfl,rfl⟩
  .rcases qO n with⟨j,u,rfl,rfl⟩|⟨y,u,rfl,rfl⟩
   .rw[abp]at h;exact wpAny_eqBool_int h
   .rw[aao]at h;exact SeqAt.EqAt.int_str i t y u _ _ _ _ h
  .rcases qO n with⟨j,u,rfl,rfl⟩|⟨y,u,rfl,rfl⟩
   .rw[aaU]at h;exact SeqAt.EqAt.str_int x t j u _ _ _ _ h
   .rw[Z7]at h;exact wpAny_eqBool_str h
 «strs»:=λk x t v h=>by
  rcases qO h with⟨i,u,rfl,e⟩|⟨y,u,rfl,e⟩
  .exact nomatch e
  .injection e with l _
   subst l;cases v <;> rfl
def Lx(prog:jS)(w:jU)(i:Int)(t:Tok):(qS prog w).is (.inl i) (.int i t)=true:=Rb i t
def Kt(prog:jS)(w:jU)(x:Str)(t:Tok):(qS prog w).is (.inr x) (.str x t)=true:=Qc x t
inductive V where
 |non|bl (b:Bool)|int (i:Int)|str (x:Str)|byt (b:Array UInt8)|flt (b:UInt64)|ref (a:Addr)|ty (n:String)
 deriving DecidableEq
def qA:V->Value->Prop
 | .non,u=>u=jq
 | .bl b,u=>u=jr b
 | .int i,u=>∃t,u=gk i t
 | .str x,u=>∃t,u=dJ x t
 | .byt b,u=>∃t,u=jF b t
 | .flt b,u=>∃t,u=jG b t
 | .ref a,u=>u=aW a
 | .ty n,u=>u=fY n
abbrev pU:List V->Ξ->Prop:=Paired qA
theorem pU.length{xs:List V}{us:Ξ}(r:pU xs us):xs.length=us.length:=Paired.length r
theorem pU.get:∀{xs:List V}{us:Ξ}{i:Nat}{x:V},pU xs us->xs[i]?=some x->∃u,us[i]?=some u/\qA x u
 |_,_,_,_,.nil,e=>by simp at e
 |_,_,0,_,.cons r _,e=>by simp at e;subst e;exact⟨_,rfl,r⟩
 |_,_,i+1,x,.cons _ t,e=>by
  obtain⟨u,l,n⟩:=pU.get (i:=i) (x:=x) t (by simpa using e)
  exact⟨u,by simpa using l,n⟩
theorem pU.set{x:V}{u:Value}(r:qA x u):∀{xs:List V}{us:Ξ}(i:Nat),pU xs us->pU (xs.set i x) (us.set i u)
 |_,_,_,.nil=>.nil
 |_,_,0,.cons _ t=>.cons r t
 |_,_,i+1,.cons q t=>.cons q (pU.set r i t)
theorem pU.append:∀{xs ys:List V}{us ws:Ξ},pU xs us->pU ys ws->pU (xs++ys) (us++ws)
 |_,_,_,_,.nil,s=>s
 |_,_,_,_,.cons r t,s=>.cons r (pU.append t s)
theorem pU.take:∀{xs:List V}{us:Ξ}(n:Nat),pU xs us->pU (xs.take n) (us.take n)
 |_,_,0,_=>.nil
 |_,_,_+1,.nil=>.nil
 |_,_,n+1,.cons r t=>.cons r (pU.take n t)
theorem pU.drop:∀{xs:List V}{us:Ξ}(n:Nat),pU xs us->pU (xs.drop n) (us.drop n)
 |_,_,0,r=>r
 |_,_,_+1,.nil=>.nil
 |_,_,n+1,.cons _ t=>pU.drop n t
def BR:Option V->Υ->Prop
 |some v,some u=>qA v u
 |none,none=>True
 |_,_=>False
def KV{κ:Type}:List (κ×V)->List (κ×Value)->Prop:=Paired λ(p:κ×V) (q:κ×Value)=>p.1=q.1/\qA p.2 q.2
noncomputable def kV:pE->V
 | .inl i=>.int i
 | .inr x=>.str x
inductive HO where
 /-- a list -/
 |lst (xs:List V)
 /-- a tuple (never changes) -/
 |tup (xs:List V)
 /-- a dict whose keys are ints and texts;one whose keys are tuples of ints and texts (the empty one is Cc) -/
 |dK (kvs:List (pE×V))|dT (kvs:List (List pE×V))
 /-- a set of ints: its members,its size -/
 |set (S:Int->Bool) (n:Nat)
 /-- an instance of the class at C,its dict at dx,its attributes -/
 |ins (C dx:Addr) (fs:List (Str×V))
 /-- the dict of the instance at x -/
 |own (x:Addr)
 /-- the dict of an exception -/
 |xd (fs:List (Str×V))
 /-- a bound method,f of x -/
 |met (f x:Addr)
 /-- a range object lo,lo+1,.. below hi -/
 |rng (lo hi:Int)
 /-- a thing that is known to the object (the script;a dict while a loop walks it): read,never written while it is so -/
 |frz (o:Obj) (u:HO)
 /-- a code object's table -/
 |tbl (ps:Ω)
 /-- any other thing,by what is true of its one object (a def of one's own: SetO a S n:=HO.ext λh=>..) -/
 |ext (φ:Heap->Prop)
abbrev Hp:=Addr->Option HO
noncomputable def qC(H:Hp)(a:Addr)(o:HO):Hp:=λb=>if b=a then some o else H b
def oS{H:Hp}{a:Addr}{o:HO}:qC H a o a=some o:=by unfold qC;rw[pB rfl]
def oQ{H:Hp}{a b:Addr}{o:HO}(h:b≠a):qC H a o b=H b:=by unfold qC;rw[oZ h]
def Jn{H:Hp}{a:Addr}{o u:HO}:qC (qC H a o) a u=qC H a u:=by
 funext b;unfold qC;split <;> rfl
def adT{H:Hp}{a b:Addr}{o u:HO}(h:H a=some o)(h':H b=some u)(d:o≠u):a≠b:=by
 intro e;subst e;rw[h]at h';exact d (aw.inj h')
def qH{H:Hp}{a b:Addr}{o:HO}(h:H a=some o)(h':H b=none):a≠b:=by
 intro e;subst e;rw[h]at h';cases h'
section
variable (P:jS)(w:jU)
def rO(H:Hp)(h:Heap)(a:Addr):HO->Prop
 | .lst xs=>xs.length<=jP/\∃(l:Ξ) (n:Nat),pU xs l/\h.get? a=some { cls:=.type "list", data:=.seq l.toArray n }
 | .tup xs=>xs.length<=jP/\∃l:Ξ,pU xs l/\IsTup h a l.toArray
 | .dK kvs=>kvs.length<=jP/\(a == kx)=false/\∃vs,KV kvs vs/\h.DictOf (qS P w) a vs
 | .dT kvs=>kvs.length<=jP/\(a == kx)=false/\∃xs:List (List pE×Addr×Value),
   Paired (λ(p:List pE×V) (q:List pE×Addr×Value)=>p.1=q.1/\H q.2.1=some (.tup (p.1.map kV))/\qA p.2 q.2.2) kvs xs /\
   ∃o es ep,h.get? a=some o/\o.ExactDict/\o.data = .dict es ep/\es.toList=xs.map (entryOfKey (mv (qS P w)))/\(xs.map (·.1)).Nodup
 | .set S n=>h.SetOf (intKind P w) a S n
 | .ins C z fs=>H z=some (.own a)/\fs.length<=1000/\z≠a/\h.get? a=some (W.instObj C z) /\
   ∃s,h.Ns1 z s/\(∀f,BR (fs.lookup f) (s f))/\PySem.Within s (fs.map (·.1))
 | .own _=>∃o,h.get? a=some o
 | .xd fs=>∃s,h.Ns1 a s/\∀f,BR (fs.lookup f) (s f)
 | .rng lo hi=>∃t u v,h.get? a=some { cls:=.type "range", data:=.fields #[.int lo t,.int hi u,.int 1 v] }
 | .frz o u=>h.get? a=some o/\rO H h a u
 | .tbl ps=>h.get? a=some { cls:=.none,data:=.fields ps }
 | .met f x=>h.get? a=some (W.methodObj (.ref f) (.ref x))
 | .ext φ=>φ h/\(∃o,h.get? a=some o)/\∀B E:Heap,φ B->(∀o,B.get? a=some o->E.get? a=some o)->φ E
def CJ(H:Hp)(h:Heap):Prop:=∀a o,H a=some o->rO P w H h a o
end
section
variable {P:jS}{w:jU}{H H':Hp}{h h':Heap}{a:Addr}{o:HO}
theorem rO.lt(x:rO P w H h a o):a<h.objs.size:=by
 cases o with
 |lst s=>obtain⟨_,_,_,_,e⟩:=x;exact ar e
 |tup s=>obtain⟨_,_,_,p⟩:=x;exact p.lt
 |dK l=>obtain⟨_,_,_,_,o,_,_,e,_⟩:=x;exact ar e
 |dT l=>obtain⟨_,_,_,_,o,_,_,e,_⟩:=x;exact ar e
 |set S n=>obtain⟨o,_,_,_,e,_⟩:=x;exact ar e
 |ins C t fs=>obtain⟨_,_,_,e,_⟩:=x;exact ar e
 |own y=>obtain⟨_,e⟩:=x;exact ar e
 |xd fs=>obtain⟨_,⟨_,_,_,e,_⟩,_⟩:=x;exact ar e
 |rng lo hi=>obtain⟨_,_,_,e⟩:=x;exact ar e
 |frz z u=>obtain⟨e,_⟩:=x;exact ar e
 |tbl B=>exact ar (show h.get? a=some _ from x)
 |met f y=>exact ar (show h.get? a=some _ from x)
 |ext φ=>obtain⟨_,⟨_,e⟩,_⟩:=x;exact ar e
theorem Paired.mapP{α β:Type}{F G:α->β->Prop}:∀{l₁:List α}{l₂:List β},Paired F l₁ l₂->(∀a b,F a b->G a b)->Paired G l₁ l₂
 |_,_,.nil,_=>.nil
 |_,_,.cons r t,f=>.cons (f _ _ r) (Paired.mapP t f)
def rO.stay(x:rO P w H h a o)(k:∀b u,(b=a∨H b=some (.own a))->h.get? b=some u->h'.get? b=some u)
  (M:∀b,H b=some (.own a)->H' b=some (.own a)) (ht:∀b xs,H b=some (.tup xs)->H' b=some (.tup xs)):rO P w H' h' a o:=by
 induction o with
 |lst xs=>obtain⟨z,E,n,r,e⟩:=x;exact⟨z,E,n,r,k _ _ (.inl rfl) e⟩
 |tup xs=>obtain⟨z,E,r,l,e,c⟩:=x;exact⟨z,E,r,l,k _ _ (.inl rfl) e,c⟩
 |dK G=>obtain⟨z,y,O,r,l,s,B,e,c⟩:=x;exact⟨z,y,O,r,l,s,B,k _ _ (.inl rfl) e,c⟩
 |dT G=>
  obtain⟨z,y,xs,r,l,s,B,e,c⟩:=x;exact⟨z,y,xs,Paired.mapP r λp q z=>⟨z.1,ht _ _ z.2.1,z.2.2⟩,l,s,B,k _ _ (.inl rfl) e,c⟩
 |set S n=>obtain⟨l,s,B,t,e,c⟩:=x;exact⟨l,s,B,t,k _ _ (.inl rfl) e,c⟩
 |ins C T fs=>
  obtain⟨d,z,ne,e,I,⟨J,s,B,Q,c⟩,r⟩:=x;exact⟨M _ d,z,ne,k _ _ (.inl rfl) e,I,⟨J,s,B,k _ _ (.inr d) Q,c⟩,r⟩
 |own y=>obtain⟨l,e⟩:=x;exact⟨l,k _ _ (.inl rfl) e⟩
 |xd fs=>obtain⟨I,⟨J,s,B,e,c⟩,r⟩:=x;exact⟨I,⟨J,s,B,k _ _ (.inl rfl) e,c⟩,r⟩
 |rng lo hi=>obtain⟨t,u,v,e⟩:=x;exact⟨t,u,v,k _ _ (.inl rfl) e⟩
 |frz l u R=>obtain⟨e,q⟩:=x;exact⟨k _ _ (.inl rfl) e,R q⟩
 |tbl L=>
  have e:h.get? a=some { cls:=.none,data:=.fields L }:=x;show h'.get? a=some { cls:=.none,data:=.fields L };exact k a _ (.inl rfl) e
 |met f y=>
  have e:h.get? a=some (W.methodObj (.ref f) (.ref y)):=x;show h'.get? a=some (W.methodObj (.ref f) (.ref y));exact k a _ (.inl rfl) e
 |ext φ=>obtain⟨p,⟨o,e⟩,st⟩:=x;exact⟨st _ _ p λo q=>k _ _ (.inl rfl) q,⟨o,k _ _ (.inl rfl) e⟩,st⟩
theorem CJ.lt(x:CJ P w H h)(e:H a=some o):a<h.objs.size:=(x a o e).lt
def CJ.fresh(x:CJ P w H h)(e:h.objs.size<=a):H a=none:=by
 cases q:H a with
 |none=>rfl
 |some u=>exact absurd (aU (x.lt q) e) (dN _)
def CJ.kept(x:CJ P w H h)(k:∀b u,h.get? b=some u->h'.get? b=some u):CJ P w H h':=λa o e=>
 (x a o e).stay (λb u _ q=>k b u q) (λ_ q=>q) λ_ _ q=>q
def CJ.laid(x:CJ P w H h)(k:∀b u,h.get? b=some u->h'.get? b=some u)(l:h.objs.size<=a)(new:rO P w (qC H a o) h' a o):CJ P w (qC H a o) h':=λb u e=>by
 have hn:=x.fresh l
 by_cases hb:b=a
 .subst hb;rw[oS]at e;cases e;exact new
 .rw[oQ hb]at e;exact(x b u e).stay (λc v _ q=>k c v q) (λc q=>by rw[oQ (qH q hn)];exact q) λc n q=>by rw[oQ (qH q hn)];exact q
end
def Rd(H:Hp)(a:Addr)(u:HO):Prop:=H a=some u∨∃o,H a=some (.frz o u)
noncomputable def Rd.ok{P:jS}{w:jU}{H:Hp}{h:Heap}{a:Addr}{u:HO}(r:Rd H a u)(x:CJ P w H h):rO P w H h a u:=by
 rcases r with r|⟨o,r⟩
 .exact x a u r
 .obtain⟨_,q⟩:=x a _ r;exact q
def Mut:Option HO->Prop
 |some (.lst _)=>True
 |some (.dK _)=>True
 |some (.dT _)=>True
 |some (.set _ _)=>True
 |some (.ins _ _ _)=>True
 |some (.ext _)=>True
 |_=>False
section
variable {P:jS}{w:jU}{H:Hp}{h h':Heap}{x e:Addr}{o':HO}
def CJ.write(ok:CJ P w H h)(mu:Mut (H x))(G:e=x∨H e=some (.own x))(k:∀b u,b≠e->h.get? b=some u->h'.get? b=some u)(E:∃u,h'.get? e=some u)
  (new:rO P w (qC H x o') h' x o'):CJ P w (qC H x o') h':=λb u q=>by
 have n:∀c y,H c=some (.own y)->c≠x:=λc y r z=>by subst z;rw[r]at mu;exact mu
 have s:∀c t,H c=some (.tup t)->c≠x:=λc t r z=>by subst z;rw[r]at mu;exact mu
 by_cases hb:b=x
 .subst hb;rw[oS]at q;cases q;exact new
 .rw[oQ hb]at q
  by_cases l:b=e
  .have I:H b=some (.own x):=by
    rcases G with z|z
    .exact absurd (l.trans z) hb
    .rw[l];exact z
   rw[q]at I;cases I;obtain⟨v,J⟩:=E;exact⟨v,by rw[l];exact J⟩
  .refine(ok b u q).stay (λc v B r=>k c v ?_ r) (λc r=>by rw[oQ (n c b r)];exact r) λc t r=>by rw[oQ (s c t r)];exact r
   rcases B with rfl|B
   .exact l
   .rintro rfl;rcases G with z|z
    .exact n c b B z
    .rw[B]at z;cases z;exact hb rfl
end
structure Un (fs ex:Δ)(H H':Hp)(h h':Heap):Prop where
 keep:∀b o,h.get? b=some o->H b=none->b∉fs->b∉ex->h'.get? b=some o
 slot:∀b o,h.get? b=some o->H b=none->b∈fs->b∉ex->∃sl,h'.get? b=some { o with slots:=sl }
 free:∀b o,h.get? b=some o->H b=none->b∉ex->H' b=none
 there:∀b o,h.get? b=some o->b∉ex->∃o',h'.get? b=some o'
 tups:∀b xs,H b=some (.tup xs)->H' b=some (.tup xs)
 frzs:∀b o u,H b=some (.frz o u)->H' b=some (.frz o u)
 tbls:∀b ps,H b=some (.tbl ps)->∃more,H' b=some (.tbl (ps++more))
section
variable {fs fs' ex ex':Δ}{H H1 H2:Hp}{h h1 h2 h':Heap}{a x e:Addr}{o:HO}
def Un.any(u:Un fs ex H H1 h h1){b:Addr}{l:Obj}(q:h.get? b=some l)(n:H b=none)(s:b∉ex):∃t,h1.get? b=some { l with slots:=t }:=by
 by_cases hb:b∈fs
 .exact u.slot b l q n hb s
 .exact⟨l.slots,u.keep b l q n hb s⟩
def Un.kept(k:∀b u,h.get? b=some u->h'.get? b=some u):Un fs ex H H h h':=
 ⟨λb l q _ _ _=>k b l q,λb l q _ _ _=>⟨l.slots,k b l q⟩,λ_ _ _ n _=>n,λb l q _=>⟨l,k b l q⟩,λ_ _ q=>q,λ_ _ _ q=>q,λ_ s q=>⟨#[],by rw[q];simp⟩⟩
def Un.refl:Un fs ex H H h h:=Un.kept λ_ _ q=>q
def Un.laid(k:∀b u,h.get? b=some u->h'.get? b=some u)(l:h.objs.size<=a)(hn:H a=none):Un fs ex H (qC H a o) h h' where
 keep:=λb u q _ _ _=>k b u q
 slot:=λb u q _ _ _=>⟨u.slots,k b u q⟩
 free:=λb u q n _=>by rw[oQ (aN (aU (ar q) l))];exact n
 there:=λb u q _=>⟨u,k b u q⟩
 tups:=λb xs q=>by rw[oQ (qH q hn)];exact q
 frzs:=λb u xs q=>by rw[oQ (qH q hn)];exact q
 tbls:=λb ps q=>⟨#[],by rw[oQ (qH q hn),q];simp⟩
def Un.write(mu:Mut (H x))(E:e=x∨H e=some (.own x))(k:∀b u,b≠e->h.get? b=some u->h'.get? b=some u)(s:∃u,h'.get? e=some u):Un fs ex H (qC H x o) h h':=by
 have B:∀b,H b=none->b≠x:=λb n z=>by subst z;rw[n]at mu;exact mu
 have hb:∀b,H b=none->b≠e:=λb n z=>by
  subst z;rcases E with r|r
  .exact B b n r
  .rw[n]at r;cases r
 have t:∀b u,H b=some u->¬ Mut (some u)->b≠x:=λb u q nm z=>by subst z;rw[q]at mu;exact nm mu
 refine⟨λb u q n _ _=>k b u (hb b n) q,λb u q n _ _=>⟨u.slots,k b u (hb b n) q⟩,λb u q n _=>by rw[oQ (B b n)];exact n,λb u q _=>?_,
  λb G q=>by rw[oQ (t b _ q λz=>z)];exact q,λb u G q=>by rw[oQ (t b _ q λz=>z)];exact q,λb I q=>⟨#[],by rw[oQ (t b _ q λz=>z),q];simp⟩⟩
 by_cases l:b=e
 .subst l;exact s
 .exact⟨u,k b u l q⟩
end
noncomputable def trk(h:Heap)(H:Hp):Δ:=(bI h.objs.size).filter λa=>(H a).isSome
def Ka(h:Heap)(H:Hp):Heap:=W.hideAll h (trk h H)
def QV(h:Heap)(H:Hp):(Ka h H).objs.size=h.objs.size:=W.hideAll_size _ _
def Ve{h:Heap}{H:Hp}{b:Addr}{o:Obj}(e:h.get? b=some o)(n:H b=none):(Ka h H).get? b=some o:=
 W.hideAll_get _ e λl=>by
  have q:(H b).isSome=true:=(bq.mp l).2;rw[n]at q;simp at q
def Xk{h:Heap}{H:Hp}{b:Addr}{o:Obj}(e:(Ka h H).get? b=some o):h.get? b=some o/\H b=none:=by
 have l:h.get? b=some o:=W.of_hideAll (trk h H) e;refine⟨l,?_⟩;cases q:H b with
 |none=>rfl
 |some x=>
  have n:b∈trk h H:=bq.mpr ⟨eS.mpr (ar l),by simp[q]⟩
  have z:(Ka h H).get? b=none:=W.hideAll_none (trk h H) n;rw[z]at e;cases e
def XY(g h:Heap)(L:Addr):Φ:=(bI h.objs.size).filterMap λa=>if a=L∨(g.get? a).isSome=true then none else (h.get? a).map λo=>(a,o)
def rest(g h:Heap)(L d:Addr):Φ:=(XY g h L).filter λp=>decide (p.1≠d)
structure Mod (K:Ζ)(mg:Str->Υ)(base:Heap):Prop where
 kin:K.In base
 glob:base.Ns jQ mg
 blt:∃mb,base.Ns builtinsNs mb/\∀x:Str,x ≠ "__name__" -> mb x=kO x
 nolimit:base.NoLimit
structure Cx where
 prog:jS
 w:jU
 K:Ζ
 mg:Str->Υ
 base:Heap
 A:Around
 N:List Str
 s₀:jJ
 H₀:Hp
 env:Env
 outer:List Env
 stack:List Env
 ex:Δ
 fn:Str->Bool
 calm:Bool
 pn:Φ
 xe:Value->jJ->Prop
def RN(l:List Env):Δ:=l.filterMap (·.frame)
abbrev Cx.fs(X:Cx):Δ:=RN X.outer
def Vis(l:kJ)(x:Str):Prop:=l.names.lookup x=some .local∨l.names.lookup x=some .cell∨l.names.lookup x=some .free
def Loc(l:kJ)(x:Str):Prop:=l.names.lookup x=some .local∨l.names.lookup x=some .cell
def afg(env:Env)(h:Heap)(m:Str->Υ)(x:Str)(u:Value):Prop:=
 (env.kindOf x=some .local/\m x=some u)∨((env.kindOf x=some .cell∨env.kindOf x=some .free)/\∃c,env.cells.lookup x=some c/\h.IsCell c (some u))
structure Cx.Ok (X:Cx):Prop where
 mod:Mod X.K X.mg X.base
 kind:X.env.scope.kind = .function
 glob:X.env.globals=jQ
 blt:X.env.builtins=builtinsNs
 above:X.s₀.heap.objs.size<=X.env.locals
 inj:∀x y c,X.env.cells.lookup x=some c->X.env.cells.lookup y=some c->x=y
 has:∀x,(X.env.kindOf x=some .cell∨X.env.kindOf x=some .free)->∃c,X.env.cells.lookup x=some c
 cab:∀x c,X.fn x=true->X.env.cells.lookup x=some c->X.s₀.heap.objs.size<=c
 hd:X.calm=true->X.A.handled=none
 frames:X.A.frames=some X.stack
 stk:X.stack=X.outer∨(X.stack=X.env::X.outer/\X.env.frame=some X.env.locals)
 exf:∀b∈X.ex,b≠X.env.locals/\∀x c,X.env.cells.lookup x=some c->c≠b
 bs:∀b o,X.base.get? b=some o->X.s₀.heap.get? b=some o/\X.H₀ b=none
 bsz:X.base.objs.size<=X.s₀.heap.objs.size
 noex:∀b o,X.base.get? b=some o->b∉X.ex
 exfs:∀b∈X.ex,b∉X.fs
 funs:X.s₀.heap.FunFrames X.base X.outer
 frf:∀b∈X.fs,X.H₀ b=none
structure Inv (X:Cx)(oh:Φ)(σ:List (Option V))(H:Hp)(s:jJ):Prop where
 ok:X.Ok
 os:s.os=X.s₀.os
 bare:lu s.gens
 base:Un X.fs X.ex X.H₀ H X.s₀.heap s.heap
 loc:∃m,s.heap.Ns X.env.locals m/\∀(i:Nat) (x:Str) (v:V),X.N[i]?=some x->σ[i]?=some (some v)->Vis X.env.scope x->∃u,qA v u/\afg X.env s.heap m x u
 cell:∀x c,X.env.cells.lookup x=some c->∃v,s.heap.IsCell c v
 free:H X.env.locals=none
 freeC:∀x c,X.env.cells.lookup x=some c->H c=none
 pin:∀p∈X.pn++oh,s.heap.get? p.1=some p.2/\H p.1=none/\p.1≠X.env.locals/\p.1∉X.fs/\∀v,p.2.data ≠ .cell v
 hok:CJ X.prog X.w H s.heap
 len:σ.length=X.N.length
section
variable {X:Cx}{oh:Φ}{σ:List (Option V)}{H H':Hp}{s:jJ}{h':Heap}
def Cx.Ok.nofr(ok:X.Ok){b:Addr}{o:Obj}(e:X.base.get? b=some o):b∉X.fs:=λhb=>by
 have:=(ok.funs.mem hb).1;rw[e]at this;cases this
theorem Inv.bs(I:Inv X oh σ H s):∀b o,X.base.get? b=some o->s.heap.get? b=some o/\H b=none:=λb o e=>
 ⟨I.base.keep b o (I.ok.bs b o e).1 (I.ok.bs b o e).2 (I.ok.nofr e) (I.ok.noex b o e),I.base.free b o (I.ok.bs b o e).1 (I.ok.bs b o e).2 (I.ok.noex b o e)⟩
noncomputable def Inv.bk(I:Inv X oh σ H s):∀b o,X.base.get? b=some o->s.heap.get? b=some o:=λb o e=>(I.bs b o e).1
theorem Inv.mod(I:Inv X oh σ H s):Mod X.K X.mg X.base:=I.ok.mod
def Inv.kIn(I:Inv X oh σ H s):X.K.In s.heap:=I.ok.mod.kin.keeps I.bk
theorem Inv.lt(I:Inv X oh σ H s):X.env.locals<s.heap.objs.size:=let ⟨_,hn,_⟩:=I.loc;hn.lt
def Inv.sz(I:Inv X oh σ H s):X.s₀.heap.objs.size<=s.heap.objs.size:=bX I.ok.above (cC I.lt)
def Inv.nofs(I:Inv X oh σ H s){a:Addr}(h:s.heap.objs.size<=a):a∉X.fs:=λhb=>by
 obtain⟨_,o,l,_⟩:=I.ok.funs.mem hb;exact absurd (aU (ar l) (bX I.sz h)) (dN _)
def Inv.cne(I:Inv X oh σ H s):∀x c,X.env.cells.lookup x=some c->c≠X.env.locals:=λx c e z=>by
 obtain⟨v,o,t,hd⟩:=I.cell x c e;obtain⟨m,⟨u,B,E,l,n,_⟩,_⟩:=I.loc;rw[z,l]at t;cases t;rw[n]at hd;cases hd
theorem Inv.funs(I:Inv X oh σ H s):s.heap.FunFrames X.base X.outer:=by
 have all:∀(l:List Env),(∀b∈RN l,b∈X.fs)->X.s₀.heap.FunFrames X.base l->s.heap.FunFrames X.base l:=by
  intro l
  induction l with
  |nil=>intro _ _;trivial
  |cons env r x=>
   intro u hl;obtain⟨hk,⟨L,o,n,hn,B,hd⟩,hr⟩:=hl;have t:L∈X.fs:=u L (by unfold RN;rw[fZ,n];exact ao)
   obtain⟨E,e⟩:=I.base.slot L o B (I.ok.frf L t) t λz=>I.ok.exfs L z t
   exact⟨hk,⟨L,_,n,hn,e,hd⟩,x (λb hb=>u b (by unfold RN;rw[fZ,n];exact mCo _ hb)) hr⟩
 exact all X.outer (λ_ hb=>hb) I.ok.funs
theorem Inv.stack(I:Inv X oh σ H s):s.heap.FunFrames X.base X.stack:=by
 rcases I.ok.stk with e|⟨e,l⟩
 .rw[e];exact I.funs
 .rw[e];obtain⟨m,hn,_⟩:=I.loc;refine .cons (by rw[I.ok.kind];decide) l hn ?_ I.funs
  exact Heap.get?_none_of_le (bX I.ok.bsz I.ok.above)
def Inv.stkSub(I:Inv X oh σ H s):∀b∈RN X.stack,b∈X.env.locals::X.fs:=λb hb=>by
 rcases I.ok.stk with e|⟨e,l⟩
 .rw[e]at hb;exact mCo _ hb
 .rw[e]at hb;unfold RN at hb;rw[fZ,l]at hb;exact hb
def Inv.stkFree(I:Inv X oh σ H s):∀b∈RN X.stack,H b=none:=λb hb=>by
 rcases ab.mp (I.stkSub b hb)with e|hb
 .rw[e];exact I.free
 .obtain⟨_,o,l,_⟩:=I.ok.funs.mem hb;exact I.base.free b o l (I.ok.frf b hb) λz=>I.ok.exfs b z hb
def Inv.step{g':Array GenState}{t':Nat}{d':Drawn}{ch:Δ}(I:Inv X oh σ H s)
  (B:∀b∈ch,(b∈X.ex∨X.s₀.heap.objs.size<=b)/\b≠X.env.locals/\(∀x c,X.env.cells.lookup x=some c->c≠b)/\∀p∈X.pn++oh,p.1≠b)
  (keep:∀b o,b≠X.env.locals->b∉X.fs->b∉ch->s.heap.get? b=some o->H b=none->h'.get? b=some o)
  (slot:∀b o,b≠X.env.locals->b∈X.fs->b∉ch->s.heap.get? b=some o->H b=none->∃R,h'.get? b=some { o with slots:=R }) (free:∀b o,b∉ch->s.heap.get? b=some o->H b=none->H' b=none)
  (there:∀b o,b∉ch->s.heap.get? b=some o->∃O,h'.get? b=some O)
  (tups:∀b xs,H b=some (.tup xs)->H' b=some (.tup xs)) (frzs:∀b o u,H b=some (.frz o u)->H' b=some (.frz o u)) (tbls:∀b ps,H b=some (.tbl ps)->∃more,H' b=some (.tbl (ps++more)))
  (ns:∀m,s.heap.Ns X.env.locals m->h'.Ns X.env.locals m) (hok:CJ X.prog X.w H' h') (hg:lu g') :
  Inv X oh σ H' { s with heap:=h',gens:=g',drawn:=d',toks:=t' }:=by
 have P:∀b o,X.s₀.heap.get? b=some o->b≠X.env.locals:=λb o e=>aN (aU (ar e) I.ok.above)
 have J:∀b o,X.s₀.heap.get? b=some o->b∉X.ex->b∉ch:=λb o e t hb=>by
  rcases(B b hb).1 with z|z
  .exact t z
  .exact absurd (aU (ar e) z) (dN _)
 have E:∀x c,X.env.cells.lookup x=some c->∀v,s.heap.IsCell c v->h'.IsCell c v:=λx c e v ⟨o,M,hd⟩=>by
  have G:c∉ch:=λz=>(B c z).2.2.1 x c e rfl
  by_cases T:c∈X.fs
  .obtain⟨R,q⟩:=slot c o (I.cne x c e) T G M (I.freeC x c e);exact⟨_,q,hd⟩
  .exact⟨o,keep c o (I.cne x c e) T G M (I.freeC x c e),hd⟩
 refine⟨I.ok,I.os,hg,⟨λb o e n hb t=>?_,λb o e n hb t=>?_,λb o e n t=>?_,λb o e t=>?_,λb xs e=>tups b xs (I.base.tups b xs e),λb o xs e=>frzs b o xs (I.base.frzs b o xs e),λb ps e=>?_⟩,?_,λx c e=>?_,?_,λx c e=>?_,λp U=>?_,hok,I.len⟩
 .exact keep b o (P b o e) hb (J b o e t) (I.base.keep b o e n hb t) (I.base.free b o e n t)
 .obtain⟨R,L⟩:=I.base.slot b o e n hb t;obtain⟨S,Q⟩:=slot b _ (P b o e) hb (J b o e t) L (I.base.free b o e n t);exact⟨S,Q⟩
 .obtain⟨O,L⟩:=I.base.there b o e t;exact free b O (J b o e t) L (I.base.free b o e n t)
 .obtain⟨O,L⟩:=I.base.there b o e t;exact there b O (J b o e t) L
 .obtain⟨m1,L⟩:=I.base.tbls b ps e;obtain⟨m2,Q⟩:=tbls b _ L;exact⟨m1++m2,by rw[Q,Array.append_assoc]⟩
 .obtain⟨m,hn,hl⟩:=I.loc;refine⟨m,ns m hn,λi x v L Q e3=>?_⟩
  obtain⟨u,r,l⟩:=hl i x v L Q e3;refine⟨u,r,?_⟩;rcases l with l|⟨k,c,e,z⟩
  .exact .inl l
  .exact .inr ⟨k,c,e,E x c e _ z⟩
 .obtain⟨v,z⟩:=I.cell x c e;exact⟨v,E x c e v z⟩
 .obtain⟨m,⟨o,_,_,M,_⟩,_⟩:=I.loc;exact free _ o (λz=>(B _ z).2.1 rfl) M I.free
 .obtain⟨v,o,M,hd⟩:=I.cell x c e;exact free c o (λz=>(B c z).2.2.1 x c e rfl) M (I.freeC x c e)
 .obtain⟨e,n,ne,Y,d⟩:=I.pin p U;have G:p.1∉ch:=λz=>(B p.1 z).2.2.2 p U rfl
  exact⟨keep p.1 p.2 ne Y G e n,free p.1 p.2 G e n,ne,Y,d⟩
def Inv.un{t':Nat}(I:Inv X oh σ H s)(u:Un X.fs [] H H' s.heap h')(hok:CJ X.prog X.w H' h'):Inv X oh σ H' { s with heap:=h',toks:=t' }:=by
 obtain⟨m,⟨o,L,M,B,r⟩,_⟩:=id I.loc;obtain⟨O,E⟩:=u.any B I.free (by simp)
 exact I.step (g':=s.gens) (d':=s.drawn) (ch:=[]) (λ_ z=>nomatch z) (λb o _ hb _ e n=>u.keep b o e n hb (by simp)) (λb o _ hb _ e n=>u.slot b o e n hb (by simp)) (λb o _ e n=>u.free b o e n (by simp)) (λb o _ e=>u.there b o e (by simp)) u.tups u.frzs u.tbls (λP G=>by
  obtain⟨Q,t,x,l,J⟩:=G;rw[B]at l;cases l;exact⟨_,t,x,E,J⟩) hok I.bare
def Inv.call{g':Array GenState}{t':Nat}{d':Drawn}{ch:Δ}(I:Inv X oh σ H s)(u:Un (RN X.stack) ch H H' s.heap h')(hok:CJ X.prog X.w H' h')(M:lu g')
  (t:∀b∈ch,(b∈X.ex∨X.s₀.heap.objs.size<=b)/\b≠X.env.locals/\(∀x c,X.env.cells.lookup x=some c->c≠b)/\∀p∈X.pn++oh,p.1≠b) :
  Inv X oh σ H' { s with heap:=h',gens:=g',drawn:=d',toks:=t' }:=by
 obtain⟨m,⟨o,Q,R,L,r⟩,_⟩:=id I.loc;obtain⟨S,E⟩:=u.any L I.free λz=>(t _ z).2.1 rfl
 exact I.step (ch:=ch) t (λb o E hb l e n=>u.keep b o e n (λz=>(ab.mp (I.stkSub b z)).elim E hb) l) (λb o _ _ l e n=>u.any e n l) (λb o l e n=>u.free b o e n l) (λb o l e=>u.there b o e l) u.tups u.frzs u.tbls (λT O=>by
  obtain⟨U,G,J,B,P⟩:=O;rw[L]at B;cases B;exact⟨_,G,J,E,P⟩) hok M
def Inv.turned{t':Nat}{l:Addr}(I:Inv X oh σ H s)(k:∀b o,b≠l->s.heap.get? b=some o->h'.get? b=some o)(hn:H l=none)(E:l≠X.env.locals)
  (G:l∈X.ex∨X.s₀.heap.objs.size<=l) (J:∀x c,X.env.cells.lookup x=some c->c≠l) (L:∀p∈X.pn++oh,p.1≠l):Inv X oh σ H { s with heap:=h',toks:=t' }:=by
 have B:∀b u,H b=some u->b≠l:=λb u e z=>by rw[z,hn]at e;cases e
 refine I.step (g':=s.gens) (d':=s.drawn) (ch:=[l]) (λb hb=>?_) (λb o _ _ t e _=>k b o (λz=>t (by simp[z])) e) (λb o _ _ t e _=>⟨o.slots,k b o (λz=>t (by simp[z])) e⟩) (λ_ _ _ _ n=>n)
  (λb o t e=>⟨o,k b o (λz=>t (by simp[z])) e⟩) (λ_ _ e=>e) (λ_ _ _ e=>e) (λb R e=>⟨#[],by rw[e];simp⟩) (λm M=>?_) (λb u e=>?_) I.bare
 .have e:b=l:=by simpa using hb
  subst e;exact⟨G,E,J,L⟩
 .obtain⟨o,O,P,Q,r⟩:=M;exact⟨o,O,P,k _ o (Ne.symm E) Q,r⟩
 .refine(I.hok b u e).stay (λc v t q=>k c v ?_ q) (λ_ q=>q) λ_ _ q=>q
  rcases t with z|z
  .rw[z];exact B b u e
  .exact B c _ z
def Inv.tok(I:Inv X oh σ H s)(t:Nat):Inv X oh σ H { s with toks:=t }:=I.un (h':=s.heap) (t':=t) Un.refl I.hok
theorem Inv.kept{t':Nat}(I:Inv X oh σ H s)(k:∀b u,s.heap.get? b=some u->h'.get? b=some u):Inv X oh σ H { s with heap:=h',toks:=t' }:=I.un (Un.kept k) (I.hok.kept k)
theorem Inv.laid{a:Addr}{o:HO}{t':Nat}(I:Inv X oh σ H s)(k:∀b u,s.heap.get? b=some u->h'.get? b=some u)(l:s.heap.objs.size<=a)(new:rO X.prog X.w (qC H a o) h' a o) :
  Inv X oh σ (qC H a o) { s with heap:=h',toks:=t' }:=I.un (Un.laid k l (I.hok.fresh l)) (I.hok.laid k l new)
theorem Inv.write{x e:Addr}{o:HO}{t':Nat}(I:Inv X oh σ H s)(mu:Mut (H x))(n:e=x∨H e=some (.own x))(k:∀b u,b≠e->s.heap.get? b=some u->h'.get? b=some u)(l:∃u,h'.get? e=some u)
  (new:rO X.prog X.w (qC H x o) h' x o):Inv X oh σ (qC H x o) { s with heap:=h',toks:=t' }:=I.un (Un.write mu n k l) (I.hok.write mu n k l new)
def Inv.pins_of{l:Φ}(I:Inv X oh σ H s)(h:∀p∈l,s.heap.get? p.1=some p.2/\H p.1=none/\p.1≠X.env.locals/\p.1∉X.fs/\∀v,p.2.data ≠ .cell v):Inv X l σ H s:=
 ⟨I.ok,I.os,I.bare,I.base,I.loc,I.cell,I.free,I.freeC,λp n=>(mAq.mp n).elim (λz=>I.pin p (bG _ z)) (h p),I.hok,I.len⟩
def LG{N:List Str}(l:N.Nodup){i j:Nat}{x:Str}(a:N[i]?=some x)(b:N[j]?=some x):i=j:=by
 obtain⟨u,n⟩:=gSq.mp a;obtain⟨z,t⟩:=gSq.mp b;exact(List.getElem_inj l).mp (n.trans t.symm)
def Q9{M:Model}{A:Around}{E:Value->jJ->Prop}{i:Nat}{x:Str}{v:V}{u:Value}{Q:Unit->jJ->Prop}(I:Inv X oh σ H s)(hN:X.N.Nodup)(hi:X.N[i]?=some x)(J:Loc X.env.scope x)(r:qA v u)
  (h:∀s',Inv X oh (σ.set i (some v)) H s'->(∃a,fh a s.heap s'.heap/\(a=X.env.locals∨X.env.cells.lookup x=some a))->Q () s') (hf:X.fn x=true∨X.env.scope.names.lookup x=some .local:=by trivial):jR M A (storeName X.env x u) Q E s:=by
 obtain⟨m,hn,hl⟩:=id I.loc;have T:(X.env.scope.kind == .class || (X.env.scope.kind == .module && X.env.locals != X.env.globals))=false:=by rw[I.ok.kind];rfl
 have P:i<σ.length:=by rw[I.len];exact(gSq.mp hi).1
 have cne:=I.cne;have t:∀{a:Addr}{h':Heap},(∃o,s.heap.get? a=some o/\H a=none)->fh a s.heap h'->CJ X.prog X.w H h':=λ{a h'} ha l b ob e=>by
  obtain⟨_,_,L⟩:=ha;refine(I.hok b ob e).stay (λc w' G q=>(l.2 c ?_).trans q) (λ_ q=>q) λ_ _ q=>q
  rintro rfl;rcases G with rfl|G
  .rw[L]at e;cases e
  .rw[L]at G;cases G
 rcases J with hk|hk
 .refine wpAny_storeName_local hk hn (λh' hn' l=>?_) T
  obtain⟨oL,_,_,hoL,_⟩:=id hn;refine h _ ⟨I.ok,I.os,I.bare,⟨λb o e n hb J=>?_,λb o e n hb J=>?_,I.base.free,λb o e J=>?_,I.base.tups,I.base.frzs,I.base.tbls⟩,⟨_,hn',λj y v' B O e3=>?_⟩,λy c e=>?_,I.free,I.freeC,λp hp=>?_,t ⟨oL,hoL,I.free⟩ l,by simpa using I.len⟩ ⟨_,l,.inl rfl⟩
  .exact(l.2 b (aN (aU (ar e) I.ok.above))).trans (I.base.keep b o e n hb J)
  .obtain⟨sl,B⟩:=I.base.slot b o e n hb J;exact⟨sl,(l.2 b (aN (aU (ar e) I.ok.above))).trans B⟩
  .obtain⟨o',B⟩:=I.base.there b o e J;exact⟨o',(l.2 b (aN (aU (ar e) I.ok.above))).trans B⟩
  .by_cases R:j=i
   .subst R;rw[hi]at B;cases B;rw[aS P]at O;cases O;exact⟨u,r,.inl ⟨hk,by simp⟩⟩
   .rw[aF (Ne.symm R)]at O;obtain⟨u',r',q⟩:=hl j y v' B O e3;refine⟨u',r',?_⟩;rcases q with⟨k,e⟩|⟨k,c,e,z⟩
    .refine .inl ⟨k,?_⟩;have:y≠x:=λe=>R (LG hN B (e ▸ hi))
     simp[this,e]
    .exact .inr ⟨k,c,e,z.sameBut l (cne y c e)⟩
  .obtain⟨w',z⟩:=I.cell y c e;exact⟨w',z.sameBut l (cne y c e)⟩
  .obtain⟨e,n,ne,nf,d⟩:=I.pin p hp;exact⟨(l.2 p.1 ne).trans e,n,ne,nf,d⟩
 .have S:X.fn x=true:=by
   rcases hf with z|z
   .exact z
   .rw[z]at hk;cases hk
  obtain⟨c,G⟩:=I.ok.has x (.inl hk);obtain⟨w',z⟩:=I.cell x c G;refine wpAny_storeName_cell I.ok.kind hk G z (λh' U l=>?_)
  obtain⟨oc,Y,hocd⟩:=id z;refine h { s with heap:=h' } ⟨I.ok,I.os,I.bare,⟨λb o e n hb J=>?_,λb o e n hb J=>?_,I.base.free,λb o e J=>?_,I.base.tups,I.base.frzs,I.base.tbls⟩,⟨m,hn.sameBut l (Ne.symm (cne x c G)),λj y v' B O e3=>?_⟩,λy c' e=>?_,I.free,I.freeC,λp hp=>?_,t ⟨oc,Y,I.freeC x c G⟩ l,by simpa using I.len⟩ ⟨c,l,.inr G⟩
  .exact(l.2 b (aN (aU (ar e) (I.ok.cab x c S G)))).trans (I.base.keep b o e n hb J)
  .obtain⟨sl,B⟩:=I.base.slot b o e n hb J;exact⟨sl,(l.2 b (aN (aU (ar e) (I.ok.cab x c S G)))).trans B⟩
  .obtain⟨o',B⟩:=I.base.there b o e J;exact⟨o',(l.2 b (aN (aU (ar e) (I.ok.cab x c S G)))).trans B⟩
  .by_cases R:j=i
   .subst R;rw[hi]at B;cases B;rw[aS P]at O;cases O;exact⟨u,r,.inr ⟨.inl hk,c,G,U⟩⟩
   .rw[aF (Ne.symm R)]at O;obtain⟨u',r',q⟩:=hl j y v' B O e3;refine⟨u',r',?_⟩;rcases q with q|⟨k,c',e,z'⟩
    .exact .inl q
    .refine .inr ⟨k,c',e,z'.sameBut l ?_⟩;rintro rfl;exact R (LG hN B (I.ok.inj _ _ _ e G ▸ hi))
  .by_cases hcc:c'=c
   .subst hcc;exact⟨_,U⟩
   .obtain⟨w2,z2⟩:=I.cell y c' e;exact⟨w2,z2.sameBut l hcc⟩
  .obtain⟨e,n,ne,nf,d⟩:=I.pin p hp;refine⟨(l.2 p.1 ?_).trans e,n,ne,nf,d⟩;intro q;rw[q,Y]at e;have q':oc=p.2:=aw.inj e;exact d w' (by rw[←q'];exact hocd)
def K9{M:Model}{A:Around}{E:Value->jJ->Prop}{i:Nat}{x:Str}{v:V}{u:Value}{Q:Unit->jJ->Prop}(I:Inv X oh σ H s)(n:X.N.Nodup)(hi:X.N[i]?=some x)(t:Loc X.env.scope x)(r:qA v u)
  (h:∀l,Inv X oh (σ.set i (some v)) H l->Q () l) (z:X.fn x=true∨X.env.scope.names.lookup x=some .local:=by trivial):jR M A (storeName X.env x u) Q E s:=
 Q9 I n hi t r (λl B _=>h l B) z
def Inv.call'{l:jJ}{ch:Δ}(I:Inv X oh σ H s)(t:l.os=s.os)(u:Un (RN X.stack) ch H H' s.heap l.heap)(hok:CJ X.prog X.w H' l.heap)(z:lu l.gens)
  (n:∀b∈ch,(b∈X.ex∨X.s₀.heap.objs.size<=b)/\b≠X.env.locals/\(∀x c,X.env.cells.lookup x=some c->c≠b)/\∀p∈X.pn++oh,p.1≠b):Inv X oh σ H' l:=by
 obtain⟨h',B,E,G,J⟩:=l;have e:J=s.os:=t;subst e;exact I.call (g':=B) (t':=G) (d':=E) u hok z n
end
abbrev XK:=Value->Option Addr->Hp->Prop
abbrev St:=List (Option V)
abbrev VK:=V->Hp->Prop
abbrev TE:=St->Hp->VK->Prop
abbrev TT:=St->Hp->(Bool->Hp->Prop)->Prop
abbrev TA:=St->Hp->(List V->Hp->Prop)->Prop
structure AN where
 nx:St->Hp->Prop
 rt:VK
 bk:St->Hp->Prop:=λ_ _=>False
 ct:St->Hp->Prop:=λ_ _=>False
abbrev TS:=AN->St->Hp->Prop
def EP(X:Cx)(n:Φ)(σ:St)(Q:VK)(u:Value)(s:jJ):Prop:=∃v l,Inv X n σ l s/\qA v u/\Q v l
def TP(X:Cx)(n:Φ)(σ:St)(Q:Bool->Hp->Prop)(b:Bool)(s:jJ):Prop:=∃l,Inv X n σ l s/\Q b l
def AP(X:Cx)(n:Φ)(σ:St)(Q:List V->Hp->Prop)(us:Ξ)(s:jJ):Prop:=∃vs l,Inv X n σ l s/\pU vs us/\Q vs l
def SP(X:Cx)(s:Φ)(D:AN)(f:Flow)(t:jJ):Prop:=
 match f with
 | .next=>∃l n,Inv X s l n t/\D.nx l n
 | .brk=>∃l n,Inv X s l n t/\D.bk l n
 | .cont=>∃l n,Inv X s l n t/\D.ct l n
 | .ret u=>∃v l n,Inv X s l n t/\qA v u/\D.rt v n
def PE(X:Cx)(e:Expr)(t:TE):Prop:=
 ∀(l:Φ) (s:jJ) (σ:St) (H:Hp) (Q:VK),Inv X l σ H s->t σ H Q->jR (jN X.prog X.w) X.A (eval e X.env) (EP X l σ Q) X.xe s
def PT(X:Cx)(e:Expr)(t:TT):Prop:=
 ∀(l:Φ) (s:jJ) (σ:St) (H:Hp) (Q:Bool->Hp->Prop),Inv X l σ H s->t σ H Q->jR (jN X.prog X.w) X.A (mJ e X.env (eval e X.env)) (TP X l σ Q) X.xe s
def PW(X:Cx)(e:Expr)(t:TT):Prop:=
 ∀(l:Sem Value) (n:Φ) (s:jJ) (σ:St) (H:Hp) (Q:Bool->Hp->Prop),Inv X n σ H s->t σ H Q->jR (jN X.prog X.w) X.A (mJ e X.env l) (TP X n σ Q) X.xe s
noncomputable def PW.pt{X:Cx}{e:Expr}{t:TT}(h:PW X e t):PT X e t:=h _
def PA(X:Cx)(es:List Expr)(t:TA):Prop:=
 ∀(pos:Pos) (l:Φ) (s:jJ) (σ:St) (H:Hp) (Q:List V->Hp->Prop),Inv X l σ H s->t σ H Q->jR (jN X.prog X.w) X.A (spliced (ko pos (jT es X.env))) (AP X l σ Q) X.xe s
def PS(X:Cx)(st:Stmt)(t:TS):Prop:=
 ∀(l:Φ) (s:jJ) (σ:St) (H:Hp) (D:AN),Inv X l σ H s->t D σ H->jR (jN X.prog X.w) X.A (exec st X.env) (SP X l D) X.xe s
def Oq(X:Cx)(st:List Stmt)(t:TS):Prop:=
 ∀(l:Φ) (s:jJ) (σ:St) (H:Hp) (D:AN),Inv X l σ H s->t D σ H->jR (jN X.prog X.w) X.A (execs st X.env) (SP X l D) X.xe s
noncomputable def rQ{α:Type}{t:Sem α}{Q l:α->jJ->Prop}{M:Model}{A:Around}{E:Value->jJ->Prop}{s:jJ}(h:jR M A t Q E s)(n:∀a s,Q a s->l a s):jR M A t l E s:=kc h n λ_ _ x=>x
section
variable {X:Cx}
noncomputable def vA(i:Nat):TE:=λσ H Q=>∃v,σ[i]?=some (some v)/\Q v H
noncomputable def tC(v:V):TE:=λ_ H Q=>Q v H
def abF{i:Nat}{x:Str}{pos:Pos}(B:X.N[i]?=some x)(E:Vis X.env.scope x)(hd:(x == ("__debug__" : Str))=false:=by decide)(t:(x == ("__classdict__" : Str))=false:=by decide):PE X (.Name x pos) (vA i):=by
 intro G s σ H Q I h;obtain⟨v,e,h⟩:=h;obtain⟨m,hn,hl⟩:=I.loc;obtain⟨u,r,l⟩:=hl i x v B e E;have fin:EP X G σ Q u s:=⟨v,H,I,r,h⟩;rcases l with⟨hk,J⟩|⟨hk,c,z,n⟩
 .exact wpAny_Name (wpAny_loadName_local I.ok.kind hk hn J fin) hd
 .rcases hk with hk|hk
  .exact wpAny_Name (wpAny_loadName_cell I.ok.kind hk z n fin) hd
  .exact wpAny_Name (wpAny_loadName_free I.ok.kind hk z n fin t) hd
def ot{i j pos}:PE X (.Constant (.int i) j pos) (tC (.int i)):=λ_ _ _ H _ I h=>wpAny_Constant_int ⟨.int i,H,I.tok _,⟨_,rfl⟩,h⟩
def yf{b j pos}:PE X (.Constant (.bool b) j pos) (tC (.bl b)):=λ_ _ _ H _ I h=>Constant_bool ⟨.bl b,H,I,rfl,h⟩
def zX{j pos}:PE X (.Constant .none j pos) (tC .non):=λ_ _ _ H _ I h=>Constant_none ⟨.non,H,I,rfl,h⟩
def D8{x j pos}:PE X (.Constant (.str x) j pos) (tC (.str x)):=λ_ _ _ H _ I h=>Calls.Constant_str ⟨.str x,H,I.tok _,⟨_,rfl⟩,h⟩
def Gl(X:Cx)(x:Str):Prop:=X.env.kindOf x=some .globalImplicit
def J6{E:Value->jJ->Prop}{l:Φ}{s:jJ}{σ:St}{H:Hp}{x:Str}{u:Value}{pos:Pos}{Q:Value->jJ->Prop}(I:Inv X l σ H s)(n:Gl X x)(t:X.mg x=some u)(h:Q u s)
  (hd:(x == ("__debug__" : Str))=false:=by decide):jR (jN X.prog X.w) X.A (eval (.Name x pos) X.env) Q E s:=
 Calls.Name_function_global I.ok.kind n (Calls.loadGlobal_global (by rw[I.ok.glob];exact I.mod.glob.keeps I.bk) t h) hd
def Eh{E:Value->jJ->Prop}{l:Φ}{s:jJ}{σ:St}{H:Hp}{x:Str}{u:Value}{pos:Pos}{Q:Value->jJ->Prop}(I:Inv X l σ H s)(n:Gl X x)(t:X.mg x=none)(z:kO x=some u)(h:Q u s)
  (hn:x ≠ "__name__" := by decide) (hd:(x == ("__debug__" : Str))=false:=by decide):jR (jN X.prog X.w) X.A (eval (.Name x pos) X.env) Q E s:=by
 obtain⟨J,B,G⟩:=I.mod.blt;exact Calls.Name_function_global I.ok.kind n (Calls.loadGlobal_builtin (by rw[I.ok.glob];exact I.mod.glob.keeps I.bk) t (by rw[I.ok.blt];exact B.keeps I.bk) ((G x hn).trans z) h) hd
def OA{x:Str}{v:V}{u:Value}{pos:Pos}(l:Gl X x)(n:X.mg x=some u)(r:qA v u)(hd:(x == ("__debug__" : Str))=false:=by decide):PE X (.Name x pos) (tC v):=
 λ_ _ _ H _ I h=>J6 I l n ⟨v,H,I,r,h⟩ hd
def vO{x:Str}{v:V}{u:Value}{pos:Pos}(l:Gl X x)(n:X.mg x=none)(s:kO x=some u)(r:qA v u)(hn:x ≠ "__name__" := by decide)(hd:(x == ("__debug__" : Str))=false:=by decide):PE X (.Name x pos) (tC v):=
 λ_ _ _ H _ I h=>Eh I l n s ⟨v,H,I,r,h⟩ hn hd
variable {a b:Expr}{ta tb:TE}{pos:Pos}
def PC(X:Cx)(z:CmpOp)(a b:Expr)(t:TE):Prop:=
 ∀(x:Φ) (s:jJ) (σ:St) (H:Hp) (Q:VK),Inv X x σ H s->t σ H Q ->
  jR (jN X.prog X.w) X.A (eval a X.env) (λv l=>jR (jN X.prog X.w) X.A (eval b X.env) (λu n=>jR (jN X.prog X.w) X.A (kg z v u) (EP X x σ Q) X.xe n) X.xe l) X.xe s
noncomputable def tB(t:TE):TT:=λσ H Q=>t σ H λx l=>∃c,x = .bl c/\Q c l
def Cm{n:CmpOp}{t:TE}(h:PC X n a b t)(z:kU n b=false:=by first|exact l _ (by decide) (by decide)|rfl):PT X (.Compare a [n] [b] pos) (tB t):=by
 intro B s σ H Q I hw;refine mE (rQ (h B s σ H _ I hw) λv O z=>rQ z λu P E=>rQ E λc R ⟨x,G,J,L,M⟩=>?_) z
 obtain⟨d,rfl,q⟩:=M;cases L;exact kq ⟨G,J,q⟩
def A6{e:Expr}{t:TE}(h:PE X e t)(n:∀l,mJ e X.env l=(do let v ←l;lU e.pos;lY [v] (truthy v)):=by intro _;rfl):PT X e (tB t):=by
 intro u s σ H Q I hw;refine isTrue_plain (rQ (h u s σ H _ I hw) λv J ⟨x,z,B,E,G⟩=>?_) (n _)
 obtain⟨d,rfl,q⟩:=G;cases E;exact kq ⟨z,B,q⟩
variable {tA tB':TT}{rest:List Expr}
noncomputable def aeg(t u:TT):TT:=λσ H Q=>t σ H λc l=>if c=true then u σ l Q else Q false l
noncomputable def tOr(t u:TT):TT:=λσ H Q=>t σ H λc l=>if c=true then Q true l else u σ l Q
noncomputable def ad9(t:TT):TT:=λσ H Q=>t σ H λc l=>Q (!c) l
def Wr(ha:PT X a tA):PW X (.BoolOp .And [a] pos) tA:=by
 intro n l s σ H Q I h;refine isTrue_and (rQ (ha l s σ H Q I h) λc t e=>?_)
 cases c with
 |true=>exact isTrue_and_nil e
 |false=>exact e
def NS(ha:PT X a tA):PW X (.BoolOp .Or [a] pos) tA:=by
 intro n l s σ H Q I h;refine isTrue_or (rQ (ha l s σ H Q I h) λc t e=>?_)
 cases c with
 |false=>exact isTrue_or_nil e
 |true=>exact e
def ab1(ha:PT X a tA)(hb:PW X (.BoolOp .And (b::rest) pos) tB'):PW X (.BoolOp .And (a::b::rest) pos) (aeg tA tB'):=by
 intro x l s σ H Q I h;refine isTrue_and (rQ (ha l s σ H _ I h) λc z ⟨n,t,u⟩=>?_)
 cases c with
 |true=>exact hb x l z σ n Q t u
 |false=>exact⟨n,t,u⟩
def UN(ha:PT X a tA)(hb:PW X (.BoolOp .Or (b::rest) pos) tB'):PW X (.BoolOp .Or (a::b::rest) pos) (tOr tA tB'):=by
 intro x l s σ H Q I h;refine isTrue_or (rQ (ha l s σ H _ I h) λc z ⟨n,t,u⟩=>?_)
 cases c with
 |true=>exact⟨n,t,u⟩
 |false=>exact hb x l z σ n Q t u
def A0(ha:PT X a tA):PT X (.UnaryOp .Not a pos) (ad9 tA):=by
 intro l s σ H Q I h;exact isTrue_not (ha l s σ H (λc n=>Q (!c) n) I h)
noncomputable def Zm(ta tb:TE):TE:=λσ H Q=>ta σ H λx l=>∃c,x = .bl c/\if c=true then tb σ l Q else Q (.bl false) l
noncomputable def Zu(ta:TE):TE:=λσ H Q=>ta σ H λx l=>∃c,x = .bl c/\Q (.bl (!c)) l
noncomputable def Ta{op}{t:TE}(h:PE X a t):PE X (.BoolOp op [a] pos) t:=λl s σ H Q I hw=>BoolOp_one (h l s σ H Q I hw)
def NC(ha:PE X a ta)(hb:PE X (.BoolOp .And (b::rest) pos) tb):PE X (.BoolOp .And (a::b::rest) pos) (Zm ta tb):=by
 intro n s σ H Q I h;refine BoolOp_and (rQ (ha n s σ H _ I h) λv z ⟨x,t,u,B,l⟩=>?_)
 obtain⟨c,rfl,l⟩:=l;cases B;refine kq ?_;cases c with
 |true=>exact hb n z σ t Q u l
 |false=>exact⟨.bl false,t,u,rfl,l⟩
def acb(ha:PE X a ta):PE X (.UnaryOp .Not a pos) (Zu ta):=by
 intro n s σ H Q I h;refine UnaryOp_ (rQ (ha n s σ H _ I h) λv B ⟨x,t,u,z,l⟩=>?_)
 obtain⟨c,rfl,l⟩:=l;cases z;exact not_of (kq ⟨.bl (!c),t,u,rfl,l⟩)
end
def rz(K:Ζ)(H:Hp)(a:Addr)(xs:List V):Prop:=
 Rd H a (.lst xs) ∨
  ∃(o:Obj) (l:Ω) (n:Nat),K.lookup a=some o/\o.cls = .type "list" /\ o.dict=none/\o.data = .seq l n/\l.size<=jP/\pU xs l.toList
def Ej(K:Ζ)(H:Hp)(a:Addr)(xs:List V):Prop:=
 Rd H a (.tup xs) ∨
  ∃(o:Obj) (l:Ω) (n:Nat),K.lookup a=some o/\o.cls = .type "tuple" /\ o.data = .seq l n/\l.size<=jP/\pU xs l.toList
def afx:Value->Option V
 | .none=>some .non
 | .bool b=>some (.bl b)
 | .int i _=>some (.int i)
 | .str x _=>some (.str x)
 | .bytes b _=>some (.byt b)
 | .float b _=>some (.flt b)
 | .ref a=>some (.ref a)
 | .type n=>some (.ty n)
 |_=>none
def qA.abs{x:V}{u:Value}(r:qA x u):afx u=some x:=by
 cases x with
 |non=>cases r;rfl
 |bl _=>cases r;rfl
 |int _=>obtain⟨t,rfl⟩:=r;rfl
 |str _=>obtain⟨t,rfl⟩:=r;rfl
 |byt _=>obtain⟨t,rfl⟩:=r;rfl
 |flt _=>obtain⟨t,rfl⟩:=r;rfl
 |ref _=>cases r;rfl
 |ty _=>cases r;rfl
theorem qA.inj{x y:V}{u:Value}(r:qA x u)(q:qA y u):x=y:=aw.inj (r.abs.symm.trans q.abs)
theorem pU.inj:∀{xs ys:List V}{us:Ξ},pU xs us->pU ys us->xs=ys
 |_,_,_,.nil,.nil=>rfl
 |_,_,_,.cons r t,.cons l n=>by rw[r.inj l,pU.inj t n]
section
variable {X:Cx}{oh:Φ}{σ:St}{H:Hp}{s:jJ}{a:Addr}{xs ys:List V}
noncomputable def rz.of{K:Ζ}(h:H a=some (.lst xs)):rz K H a xs:=.inl (.inl h)
noncomputable def Ej.of{K:Ζ}(h:H a=some (.tup xs)):Ej K H a xs:=.inl (.inl h)
def Inv.list(I:Inv X oh σ H s)(h:rz X.K H a xs):∃l:Ξ,pU xs l/\PlainL s.heap a l.toArray/\xs.length<=jP:=by
 rcases h with h|⟨o,l,n,hk,t,hd,u,x,r⟩
 .obtain⟨z,l,n,r,e⟩:=h.ok I.hok;exact⟨l,r,⟨_,n,e,rfl,rfl,rfl⟩,z⟩
 .refine⟨l.toList,r,⟨o,n,I.kIn a o hk,t,hd,by simpa using u⟩,?_⟩
  have e:=r.length;simp only[au]at e;lia
def Inv.tuple(I:Inv X oh σ H s)(h:Ej X.K H a xs):∃l:Ξ,pU xs l/\IsTup s.heap a l.toArray/\xs.length<=jP:=by
 rcases h with h|⟨o,l,n,hk,t,u,x,r⟩
 .obtain⟨z,l,r,p⟩:=h.ok I.hok;exact⟨l,r,p,z⟩
 .refine⟨l.toList,r,⟨o,I.kIn a o hk,t,n,by simpa using u⟩,?_⟩
  have e:=r.length;simp only[au]at e;lia
def Inv.list_inj(I:Inv X oh σ H s)(h:rz X.K H a xs)(h':rz X.K H a ys):xs=ys:=by
 obtain⟨t,r,⟨o,n,e,_,_,d⟩,_⟩:=I.list h;obtain⟨l,z,⟨E,G,u,_,_,x⟩,_⟩:=I.list h';rw[e]at u;cases u;rw[d]at x;injection x with B _
 have:t=l:=by simpa using congrArg Array.toList B
 subst this;exact r.inj z
end
noncomputable abbrev Cx.wish(X:Cx)(E:Value->jJ->Prop):Cx:={ X with xe:=E }
abbrev Cx.nox(X:Cx):Cx:=X.wish λ_ _=>False
theorem Cx.Ok.wish{X:Cx}(ok:X.Ok)(E:Value->jJ->Prop):(X.wish E).Ok:=
 ⟨ok.mod,ok.kind,ok.glob,ok.blt,ok.above,ok.inj,ok.has,ok.cab,ok.hd,ok.frames,ok.stk,ok.exf,ok.bs,ok.bsz,ok.noex,ok.exfs,ok.funs,ok.frf⟩
def Cx.Ok.unwish{X:Cx}{E:Value->jJ->Prop}(ok:(X.wish E).Ok):X.Ok:=
 ⟨ok.mod,ok.kind,ok.glob,ok.blt,ok.above,ok.inj,ok.has,ok.cab,ok.hd,ok.frames,ok.stk,ok.exf,ok.bs,ok.bsz,ok.noex,ok.exfs,ok.funs,ok.frf⟩
section
variable {X:Cx}{oh:Φ}{σ:St}{H:Hp}{s:jJ}{E:Value->jJ->Prop}
theorem Inv.wish(I:Inv X oh σ H s)(E:Value->jJ->Prop):Inv (X.wish E) oh σ H s:=⟨I.ok.wish E,I.os,I.bare,I.base,I.loc,I.cell,I.free,I.freeC,I.pin,I.hok,I.len⟩
theorem Inv.unwish(I:Inv (X.wish E) oh σ H s):Inv X oh σ H s:=⟨I.ok.unwish,I.os,I.bare,I.base,I.loc,I.cell,I.free,I.freeC,I.pin,I.hok,I.len⟩
theorem SP.unwish{D:AN}{f:Flow}{t:jJ}(h:SP (X.wish E) oh D f t):SP X oh D f t:=by
 cases f with
 |next=>obtain⟨l,n,I,q⟩:=h;exact⟨l,n,I.unwish,q⟩
 |brk=>obtain⟨l,n,I,q⟩:=h;exact⟨l,n,I.unwish,q⟩
 |cont=>obtain⟨l,n,I,q⟩:=h;exact⟨l,n,I.unwish,q⟩
 |ret u=>obtain⟨v,l,n,I,r,q⟩:=h;exact⟨v,l,n,I.unwish,r,q⟩
theorem Oq.nox{st:List Stmt}{t:TS}(h:Oq X.nox st t):Oq X st t:=λoh s σ H D I hw=>
 kc (h oh s σ H D (I.wish _) hw) (λ_ _ q=>q.unwish) λ_ _ z=>False.elim z
end
section
variable {X:Cx}{st:Stmt}{rest:List Stmt}{t u:TS}{e:Expr}{te:TE}{pos:Pos}
def Zh:TS:=λD σ H=>D.nx σ H
def MV(t u:TS):TS:=λD σ H=>t { D with nx:=u D } σ H
def oU:Oq X [] Zh:=λ_ _ σ H _ I h=>ly ⟨σ,H,I,h⟩
def og(x:PS X st t)(z:Oq X rest u):Oq X (st::rest) (MV t u):=by
 intro n s σ H D I h;refine wpAny_execs_cons (rQ (x n s σ H { D with nx:=u D } I h) λf B q=>?_)
 cases f with
 |next=>
  obtain⟨l,E,G,q⟩:=q;exact z n B l E D G q
 |ret v=>exact q
 |brk=>exact q
 |cont=>exact q
def oq(l:PS X st t):Oq X [st] t:=by
 intro n s σ H D I h;refine wpAny_execs_cons (rQ (l n s σ H D I h) λf x q=>?_)
 cases f with
 |next=>exact ly q
 |ret v=>exact q
 |brk=>exact q
 |cont=>exact q
def Inv.quiet{l:Φ}{σ:St}{H:Hp}{s:jJ}(I:Inv X l σ H s):interactive X.env=false:=by simp[interactive,I.ok.kind]
def AC(te:TE):TS:=λD σ H=>te σ H λ_ l=>D.nx σ l
def qr(l:PE X e te)(n:lJ e none pos.line X.env=pure false:=by rfl):PS X (.Expr e pos) (AC te):=by
 intro z s σ H D I h;exact wpAny_Expr_any (rQ (l z s σ H _ I h) λv J ⟨x,B,E,L,G⟩=>⟨σ,B,E,G⟩) I.quiet n
noncomputable def adI(te:TE):TS:=λD σ H=>te σ H D.rt
def oK(l:PE X e te):PS X (.Return (some e) pos) (adI te):=by
 intro n s σ H D I h;exact wpAny_Return_some (rQ (l n s σ H _ I h) λv J ⟨x,z,B,E,G⟩=>⟨x,σ,z,B,E,G⟩)
noncomputable def V4(c:TT)(t u:TS):TS:=λD σ H=>c σ H λb l=>if b=true then t D σ l else u D σ l
def qi{c:Expr}{a b:List Stmt}{n:TT}(G:PT X c n)(ha:Oq X a t)(hb:Oq X b u):PS X (.If c a b pos) (V4 n t u):=by
 intro l s σ H D I h;refine wpAny_If (rQ (G l s σ H _ I h) λd x ⟨z,B,E⟩=>?_)
 cases d with
 |true=>exact ha l x σ z D B E
 |false=>exact hb l x σ z D B E
noncomputable def UV:TS:=λ_ _ _=>False
def yE:PS X st UV:=λ_ _ _ _ _ _ h=>h.elim
end
abbrev TG:=V->St->Hp->(St->Hp->Prop)->Prop
abbrev Za:=List V->St->Hp->(St->Hp->Prop)->Prop
def PG(X:Cx)(l:Expr)(t:TG):Prop:=
 ∀(x:Φ) (s:jJ) (σ:St) (H:Hp) (v:V) (u:Value) (Q:St->Hp->Prop),Inv X x σ H s->qA v u->t v σ H Q ->
  jR (jN X.prog X.w) X.A (mK l X.env u) (λ_ B=>∃n z,Inv X x n z B/\Q n z) X.xe s
def PGs(X:Cx)(x:List Expr)(t:Za):Prop:=
 ∀(n:Φ) (s:jJ) (σ:St) (H:Hp) (vs:List V) (us:Ξ) (Q:St->Hp->Prop),Inv X n σ H s->pU vs us->t vs σ H Q ->
  jR (jN X.prog X.w) X.A (assignInOrder ((lD x X.env).map (·.2)) us) (λ_ z=>∃l u,Inv X n l u z/\Q l u) X.xe s
section
variable {X:Cx}{pos:Pos}
noncomputable def rS(i:Nat):TG:=λv σ H Q=>Q (σ.set i (some v)) H
def Jm{i:Nat}{x:Str}(l:X.N.Nodup)(hi:X.N[i]?=some x)(n:Loc X.env.scope x)(t:X.fn x=true∨X.env.scope.names.lookup x=some .local:=by trivial):PG X (.Name x pos) (rS i):=by
 intro B s σ H v u Q I r h;exact wpAny_assign_Name (K9 I l hi n r (λE z=>⟨_,H,z,h⟩) t)
noncomputable def Mx:Za:=λvs σ H Q=>vs=[]/\Q σ H
noncomputable def Aj(t:TG)(u:Za):Za:=λvs σ H Q=>∃v r,vs=v::r/\t v σ H λl n=>u r l n Q
def CS:PGs X [] Mx:=by
 intro l s σ H n us Q I r h;obtain⟨e,h⟩:=h;subst e;cases r;exact assignInOrder_nil ⟨σ,H,I,h⟩
def rK{e:Expr}{es:List Expr}{t:TG}{u:Za}(x:PG X e t)(z:PGs X es u)
  (B:(lD (e::es) X.env).map (·.2)=mK e X.env::(lD es X.env).map (·.2):=by rfl):PGs X (e::es) (Aj t u):=by
 intro n s σ H P us Q I r h;obtain⟨v,R,E,h⟩:=h;subst E;cases r with
 |cons r G=>
  rw[B];refine assignInOrder_cons (rQ (x n s σ H _ _ _ I r h) λ_ J ⟨l,L,M,O⟩=>?_)
  exact z n J l L _ _ Q M G O
noncomputable def Mo(K:Ζ)(n:Nat)(t:Za):TG:=λv σ H Q=>∃a xs,v = .ref a/\Ej K H a xs/\xs.length=n/\t xs σ H Q
def Hg{es:List Expr}{k:Nat}{t:Za}{n:Nat}(B:X.calm=true)(h:PGs X es t)
  (hn:(lD es X.env).length=n:=by rfl) (l:(lD es X.env).findIdx? (·.1)=none:=by rfl):PG X (.Tuple es k pos) (Mo X.K n t):=by
 intro x s σ H v u Q I r hw;obtain⟨a,E,G,J,hl,hw⟩:=hw;subst G;cases r;obtain⟨L,z,ht,R⟩:=I.tuple J;refine assign_Tuple_tuple (I.ok.hd B) ht (by simp[hn,←hl,z.length]) l λM O=>?_
 have P:Inv X x σ H { s with heap:=M }:=I.kept (t':=s.toks) λb o e=>O b o (aN (ar e)) e
 exact h x _ σ H E _ Q P (by simpa using z) hw
def HD(te:TE)(g:TG):TS:=λD σ H=>te σ H λx l=>g x σ l D.nx
def Ny{l e:Expr}{te:TE}{g:TG}(t:PE X e te)(u:PG X l g)(z:swapsWithSole [l] e pos.line X.env=pure false:=by rfl)(hw:swappedStores [l] e X.env=pure none:=by rfl)
  (B:(lD [l] X.env).map (·.2)=[mK l X.env]:=by rfl):PS X (.Assign [l] e pos) (HD te g):=by
 intro n s σ H D I h;refine wpAny_Assign_stores (rQ (t n s σ H _ I h) λv E ⟨x,G,J,L,M⟩=>?_) z hw
 rw[B];exact rQ (u n E σ G x v _ J L M) λ_ O q=>q
def aal{i:Nat}{x:Str}{e:Expr}{te:TE}{l:Pos}(n:X.N.Nodup)(hi:X.N[i]?=some x)(t:Loc X.env.scope x)(u:PE X e te)(z:lJ e (some (.Name x l)) pos.line X.env=pure false:=by rfl)(B:X.fn x=true∨X.env.scope.names.lookup x=some .local:=by trivial) :
  PS X (.Assign [.Name x l] e pos) (HD te (rS i)):=by
 intro E s σ H D I h;refine wpAny_Assign_Name (rQ (u E s σ H _ I h) λv P ⟨y,G,J,L,M⟩=>?_) z
 exact K9 J n hi t L (λQ O=>⟨_,G,O,M⟩) B
end
section
variable {X:Cx}{pos:Pos}
def Vu(c:TT)(u:TS):TS:=λD σ H=>∃W:Nat->St->Hp->Prop,(∃m,W m σ H)/\∀m σ H,W m σ H ->
 c σ H λb n=>if b=true then ∃N:St->Hp->Prop,(∀l s,N l s->∃t,t<m/\W t l s)/\u { D with nx:=N,ct:=N,bk:=D.nx } σ n else D.nx σ n
def xv{c:Expr}{body:List Stmt}{P:TT}{Q:TS}(R:PassesOwn (jN X.prog X.w) X.A X.env X.xe)(hc:PT X c P)(hb:Oq X body Q):PS X (.While c body [] pos) (Vu P Q):=by
 intro E s σ H D I h;obtain⟨W,⟨m0,w0⟩,turn⟩:=h;refine wpAny_While (codeAny_whileLoop (λn s'=>∃u S,Inv X E u S s'/\W n u S) ?_ m0 ⟨σ,H,I,w0⟩)
 rintro n s1 ⟨t,T,I1,w1⟩;refine ky R (rQ (hc E s1 t T _ I1 (turn n t T w1)) λb s2 ⟨U,Y,z⟩=>?_)
 cases b with
 |true=>
  obtain⟨N,hN,z⟩:=z;rw[pB rfl];refine ky R (rQ (hb E s2 t U _ Y z) λf s3 B=>?_)
  cases f with
  |next=>
   obtain⟨l,x,G,J⟩:=B;obtain⟨L,M,O⟩:=hN l x J;exact⟨L,M,l,x,G,O⟩
  |cont=>
   obtain⟨l,x,G,J⟩:=B;obtain⟨L,M,O⟩:=hN l x J;exact⟨L,M,l,x,G,O⟩
  |brk=>exact B
  |ret v=>exact B
 |false=>
  rw[oZ aB];exact ly ⟨t,U,Y,z⟩
end
structure It where
 go:Nat->Hp->Prop
 yld:Nat->Hp->V->Hp->Prop
 stop:Nat->Hp->Prop
def EU(X:Cx)(l:Φ)(H:Hp)(b:Addr):Prop:=
 H b=none/\b≠X.env.locals/\b∉X.fs/\(b∈X.ex∨X.s₀.heap.objs.size<=b)/\(∀x c,X.env.cells.lookup x=some c->c≠b)/\∀p∈X.pn++l,p.1≠b
def Inv.fpOk{X:Cx}{l:Φ}{σ:St}{H n:Hp}{s:jJ}{b:Addr}(I:Inv X l σ H s)(hb:s.heap.objs.size<=b)(hn:n b=none):EU X l n b:=by
 refine⟨hn,fi (aU I.lt hb),I.nofs hb,.inr (bX I.sz hb),λx c e z=>?_,λp t z=>?_⟩
 .obtain⟨v,q⟩:=I.cell x c e;exact absurd (aU q.lt (by rw[z];exact hb)) (dN _)
 .exact absurd (aU (ar (I.pin p t).1) (by rw[z];exact hb)) (dN _)
structure NG (P:jS)(w:jU)(K:Ζ)(tg:Expr)(J:It)(fp:Δ)(it:Addr)(tn:Nat->Heap->Prop):Prop where
 mem:it∈fp
 obj:∀i h,tn i h->∀b∈fp,∃o,h.get? b=some o/\∀v,o.data ≠ .cell v
 keep:∀i h h',tn i h->(∀b∈fp,∀o,h.get? b=some o->h'.get? b=some o)->tn i h'
 item:∀(X:Cx),X.prog=P->X.w=w->X.K=K->X.calm=true->∀(i:Nat) (oh:Φ) (s:jJ) (σ:St) (H:Hp) (E:Value->jJ->Prop),Inv X oh σ H s->(∀b∈fp,EU X oh H b)->tn i s.heap->J.go i H ->
  jR (jN P w) X.A (pyNext (.ref it)) (λr s1=>∃u,r=some u /\
   jR (jN P w) X.A (lB tg (.ref it) u) (λ_ s2=>∃x H',Inv X oh σ H' s2/\qA x u/\J.yld i H x H'/\tn (i+1) s2.heap/\∀b∈fp,H' b=none) E s1) E s
 done:∀(X:Cx),X.prog=P->X.w=w->X.K=K->X.calm=true->∀(i:Nat) (oh:Φ) (s:jJ) (σ:St) (H:Hp) (E:Value->jJ->Prop),Inv X oh σ H s->(∀b∈fp,EU X oh H b)->tn i s.heap->J.stop i H ->
  jR (jN P w) X.A (pyNext (.ref it)) (λr s1=>r=none/\Inv X oh σ H s1) E s
 self:∀(A:Around) (i:Nat) (s:jJ) (Q:Value->jJ->Prop) (E:Value->jJ->Prop),tn i s.heap->Q (.ref it) s->jR (jN P w) A (pyIter (.ref it)) Q E s
abbrev TI:=St->Hp->(It->Hp->Prop)->Prop
def PIE(X:Cx)(s:Φ)(σ:St)(x:Expr)(R:It->Hp->Prop)(l:Value)(s2:jJ):Prop:=
 ∃(t:Addr) (fp:Δ) (u:Nat->Heap->Prop) (J:It) (n:Hp),l = .ref t/\Inv X s σ n s2/\NG X.prog X.w X.K x J fp t u/\u 0 s2.heap/\(∀b∈fp,EU X s n b)/\R J n
def PI(X:Cx)(n wo:Expr)(t:TI):Prop:=
 ∀(l:Φ) (s:jJ) (σ:St) (H:Hp) (R:It->Hp->Prop),Inv X l σ H s->t σ H R ->
  jR (jN X.prog X.w) X.A (eval wo X.env) (λv s1=>jR (jN X.prog X.w) X.A (pyIter v) (PIE X l σ n R) X.xe s1) X.xe s
def SU{M:Model}{A:Around}{E:Value->jJ->Prop}{s:jJ}{t:Expr}{x:Addr}{u:Value}{o:Obj}{n:String}{vs:Ω}{Q:Unit->jJ->Prop}(z:s.heap.get? x=some o)(B:o.cls = .type n)(hd:o.data = .fields vs)
    (hn:["enumerate","zip","dict_itemiterator","dict_reverseitemiterator","odict_iterator","itertools.zip_longest","itertools.pairwise"].contains n=false) (l:Q () s):jR M A (lB t (.ref x) u) Q E s:=by
  unfold lB;cases t <;> first
    |exact jW l
    | (cases u <;> first
        |exact jW l
        | (refine jO (wpAny_load z ?_)
           rw[B,hd];show jR M A (if (["enumerate","zip","dict_itemiterator","dict_reverseitemiterator","odict_iterator","itertools.zip_longest","itertools.pairwise"].contains n && vs[0]? == some (rawInt _))=true then _ else _) Q E s
           rw[oZ (by intro h;rw[hn,ju]at h;cases h)]
           exact jW l))
noncomputable def Itl(K:Ζ)(a:Addr):It:=
 ⟨λi H=>∃xs x,rz K H a xs/\xs[i]?=some x,λi H x l=>l=H/\∀xs,rz K H a xs->xs[i]?=some x,λi H=>∃xs,rz K H a xs/\xs.length<=i⟩
noncomputable def Xz(lo:Int)(n:Nat):It:=⟨λi _=>i<n,λi H x l=>l=H/\x = .int (lo+i),λi _=>n<=i⟩
def Rl{P:jS}{w:jU}{K:Ζ}{tg:Expr}(a l:Addr):NG P w K tg (Itl K a) [l] l (λi h=>h.IsListIter l a i) where
 mem:=by simp
 obj:=λi h st b hb=>by
  have e:b=l:=by simpa using hb
  subst e;obtain⟨o,e,c,d⟩:=st;exact⟨o,e,λv z=>by rw[d]at z;cases z⟩
 keep:=λi h h' st k=>st.at λo e=>k l (by simp) o e
 item:=by
  intro X G hw J hc i oh s σ H E I t st L;subst G hw J;obtain⟨xs,x,B,M⟩:=L;obtain⟨O,Q,p,hz⟩:=I.list B;obtain⟨u,hu,ru⟩:=Q.get M;obtain⟨R,S,f2,T,U,Y⟩:=t l (by simp)
  refine wpAny_pyNext_list_item st p.isList (x:=u) (by simpa using hu) λh' n sb=>?_
  have I1:Inv X oh σ H { s with heap:=h' }:=I.turned (t':=s.toks) (λb o hb e=>(sb.2 b hb).trans e) R S T U Y
  obtain⟨o,e,c,d⟩:=id n;exact⟨u,rfl,SU (s:={ s with heap:=h' }) e c d (by decide) ⟨x,H,I1,ru,⟨rfl,λys hy=>by rw[I.list_inj hy B];exact M⟩,n,λb hb=>(t b hb).1⟩⟩
 done:=by
  intro X G hw J hc i oh s σ H E I t st L;subst G hw J;obtain⟨xs,B,M⟩:=L;obtain⟨O,Q,p,hz⟩:=I.list B;obtain⟨R,S,f2,T,U,Y⟩:=t l (by simp)
  have hl:=Q.length;exact wpAny_pyNext_list_end (I.ok.hd hc) st p.isList (by simp;lia) λh' eb=>⟨rfl,I.turned (t':=s.toks) (λb o hb e=>eb b o hb e) R S T U Y⟩
 self:=λ_ _ _ _ _ st h=>wpAny_pyIter_listiter st h
def MY{P:jS}{w:jU}{K:Ζ}{Y:Expr}(l:Addr)(lo:Int)(n:Nat):NG P w K Y (Xz lo n) [l] l (λi h=>IsRangeIter h l (lo+(i:Nat)*1) ((n:Int)-(i:Nat)) 1) where
 mem:=by simp
 obj:=λi h st b hb=>by
  have e:b=l:=by simpa using hb
  subst e;exact⟨_,st,λv z=>by
   have z':Data.fields _=Data.cell v:=z;cases z'⟩
 keep:=λi h h' st k=>k l (by simp) _ st
 item:=by
  intro X B hw G J i T s σ H E I x st L;subst B hw G;obtain⟨M,O,f2,Q,R,S⟩:=x l (by simp)
  have W:=Walks.range (prog:=X.prog) (w:=X.w) (I.ok.hd J) l lo 1 n;refine W.item i s _ _ L st λv h' U hv u kk=>?_
  obtain⟨t,rfl⟩:=hv;have I1:Inv X T σ H { s with heap:=h',toks:=U }:=I.turned (λb o hb e=>kk b o (by simpa using hb) e) M O Q R S
  refine⟨_,rfl,SU (s:={ s with heap:=h',toks:=U }) (n:= "range_iterator") u rfl rfl (by decide) ⟨.int (lo+i),H,I1,⟨t,?_⟩,⟨rfl,rfl⟩,u,λb hb=>(x b hb).1⟩⟩
  rw[Int.mul_one]
 done:=by
  intro X B hw G J i T s σ H E I x st L;subst B hw G;obtain⟨M,O,f2,Q,R,S⟩:=x l (by simp)
  exact wpAny_pyNext_range_end (I.ok.hd J) st (by have:n<=i:=L;lia) λh' eb=>⟨rfl,I.turned (t':=s.toks) (λb o hb e=>eb b o hb e) M O Q R S⟩
 self:=λ_ _ _ _ _ st h=>wpAny_pyIter_rangeiter st h
section
variable {X:Cx}{tg:Expr}
def Va(K:Ζ)(tl:TE):TI:=λσ H R=>tl σ H λx l=>∃a,x = .ref a/\(∃xs,rz K l a xs)/\R (Itl K a) l
def qp{l:Expr}{tl:TE}(hl:PE X l tl):PI X tg l (Va X.K tl):=by
 intro u s σ H R I h;refine rQ (hl u s σ H _ I h) λv n ⟨x,z,t,B,E⟩=>?_
 obtain⟨a,e,⟨L,G⟩,q⟩:=E;subst e;cases B;obtain⟨J,M,p,O⟩:=t.list G;refine wpAny_pyIter_list p.isList ?_;refine⟨n.heap.objs.size,[n.heap.objs.size],_,_,z,rfl,t.kept (t':=n.toks) λb o e=>ak _ e,Rl a _,⟨_,bu _ rfl,rfl,rfl⟩,λb hb=>?_,q⟩
 have e:b=n.heap.objs.size:=by simpa using hb
 subst e;exact t.fpOk (aa _) (t.hok.fresh (aa _))
def TL{l:Φ}{σ:St}{H:Hp}{s:jJ}{R:It->Hp->Prop}{E:Value->jJ->Prop}{lo hi:Int}{t u v:Tok}{n:Nat}(I:Inv X l σ H s)(z:-(2 ^ 62)<=lo)(B:lo<2 ^ 62)(G:-(2 ^ 62)<=hi)(J:hi<2 ^ 62)
  (q:R (Xz lo (hi-lo).toNat) H):jR (jN X.prog X.w) X.A (pyIter (.ref s.heap.objs.size)) (PIE X l σ tg R) E { s with heap:=s.heap.push { cls:=.type "range", data:=.fields #[.int lo t,.int hi u,.int 1 v] },toks:=n }:=by
 refine wpAny_pyIter_range (IsRange.new ..) (small_one z B G J) ?_;have x:Inv X l σ H { s with heap:=s.heap.push { cls:=.type "range", data:=.fields #[.int lo t,.int hi u,.int 1 v] },toks:=n }:=I.kept λb o e=>ak _ e
 refine⟨(s.heap.push { cls:=.type "range", data:=.fields #[.int lo t,.int hi u,.int 1 v] }).objs.size,[(s.heap.push { cls:=.type "range", data:=.fields #[.int lo t,.int hi u,.int 1 v] }).objs.size],_,_,H,rfl,
  x.kept (t':=n) λb o e=>ak _ e,MY _ lo (hi-lo).toNat,?_,λb hb=>?_,q⟩
 .have L:lo+((0:Nat):Int)*1=lo:=by simp
  have M:(((hi-lo).toNat:Nat):Int)-((0:Nat):Int)=Builtin.Range.rangeSize lo hi 1:=by rw[rangeSize_one];split <;> lia
  show IsRangeIter _ _ (lo+((0:Nat):Int)*1) ((((hi-lo).toNat:Nat):Int)-((0:Nat):Int)) 1;rw[L,M];exact bu _ rfl
 .have e:b=(s.heap.push { cls:=.type "range", data:=.fields #[.int lo t,.int hi u,.int 1 v] }).objs.size:=by simpa using hb
  subst e;exact x.fpOk (aa _) (x.hok.fresh (aa _))
def Vf(l:TA):TI:=λσ H R=>l σ H λvs n=>∃j:Int,vs=[.int j]/\-(2 ^ 62)<=j/\j<2 ^ 62/\R (Xz 0 j.toNat) n
def sV{a:Expr}{n:TA}{p pos:Pos}(u:Gl X "range")(x:X.mg "range" = none)(ha:PA X [a] n)(z:jT [a] X.env=[(false,eval a X.env)]:=by rfl):PI X tg (.Call (.Name "range" p) [a] [] pos) (Vf n):=by
 intro B s σ H R I h;refine Call_ (Eh I u x boot_range (dw (rQ (ha pos B s σ H _ I h) λus M ⟨O,P,E,G,l⟩=>?_) z rfl))
 obtain⟨j,e,l,J,q⟩:=l;subst e;cases G with
 |cons r L=>
  cases L;obtain⟨t,rfl⟩:=r;exact call_range_1 (TL E (by lia) (by lia) l J (by simpa using q))
def Qs(u:TI)(g:TG)(z:TS):TS:=λD σ H=>u σ H λJ B=>∃W:Nat->Nat->St->Hp->Prop,(∃m,W 0 m σ B)/\∀i m σ H,W i m σ H ->
 (J.stop i H/\D.nx σ H)∨(J.go i H/\∃N:St->Hp->Prop,(∀l n,N l n->∃t,t<m/\W (i+1) t l n)/\∀x n,J.yld i H x n->g x σ n λs E=>z { D with nx:=N,ct:=N,bk:=D.nx } s E)
noncomputable def FX(fp:Δ)(h:Heap):Φ:=fp.filterMap λb=>(h.get? b).map λo=>(b,o)
def zG{fp:Δ}{h:Heap}{b:Addr}{o:Obj}(hb:b∈fp)(e:h.get? b=some o):(b,o)∈FX fp h:=iI.mpr ⟨b,hb,by rw[e];rfl⟩
def QD{fp:Δ}{h:Heap}{p:Addr×Obj}(l:p∈FX fp h):p.1∈fp/\h.get? p.1=some p.2:=by
 obtain⟨b,hb,e⟩:=iI.mp l;cases q:h.get? b with
 |none=>rw[q]at e;cases e
 |some o=>
  rw[q]at e;have n:(b,o)=p:=aw.inj e;subst n;exact⟨hb,q⟩
def Inv.pinned{l:Φ}{σ:St}{H:Hp}{s:jJ}{fp:Δ}(I:Inv X l σ H s)(t:∀b∈fp,EU X l H b)(u:∀b∈fp,∃o,s.heap.get? b=some o/\∀v,o.data ≠ .cell v):Inv X (l++FX fp s.heap) σ H s:=
 I.pins_of λp x=>(mAq.mp x).elim (λz=>I.pin p (aq _ z)) λz=>by
  obtain⟨hb,e⟩:=QD z;obtain⟨B,E,G,_⟩:=t p.1 hb;obtain⟨o,n,d⟩:=u p.1 hb;rw[e]at n;cases n;exact⟨e,B,E,G,d⟩
def Inv.unpinned{l pl:Φ}{σ:St}{H:Hp}{s:jJ}(I:Inv X (l++pl) σ H s):Inv X l σ H s:=I.pins_of λp n=>I.pin p (aq _ (bG _ n))
def qX{wo:Expr}{body:List Stmt}{wi:TI}{g:TG}{tb:TS}{pos:Pos}(Q:PassesOwn (jN X.prog X.w) X.A X.env X.xe)(hc:X.calm=true)(hi:PI X tg wo wi)(hg:PG X tg g)(hb:Oq X body tb)
  (hs:∀x,lQ wo X.env x=pure x:=by intro _;rfl):PS X (.For tg wo body [] pos) (Qs wi g tb):=by
 intro O s σ H D I h;refine wpAny_For (rQ (hi O s σ H _ I h) λv s1 h1=>rQ h1 λitv s2 h2=>?_) hs
 obtain⟨it,R,tn,J,H2,e,I2,T,Ko,f2,W,⟨m0,w0⟩,turn⟩:=h2;subst e;have t:∀{L:Hp},(∀b∈R,L b=none)->∀b∈R,EU X O L b:=λhn b hb=>⟨hn b hb,(f2 b hb).2⟩
 refine codeAny_forLoop_any (λn s'=>∃i z L,Inv X O z L s'/\tn i s'.heap/\(∀b∈R,L b=none)/\W i n z L) ?_ m0 ⟨0,σ,H2,I2,Ko,λb hb=>(f2 b hb).1,w0⟩
 rintro n s3 ⟨i,B,Y,I3,V5,S,w3⟩;rcases turn i n B Y w3 with⟨stop,qn⟩|⟨go,N,hN,step⟩
 .refine ky Q (rQ (T.done X rfl rfl rfl hc i O s3 B Y X.xe I3 (t S) V5 stop) λr s4 ⟨hr,I4⟩=>?_)
  subst hr;exact ly ⟨B,Y,I4,qn⟩
 .refine ky Q (rQ (T.item X rfl rfl rfl hc i O s3 B Y X.xe I3 (t S) V5 go) λr s4 ⟨u,hr,h4⟩=>?_)
  subst hr;refine ky Q (rQ h4 λ_ s5 ⟨x,H5,I5,r5,y5,P,fr5⟩=>?_)
  have I5':=I5.pinned (t fr5) (T.obj _ _ P);refine ky Q (rQ (hg _ s5 B H5 x u _ I5' r5 (step x H5 y5)) λ_ s6 ⟨σ6,H6,I6,q6⟩=>?_)
  refine ky Q (rQ (hb _ s6 σ6 H6 _ I6 q6) λf s7 M=>?_)
  have again:∀{l:St}{E:Hp},Inv X (O++FX R s5.heap) l E s7->N l E->∃m,m<n/\∃i z L,Inv X O z L s7/\tn i s7.heap/\(∀b∈R,L b=none)/\W i m z L:=λ{l E} G U=>by
   obtain⟨m',hm,w7⟩:=hN l E U;refine⟨m',hm,i+1,l,E,G.unpinned,T.keep _ _ _ P λb hb o e=>(G.pin (b,o) (aq _ (aq _ (zG hb e)))).1,λb hb=>?_,w7⟩
   obtain⟨o,e,d⟩:=T.obj _ _ P b hb;exact(G.pin (b,o) (aq _ (aq _ (zG hb e)))).2.1
  cases f with
  |next=>obtain⟨l,E,G,U⟩:=M;exact again G U
  |cont=>obtain⟨l,E,G,U⟩:=M;exact again G U
  |brk=>obtain⟨l,E,G,M⟩:=M;exact⟨l,E,G.unpinned,M⟩
  |ret v=>obtain⟨x7,l,E,G,r7,M⟩:=M;exact⟨x7,l,E,G.unpinned,r7,M⟩
end
def SX{K:Ζ}{a:Addr}{xs:List V}{g:TG}{B:TS}{D:AN}{σ:St}{H:Hp}(l:Nat->St->Hp->Prop)(G:l 0 σ H)(hl:∀i σ H,i<=xs.length->l i σ H->rz K H a xs)
  (I:∀i x σ H,xs[i]?=some x->l i σ H->g x σ H λn z=>B { D with nx:=l (i+1),ct:=l (i+1),bk:=D.nx } n z) (hd:∀σ H,l xs.length σ H->D.nx σ H) :
  ∃W:Nat->Nat->St->Hp->Prop,(∃m,W 0 m σ H)/\∀i m σ H,W i m σ H ->
   ((Itl K a).stop i H/\D.nx σ H)∨((Itl K a).go i H/\∃N:St->Hp->Prop,(∀s t,N s t->∃E,E<m/\W (i+1) E s t)/\∀x t,(Itl K a).yld i H x t->g x σ t λn z=>B { D with nx:=N,ct:=N,bk:=D.nx } n z):=by
 refine⟨λi m σ H=>m=xs.length-i/\i<=xs.length/\l i σ H,⟨xs.length,by simp,aT _,G⟩,?_⟩
 rintro i m σ H ⟨rfl,hi,p⟩;have q:=hl i σ H hi p
 by_cases u:i<xs.length
 .refine .inr ⟨⟨xs,xs[i],q,by simp[u]⟩,l (i+1),λs t J=>⟨xs.length-(i+1),by lia,rfl,u,J⟩,λx t y=>?_⟩
  obtain⟨e,y⟩:=y;subst e;exact I i x σ _ (y xs q) p
 .have e:i=xs.length:=by lia
  subst e;exact .inl ⟨⟨xs,q,aa _⟩,hd σ H p⟩
def Ra{lo:Int}{n:Nat}{g:TG}{E:TS}{D:AN}{σ:St}{H:Hp}(l:Nat->St->Hp->Prop)(I:l 0 σ H)
  (J:∀i σ H,i<n->l i σ H->g (.int (lo+i)) σ H λs B=>E { D with nx:=l (i+1),ct:=l (i+1),bk:=D.nx } s B) (hd:∀σ H,l n σ H->D.nx σ H) :
  ∃W:Nat->Nat->St->Hp->Prop,(∃m,W 0 m σ H)/\∀i m σ H,W i m σ H ->
   ((Xz lo n).stop i H/\D.nx σ H)∨((Xz lo n).go i H/\∃N:St->Hp->Prop,(∀t u,N t u->∃G,G<m/\W (i+1) G t u)/\∀x u,(Xz lo n).yld i H x u->g x σ u λs B=>E { D with nx:=N,ct:=N,bk:=D.nx } s B):=by
 refine⟨λi m σ H=>m=n-i/\i<=n/\l i σ H,⟨n,by simp,aT _,I⟩,?_⟩
 rintro i m σ H ⟨rfl,hi,p⟩
 by_cases z:i<n
 .refine .inr ⟨z,l (i+1),λt u L=>⟨n-(i+1),by lia,rfl,z,L⟩,λx u y=>?_⟩
  obtain⟨e,y⟩:=y;subst e y;exact J i σ _ z p
 .have e:i=n:=by lia
  subst e;exact .inl ⟨aa _,hd σ H p⟩
abbrev R2:=V->V->Hp->VK->Prop
def G1(X:Cx)(f:Value->Value->Sem Value)(r:R2):Prop:=
 ∀(l:Φ) (s:jJ) (σ:St) (H:Hp) (x y:V) (v u:Value) (Q:VK),Inv X l σ H s->qA x v->qA y u->r x y H Q ->
  jR (jN X.prog X.w) X.A (f v u) (EP X l σ Q) X.xe s
def UnR(X:Cx)(f:Value->Sem Value)(r:V->Hp->VK->Prop):Prop:=
 ∀(l:Φ) (s:jJ) (σ:St) (H:Hp) (x:V) (v:Value) (Q:VK),Inv X l σ H s->qA x v->r x H Q ->
  jR (jN X.prog X.w) X.A (f v) (EP X l σ Q) X.xe s
def si(X:Cx)(f:Value)(r:List V->Hp->VK->Prop):Prop:=
 ∀(l:Φ) (s:jJ) (σ:St) (H:Hp) (xs:List V) (us:Ξ) (Q:VK),Inv X l σ H s->pU xs us->r xs H Q ->
  jR (jN X.prog X.w) X.A (call f us) (EP X l σ Q) X.xe s
def aga(X:Cx)(r:V->Hp->(Bool->Hp->Prop)->Prop):Prop:=
 ∀(l:Φ) (s:jJ) (σ:St) (H:Hp) (x:V) (v:Value) (Q:Bool->Hp->Prop),Inv X l σ H s->qA x v->r x H Q ->
  jR (jN X.prog X.w) X.A (truthy v) (TP X l σ Q) X.xe s
noncomputable def YV(r:R2)(l n:TE):TE:=λσ H Q=>l σ H λx s=>n σ s λy t=>r x y t Q
noncomputable def tUn(r:V->Hp->VK->Prop)(l:TE):TE:=λσ H Q=>l σ H λx n=>r x n Q
def rI(C:Int->Int->Prop)(g:Int->Int->V):R2:=λx y H Q=>∃i j,x = .int i/\y = .int j/\C i j/\Q (g i j) H
noncomputable def TV(g:Int->Int->V):R2:=λx y H Q=>∃i j,x = .int i/\y = .int j/\Q (g i j) H
def rU(g:Int->V):V->Hp->VK->Prop:=λx H Q=>∃i,x = .int i/\Q (g i) H
section
variable {X:Cx}{a b c:Expr}{ta tb tc:TE}{pos:Pos}
def acd(ha:PE X a ta)(hb:PE X b tb){z:Φ}{s:jJ}{σ:St}{H:Hp}{R:V->V->Hp->Prop}(I:Inv X z σ H s)
  (h:ta σ H λx B=>tb σ B λy l=>R x y l) {Q:Value->jJ->Prop}{f:Value->Value->Sem Value}
  (E:∀v u s2 x y l,Inv X z σ l s2->qA x v->qA y u->R x y l->jR (jN X.prog X.w) X.A (f v u) Q X.xe s2) :
  jR (jN X.prog X.w) X.A (eval a X.env) (λv n=>jR (jN X.prog X.w) X.A (eval b X.env) (λu t=>jR (jN X.prog X.w) X.A (f v u) Q X.xe t) X.xe n) X.xe s:=by
 refine rQ (ha z s σ H _ I h) λv G ⟨x,B,J,L,M⟩=>?_
 refine rQ (hb z G σ B _ J M) λu s2 ⟨y,l,O,P,S⟩=>?_
 exact E v u s2 x y l O L P S
def oP{l:Operator}{r:R2}(n:G1 X (kP l) r)(ha:PE X a ta)(hb:PE X b tb):PE X (.BinOp a l b pos) (YV r ta tb):=by
 intro t s σ H Q I h;exact wpAny_BinOp (acd ha hb I h λv u z x y B E G J q=>n t z σ B x y v u Q E G J q)
def wy{l:UnaryOp}{r:V->Hp->VK->Prop}(t:UnR X (unaryOp l) r)(ha:PE X a ta):PE X (.UnaryOp l a pos) (tUn r ta):=by
 intro n s σ H Q I h;exact UnaryOp_ (rQ (ha n s σ H _ I h) λv u ⟨x,z,B,E,G⟩=>t n u σ z x v Q B E G)
def opI{f:Value->Value->Sem Value}{C:Int->Int->Prop}{g:Int->Int->Int}
  (rule:∀(i j:Int) (t u:Tok) (s:jJ) (Q:Value->jJ->Prop) (E:Value->jJ->Prop),C i j->Q (.int (g i j) s.toks) { s with toks:=s.toks+1 }->jR (jN X.prog X.w) X.A (f (.int i t) (.int j u)) Q E s) :
  G1 X f (rI C λi j=>.int (g i j)):=by
 intro G s σ H x y v u Q I l n h;obtain⟨i,j,rfl,rfl,z,q⟩:=h;obtain⟨t,rfl⟩:=l;obtain⟨B,rfl⟩:=n;exact rule i j t B s _ _ z ⟨.int (g i j),H,I.tok _,⟨_,rfl⟩,q⟩
def aea{f:Value->Value->Sem Value}{g:Int->Int->Int}
  (rule:∀(i j:Int) (t u:Tok) (s:jJ) (Q:Value->jJ->Prop) (E:Value->jJ->Prop),Q (.int (g i j) s.toks) { s with toks:=s.toks+1 }->jR (jN X.prog X.w) X.A (f (.int i t) (.int j u)) Q E s) :
  G1 X f (TV λi j=>.int (g i j)):=by
 intro B s σ H x y v u Q I l n h;obtain⟨i,j,rfl,rfl,q⟩:=h;obtain⟨t,rfl⟩:=l;obtain⟨z,rfl⟩:=n;exact rule i j t z s _ _ ⟨.int (g i j),H,I.tok _,⟨_,rfl⟩,q⟩
def aeu{f:Value->Value->Sem Value}{g:Int->Int->Bool}
  (rule:∀(i j:Int) (t u:Tok) (s:jJ) (Q:Value->jJ->Prop) (E:Value->jJ->Prop),Q (.bool (g i j)) s->jR (jN X.prog X.w) X.A (f (.int i t) (.int j u)) Q E s) :
  G1 X f (TV λi j=>.bl (g i j)):=by
 intro B s σ H x y v u Q I l n h;obtain⟨i,j,rfl,rfl,q⟩:=h;obtain⟨t,rfl⟩:=l;obtain⟨z,rfl⟩:=n;exact rule i j t z s _ _ ⟨.bl (g i j),H,I,rfl,q⟩
def aa3(i j:Int):Prop:=0<j/\j<1073741824
def abC(i j:Int):Prop:=0<=j/\j<=1000000/\i.natAbs<2 ^ 64
def Sz(i j:Int):Prop:=(-(2 ^ 64)<i/\i<2 ^ 64)∨(-(2 ^ 64)<j/\j<2 ^ 64)
noncomputable def Sz.ok{i j:Int}(h:Sz i j):IntMulOk i j:=by
 rcases h with⟨l,n⟩|⟨l,n⟩
 .exact .of_left (intBits_le_64 l n)
 .exact .of_right (intBits_le_64 l n)
def rp:G1 X (kP .Add) (TV λi j=>.int (i+j)):=aea λ_ _ _ _ _ _ _ q=>add_int q
def AR:G1 X (kP .Sub) (TV λi j=>.int (i-j)):=aea λ_ _ _ _ _ _ _ q=>sub_int q
def JZ:G1 X (kP .Mult) (rI Sz λi j=>.int (i*j)):=opI λ_ _ _ _ _ _ _ l q=>mul_int q l.ok
def vX:G1 X (kP .FloorDiv) (rI aa3 λi j=>.int (i / j)):=opI λi j _ _ _ _ _ l q=>by
 have n:(0:Int)<j:=l.1;have s:j<1073741824:=l.2;exact floordiv_int (by lia) (by rw[gf i (by lia)];exact q) (.inl (PyProof.noPylong_small (by lia)))
def sm:G1 X (kP .Mod) (rI (λ_ j=>0<j) λi j=>.int (i % j)):=opI λi j _ _ _ _ _ l q=>by
 have n:(0:Int)<j:=l;exact mod_int' (by lia) (by rw[Int.fmod_eq_emod_of_nonneg i (by lia)];exact q)
def GC:G1 X (kP .Pow) (rI abC λi j=>.int (i ^ j.toNat)):=opI λ_ _ _ _ _ _ _ l q=>pow_int_small l.1 l.2.1 l.2.2 q
def unI{f:Value->Sem Value}{g:Int->Int}
  (rule:∀(i:Int) (t:Tok) (s:jJ) (Q:Value->jJ->Prop) (E:Value->jJ->Prop),Q (.int (g i) s.toks) { s with toks:=s.toks+1 }->jR (jN X.prog X.w) X.A (f (.int i t)) Q E s) :
  UnR X f (rU λi=>.int (g i)):=by
 intro n s σ H x v Q I l h;obtain⟨i,rfl,q⟩:=h;obtain⟨t,rfl⟩:=l;exact rule i t s _ _ ⟨.int (g i),H,I.tok _,⟨_,rfl⟩,q⟩
def tS:UnR X (unaryOp .USub) (rU λi=>.int (-i)):=unI λ_ _ _ _ _ q=>neg_int q
end
noncomputable def scal:V->V->Bool
 | .non,.non=>true|.non,.int _=>true|.int _,.non=>true|.non,.bl _=>true|.bl _,.non=>true|.non,.str _=>true|.str _,.non=>true
 | .int _,.int _=>true|.bl _,.bl _=>true|.str _,.str _=>true|.byt _,.byt _=>true
 | .int _,.str _=>true|.str _,.int _=>true|.bl _,.str _=>true|.str _,.bl _=>true
 |_,_=>false
def rEq:R2:=λx y H Q=>scal x y=true/\Q (.bl (decide (x=y))) H
def rNe:R2:=λx y H Q=>scal x y=true/\Q (.bl (!decide (x=y))) H
noncomputable def OZ{i j:Int}:decide (V.int i=V.int j)=(i == j):=by
 rw[cx];simp
noncomputable def Tp{i j:Bool}:decide (V.bl i=V.bl j)=(i == j):=by
 rw[cx];simp
noncomputable def OS{i j:Str}:decide (V.str i=V.str j)=(i == j):=by
 rw[cx];simp
noncomputable def Pa{i j:Array UInt8}:decide (V.byt i=V.byt j)=(i.toList == j.toList):=by
 rw[cx];cases i;cases j;simp
section
variable {X:Cx}{a b c:Expr}{ta tb tc:TE}{pos:Pos}
noncomputable def qt{l:Φ}{σ:St}{H:Hp}{s:jJ}{Q:VK}{k n:Bool}(I:Inv X l σ H s)(q:Q (.bl k) H)(e:k=n):EP X l σ Q (.bool n) s:=by
 subst e;exact⟨.bl k,H,I,rfl,q⟩
def BV:G1 X (kg .Eq) rEq:=by
 intro E s σ H x y v u Q I B l h;obtain⟨z,q⟩:=h;cases x with
 |non=>
  cases B;cases y with
  |non=>cases l;exact PySem.EqNone.eq_none_none (qt I q (by simp))
  |bl j=>cases l;exact PySem.EqNone.eq_none_bool (qt I q (by simp))
  |int j=>obtain⟨n,rfl⟩:=l;exact PySem.EqNone.eq_none_int (qt I q (by simp))
  |str j=>obtain⟨n,rfl⟩:=l;exact PySem.EqNone.eq_none_str (qt I q (by simp))
  |_=>exact absurd (show false=true from z) aB
 |bl i=>
  cases B;cases y with
  |non=>cases l;exact PySem.EqNone.eq_bool_none (qt I q (by simp))
  |bl j=>cases l;exact eq_bool (qt I q Tp)
  |str j=>obtain⟨n,rfl⟩:=l;exact PySem.EqMixed.eq_bool_str (qt I q (by simp))
  |_=>exact absurd (show false=true from z) aB
 |int i=>
  obtain⟨t,rfl⟩:=B;cases y with
  |non=>cases l;exact PySem.EqNone.eq_int_none (qt I q (by simp))
  |int j=>obtain⟨n,rfl⟩:=l;exact eq_int (qt I q OZ)
  |str j=>obtain⟨n,rfl⟩:=l;exact PySem.EqMixed.eq_int_str (qt I q (by simp))
  |_=>exact absurd (show false=true from z) aB
 |str i=>
  obtain⟨t,rfl⟩:=B;cases y with
  |non=>cases l;exact PySem.EqNone.eq_str_none (qt I q (by simp))
  |bl j=>cases l;exact PySem.EqMixed.eq_str_bool (qt I q (by simp))
  |int j=>obtain⟨n,rfl⟩:=l;exact PySem.EqMixed.eq_str_int (qt I q (by simp))
  |str j=>obtain⟨n,rfl⟩:=l;exact eq_str (qt I q OS)
  |_=>exact absurd (show false=true from z) aB
 |byt i=>
  obtain⟨t,rfl⟩:=B;cases y with
  |byt j=>obtain⟨n,rfl⟩:=l;exact W.eq_bytes (qt I q Pa)
  |_=>exact absurd (show false=true from z) aB
 |_=>cases y <;> exact absurd (show false=true from z) aB
def OM:G1 X (kg .NotEq) rNe:=by
 intro E s σ H x y v u Q I B l h;obtain⟨z,q⟩:=h;cases x with
 |non=>
  cases B;cases y with
  |non=>cases l;exact PySem.EqNone.ne_none_none (qt I q (by simp))
  |bl j=>cases l;exact PySem.EqNone.ne_none_bool (qt I q (by simp))
  |int j=>obtain⟨n,rfl⟩:=l;exact PySem.EqNone.ne_none_int (qt I q (by simp))
  |str j=>obtain⟨n,rfl⟩:=l;exact PySem.EqNone.ne_none_str (qt I q (by simp))
  |_=>exact absurd (show false=true from z) aB
 |bl i=>
  cases B;cases y with
  |non=>cases l;exact PySem.EqNone.ne_bool_none (qt I q (by simp))
  |bl j=>cases l;exact ne_bool (qt I q (congrArg not Tp))
  |str j=>obtain⟨n,rfl⟩:=l;exact PySem.EqMixed.ne_bool_str (qt I q (by simp))
  |_=>exact absurd (show false=true from z) aB
 |int i=>
  obtain⟨t,rfl⟩:=B;cases y with
  |non=>cases l;exact PySem.EqNone.ne_int_none (qt I q (by simp))
  |int j=>obtain⟨n,rfl⟩:=l;exact ne_int (qt I q (congrArg not OZ))
  |str j=>obtain⟨n,rfl⟩:=l;exact PySem.EqMixed.ne_int_str (qt I q (by simp))
  |_=>exact absurd (show false=true from z) aB
 |str i=>
  obtain⟨t,rfl⟩:=B;cases y with
  |non=>cases l;exact PySem.EqNone.ne_str_none (qt I q (by simp))
  |bl j=>cases l;exact PySem.EqMixed.ne_str_bool (qt I q (by simp))
  |int j=>obtain⟨n,rfl⟩:=l;exact PySem.EqMixed.ne_str_int (qt I q (by simp))
  |str j=>obtain⟨n,rfl⟩:=l;exact ne_str (qt I q (congrArg not OS))
  |_=>exact absurd (show false=true from z) aB
 |byt i=>
  obtain⟨t,rfl⟩:=B;cases y with
  |byt j=>obtain⟨n,rfl⟩:=l;exact W.ne_bytes (qt I q (congrArg not Pa))
  |_=>exact absurd (show false=true from z) aB
 |_=>cases y <;> exact absurd (show false=true from z) aB
def HR:G1 X (kg .Lt) (TV λi j=>.bl (decide (i<j))):=aeu λ_ _ _ _ _ _ _ q=>lt_int q
def G0:G1 X (kg .Gt) (TV λi j=>.bl (decide (j<i))):=aeu λ_ _ _ _ _ _ _ q=>gt_int q
def Eg:G1 X (kg .Is) (λx y H Q=>y = .non/\Q (.bl (decide (x = .non))) H):=by
 intro z s σ H x y v u Q I l n h;obtain⟨rfl,q⟩:=h;cases n;refine is_none_gen (qt I q ?_);cases x <;> first
  | (cases l;rfl)
  | (obtain⟨t,rfl⟩:=l;rfl)
noncomputable def qb(b:Expr){l:CmpOp}(h:l ≠ .In:=by decide)(n:l ≠ .NotIn:=by decide):kU l b=false:=by
 have s:(l == CmpOp.In)=false:=by cases l <;> first|rfl|exact absurd rfl h
 have t:(l == CmpOp.NotIn)=false:=by cases l <;> first|rfl|exact absurd rfl n
 cases b <;> simp[kU,s,t]
def Fq{l:CmpOp}{r:R2}(n:G1 X (kg l) r)(ha:PE X a ta)(hb:PE X b tb)(t:kU l b=false):PE X (.Compare a [l] [b] pos) (YV r ta tb):=by
 intro z s σ H Q I h;exact wpAny_Compare1 (acd ha hb I h λv u B x y E G J L q=>n z B σ E x y v u Q G J L q) t
noncomputable def aek(t:TE):TT:=λσ H Q=>t σ H λx l=>∃k,x = .bl k/\Q k l
def oY{l:CmpOp}{r:R2}(t:G1 X (kg l) r)(ha:PE X a ta)(hb:PE X b tb)(B:kU l b=false):PT X (.Compare a [l] [b] pos) (aek (YV r ta tb)):=by
 intro n s σ H Q I h;refine mE (rQ (ha n s σ H _ I h) λv E ⟨x,G,J,L,M⟩=>rQ (hb n E σ G _ J M) λu O ⟨y,P,R,S,T⟩=>
  rQ (t n O σ P x y v u _ R L S T) λc s3 ⟨z,U,Y,r3,k,e,q3⟩=>?_) B
 subst e;cases r3;exact kq ⟨U,Y,q3⟩
def XJ(K:Ζ)(x:V)(H:Hp)(k:Bool):Prop:=
 match x with
 | .non=>k=false
 | .bl b=>k=b
 | .int i=>k=(i != 0)
 | .str y=>y.length<=jP/\k=((y.length:Int) != 0)
 | .byt y=>y.size<=jP/\k=((y.size:Int) != 0)
 | .ref p=>(∃xs,rz K H p xs/\k = !xs.isEmpty)∨(∃xs,Ej K H p xs/\k = !xs.isEmpty)∨∃kvs,H p=some (.dK kvs)/\k = !kvs.isEmpty
 |_=>False
noncomputable def ND{κ:Type}{kvs:List (κ×V)}{vs:List (κ×Value)}(r:KV kvs vs):(!vs.isEmpty) = !kvs.isEmpty:=by
 cases r <;> rfl
noncomputable def GZ{xs:List V}{l:Ξ}(r:pU xs l):(!l.toArray.isEmpty) = !xs.isEmpty:=by
 cases r <;> simp
noncomputable def JX:(jP:Nat)<2 ^ 63:=by rw[ka];decide
def abe:aga X (λx H Q=>∃k,XJ X.K x H k/\Q k H):=by
 intro R s σ H x v Q I B h;obtain⟨k,e,q⟩:=h;have hl:=JX;have S:jP=16777216:=ka;cases x with
 |non=>
  cases B;have l:k=false:=e;subst l;exact truthy_none ⟨H,I,q⟩
 |bl b=>
  cases B;have l:k=b:=e;subst l;exact kq ⟨H,I,q⟩
 |int i=>
  obtain⟨t,rfl⟩:=B;have l:k=(i != 0):=e;subst l;exact PySem.P.truthy_int ⟨H,I,q⟩
 |str y=>
  obtain⟨t,rfl⟩:=B;obtain⟨O,l⟩:y.length<=jP/\k=((y.length:Int) != 0):=e;subst l;exact PySem.P.truthy_str (by lia) ⟨H,I.tok _,q⟩
 |byt y=>
  obtain⟨t,rfl⟩:=B;obtain⟨O,l⟩:y.size<=jP/\k=((y.size:Int) != 0):=e;subst l;exact W.truthy_bytes (by lia) ⟨H,I.tok _,q⟩
 |ref p=>
  cases B;have l:(∃z,rz X.K H p z/\k = !z.isEmpty)∨(∃z,Ej X.K H p z/\k = !z.isEmpty)∨∃n,H p=some (.dK n)/\k = !n.isEmpty:=e;rcases l with⟨z,E,l⟩|⟨z,E,l⟩|⟨n,E,l⟩
  .subst l;obtain⟨J,r,L,M⟩:=I.list E;have u:=r.length;exact wpAny_truthy_list L.isList (by simp only[aA];lia) ⟨H,I.tok _,by rw[GZ r];exact q⟩
  .subst l;obtain⟨J,r,L,M⟩:=I.tuple E;have u:=r.length;exact truthy_tuple L (by simp only[aA];lia) ⟨H,I.tok _,by rw[GZ r];exact q⟩
  .subst l;obtain⟨M,P,G,r,m⟩:n.length<=jP/\(p == kx)=false/\∃G,KV n G/\s.heap.DictOf (qS X.prog X.w) p G:=I.hok p _ E;have u:n.length=G.length:=Paired.length r;exact wpAny_truthy_dict P m (by lia) ⟨H,I.tok _,by rw[ND r];exact q⟩
 |_=>exact(show False from e).elim
def A3(ha:PE X a ta)(u:∀l,mJ a X.env l=(do let v ←l;lU a.pos;lY [v] (truthy v))) :
  PT X a (λσ H Q=>ta σ H λx n=>∃k,XJ X.K x n k/\Q k n):=by
 intro t s σ H Q I h;exact isTrue_plain (rQ (ha t s σ H _ I h) λv z ⟨x,B,E,G,J⟩=>abe t z σ B x v Q E G J) (u _)
def Ai{x:V}{us:Ξ}(r:pU [x] us):∃u,us=[u]/\qA x u:=by
 cases r with
 |cons l n=>cases n;exact⟨_,rfl,l⟩
def Oh{x y:V}{us:Ξ}(r:pU [x,y] us):∃u l,us=[u,l]/\qA x u/\qA y l:=by
 cases r with
 |cons n s=>
  cases s with
  |cons t z=>cases z;exact⟨_,_,rfl,n,t⟩
def Ij(n:X.calm=true):si X (.builtin "min") (λxs H Q=>∃i j,xs=[.int i,.int j]/\Q (.int (if j<i then j else i)) H):=by
 intro x s σ H xs us Q I r h;obtain⟨i,j,rfl,q⟩:=h;obtain⟨u,z,rfl,⟨t,rfl⟩,⟨B,rfl⟩⟩:=Oh r;refine min_two_ints (I.ok.hd n) λE G k=>⟨_,H,I.kept k,?_,q⟩
 by_cases l:j<i
 .rw[pB l,pB l];exact⟨_,rfl⟩
 .rw[oZ l,oZ l];exact⟨_,rfl⟩
def aeF(K:Ζ)(x:V)(H:Hp)(n:Nat):Prop:=
 match x with
 | .str y=>y.length<=jP/\n=y.length
 | .byt y=>y.size<=jP/\n=y.size
 | .ref p=>(∃xs,rz K H p xs/\n=xs.length)∨∃xs,Ej K H p xs/\n=xs.length
 |_=>False
def oT:si X (.builtin "len") (λxs H Q=>∃x n,xs=[x]/\aeF X.K x H n/\Q (.int n) H):=by
 intro P s σ H xs us Q I r h;obtain⟨x,n,rfl,e,q⟩:=h;obtain⟨u,rfl,B⟩:=Ai r;have hl:=JX;have R:jP=16777216:=ka;cases x with
 |str y=>
  obtain⟨t,rfl⟩:=B;obtain⟨M,z⟩:y.length<=jP/\n=y.length:=e;subst z;exact len_str (by lia) ⟨.int _,H,I.tok _,⟨_,rfl⟩,q⟩
 |byt y=>
  obtain⟨t,rfl⟩:=B;obtain⟨M,z⟩:y.size<=jP/\n=y.size:=e;subst z;exact W.len_bytes (by lia) ⟨.int _,H,I.tok _,⟨_,rfl⟩,q⟩
 |ref p=>
  cases B;have z:(∃xs,rz X.K H p xs/\n=xs.length)∨∃xs,Ej X.K H p xs/\n=xs.length:=e;rcases z with⟨xs,E,z⟩|⟨xs,E,z⟩
  .subst z;obtain⟨G,J,L,O⟩:=I.list E;have l:=J.length;exact Calls.call_len_list L.isList (by simp only[aA];lia) ⟨.int xs.length,H,I.tok _,⟨_,by simp only[aA];rw[l]⟩,q⟩
  .subst z;obtain⟨G,J,L,O⟩:=I.tuple E;have l:=J.length;exact len_tuple L (by simp only[aA];lia) ⟨.int xs.length,H,I.tok _,⟨_,by simp only[aA];rw[l]⟩,q⟩
 |_=>exact(show False from e).elim
end
structure Nr (h:Heap)(x dx C:Addr)(mA:Str->Υ):Prop where
 obj:h.get? x=some (W.instObj C dx)
 ns:h.Ns1 dx mA
 ne:dx≠x
def QE{h:Heap}{u:Addr}{x:Str->Υ}(n:h.Ns1 u x):∃B,h.get? u=some B/\∀l,W.lookIn l B=some (x l):=by
 obtain⟨o,E,L,G,hd,hk,_,H⟩:=n;refine⟨o,G,λl=>?_⟩
 have e:=H l;unfold nsFind findBy at e;rw[←Array.find?_toList]at e;unfold W.lookIn;rw[hd];dsimp only;split
 .rename_i y q;rw[q]at e;exact congrArg some e
 .rename_i q;rw[q]at e;have a:E.toList.any (·.refKey)=false:=by
   rw[List.any_eq_false];intro y I;obtain⟨z,t,s⟩:=hk y (fQ.mp I);simp[DictEntry.refKey,s]
  have J:¬ E.toList.any (·.refKey)=true:=by rw[a];exact aB
  rw[oZ J];exact congrArg some e
def Nr.look{h:Heap}{x s C:Addr}{t:Str->Υ}(I:Nr h x s C t):∃n,W.InstAt h x (W.instObj C s) C (some n)/\∀l,W.lookIn l n=some (t l):=
 let ⟨n,u,hl⟩:=QE I.ns
 ⟨n,⟨I.obj,rfl,rfl,u⟩,hl⟩
section
variable {prog:jS}{w:jU}{A:Around}{E:Value->jJ->Prop}{s:jJ}{K:Ζ}{x dx C f:Addr}{mA:Str->Υ}{name:Str}{v:Value}
def YJ{l:Bool}{Q:Value->jJ->Prop}(X:K.In s.heap)(I:Nr s.heap x dx C mA)(t:W.plainGet K C name=true)(hh:W.hasDictIn K C=true)
  (ha:W.findIn K (.ref C) name=some none) (u:mA name=some v) (n:W.handedIn v=true) (h:Q v { s with toks:=s.toks+1 }) :
  jR (jN prog w) A (getAttr (.ref x) name l) Q E s:=by
 obtain⟨z,J,hl⟩:=I.look;exact W.get_value X J (W.plainGet_of t).1 (W.findObj_own hh ha rfl (by rw[hl,u])) n h
def VG{pl:Sem Bool}{Q:Value×Ξ->jJ->Prop}(X:K.In s.heap)(I:Nr s.heap x dx C mA)(l:W.plainGet K C name=true)
  (n:W.findIn K (.ref C) name=some (some (.ref f))) (ht:W.isFn K (.ref f)=true) (t:mA name=none) (h:Q (.ref f,[.ref x]) s) :
  jR (jN prog w) A (lK (.ref x) name pl) Q E s:=by
 obtain⟨u,J,hl⟩:=I.look;exact W.method_fn X J (W.plainGet_of l).1 (W.plainGet_of l).2 n (beq_iff_eq.mp ht) (by show(W.lookIn name u).map (·.isSome)=some false;rw[hl,t];rfl) h
def Yq{ns:List Str}{Q:Unit->jJ->Prop}(X:K.In s.heap)(I:Nr s.heap x dx C mA)
  (G:W.findIn K (.ref C) "__setattr__" = some (some (.builtin "object.__setattr__"))) (H:W.plainOver K C=true) (ht:W.takerIn K C name=some none) (hh:W.hasDictIn K C=true)
  (hw:PySem.Within mA ns) (hsz:ns.length<=jP)
  (h:∀h',Nr h' x dx C (λy=>if y=name then some v else mA y)->fh dx s.heap h'->Q () { s with heap:=h',toks:=s.toks+2 }) :
  jR (jN prog w) A (setAttr (.ref x) name v) Q E s:=by
 obtain⟨R,J,hl⟩:=I.look;refine W.set_plain X J G (W.osa_open (s:={ s with toks:=s.toks+1 }) (r:=none) X J H ht λb=>?_)
 obtain⟨S,L,t⟩:=W.any_some hh;have M:s.heap.get? x=some ⟨.ref C,some dx,.plain,#[]⟩:=I.obj;refine jO (jW (jO (jO (wpAny_loadPart M (jO (W.Looks.here (s:={ s with toks:=s.toks+1 }) (W.looks_clsIn X L) ?_))))))
 rw[t];refine jW (a:=some dx) (jO (jW (jO ?_)));refine wpAny_nsSet1 (s:={ s with toks:=s.toks+1 }) I.ns λh' l n=>?_
 obtain⟨T,O,P,u,z,B⟩:=l.count (PySem.Within.cons name v hw);refine jO (wpAny_lookBehind u (by rw[z];exact pastItsLine_dict (bX B (by rw[lCq];lia))) ?_)
 exact jW (h _ ⟨(n.2 _ (Ne.symm I.ne)).trans I.obj,l,I.ne⟩ n)
def Tf{R:Result->jJ->Prop}{vs:Ξ}{l:List (Str×Value)}(X:K.In s.heap)(n:W.makesIn K C=true)
  (hi:W.findIn K (.ref C) "__init__" = some (some (.ref f))) (u:W.typeIn K (.ref f)=some (.type "function"))
  (h:lj (jN prog w) (A.under (.builtin "type.__call__" ⟨.ref C::vs,l⟩)) (.call (.ref f) ⟨.ref (s.heap.objs.size+1)::vs,l⟩) (W.InitBack (s.heap.objs.size+1) R)
   { s with heap:=(s.heap.push W.emptyDict).push (W.instObj C s.heap.objs.size) }) :
  lj (jN prog w) A (.call (.ref C) ⟨vs,l⟩) R s:=by
 obtain⟨hh,g,d,t,os⟩:=s;exact W.make_core (W.makes_of X n) (W.looks_findIn X hi) (λself=>W.bind_fn X self u) (.inl rfl) h
end
noncomputable def xt(f:Str)(v:V):List (Str×V)->List (Str×V)
 | []=>[(f,v)]
 | (g,x)::r=>if g=f then (g,v)::r else (g,x)::xt f v r
theorem EJ(f g:Str)(v:V):∀fs:List (Str×V),(xt f v fs).lookup g=if g=f then some v else fs.lookup g
 | []=>by
  show eZ g [(f,v)]=_
  by_cases h:g=f
  .have hb:(g == f)=true:=beq_iff_eq.mpr h;simp only[eZ,hb,pB h]
  .have hb:(g == f)=false:=beq_eq_false_iff_ne.mpr h;simp only[eZ,hb,oZ h]
 | (k,x)::r=>by
  have l:=EJ f g v r;rw[show xt f v ((k,x)::r)=(if k=f then (k,v)::r else (k,x)::xt f v r)from rfl]
  by_cases hk:k=f
  .rw[pB hk]
   by_cases h:g=k
   .have hb:(g == k)=true:=beq_iff_eq.mpr h;simp only[eZ,hb,pB (h.trans hk)]
   .have hb:(g == k)=false:=beq_eq_false_iff_ne.mpr h;simp only[eZ,hb,oZ (λe:g=f=>h (e.trans hk.symm))]
  .rw[oZ hk]
   by_cases h:g=k
   .have hb:(g == k)=true:=beq_iff_eq.mpr h;simp only[eZ,hb,oZ (λe:g=f=>hk (h.symm.trans e))]
   .have hb:(g == k)=false:=beq_eq_false_iff_ne.mpr h;simp only[eZ,hb];exact l
theorem D5(f:Str)(v:V):∀fs:List (Str×V),f∈(xt f v fs).map (·.1)/\∀g,g∈fs.map (·.1)->g∈(xt f v fs).map (·.1)
 | []=>⟨by simp[xt],λg h=>by simp at h⟩
 | (k,x)::r=>by
  obtain⟨l,n⟩:=D5 f v r;rw[show xt f v ((k,x)::r)=(if k=f then (k,v)::r else (k,x)::xt f v r)from rfl]
  by_cases hk:k=f
  .rw[pB hk];subst hk;exact⟨by simp,λg h=>by simpa using h⟩
  .rw[oZ hk];refine⟨?_,λg h=>?_⟩
   .rw[ai];exact mCo _ l
   .rw[ai]at h ⊢;rcases ab.mp h with e|e
    .exact ab.mpr (.inl e)
    .exact mCo _ (n g e)
theorem Ep(f:Str)(v:V):∀fs:List (Str×V),(xt f v fs).length<=fs.length+1
 | []=>by simp[xt]
 | (k,x)::r=>by
  have l:=Ep f v r;rw[show xt f v ((k,x)::r)=(if k=f then (k,v)::r else (k,x)::xt f v r)from rfl]
  by_cases hk:k=f
  .rw[pB hk,lCq,lCq];lia
  .rw[oZ hk,lCq,lCq];lia
def BR.some_of{v:V}{o:Υ}(r:BR (some v) o):∃u,o=some u/\qA v u:=by
 cases o with
 |none=>exact(show False from r).elim
 |some u=>exact⟨u,rfl,r⟩
def BR.none_of{o:Υ}(r:BR none o):o=none:=by
 cases o with
 |none=>rfl
 |some u=>exact(show False from r).elim
noncomputable def Qb{v:V}{u:Value}(r:qA v u):W.handedIn u=true:=by
 cases v with
 |non=>cases(show u=jq from r);rfl
 |bl b=>cases(show u=jr b from r);rfl
 |int i=>obtain⟨t,e⟩:=(show ∃t,u=gk i t from r);cases e;rfl
 |str x=>obtain⟨t,e⟩:=(show ∃t,u=dJ x t from r);cases e;rfl
 |byt b=>obtain⟨t,e⟩:=(show ∃t,u=jF b t from r);cases e;rfl
 |flt b=>obtain⟨t,e⟩:=(show ∃t,u=jG b t from r);cases e;rfl
 |ref a=>cases(show u=aW a from r);rfl
 |ty n=>cases(show u=fY n from r);rfl
section
variable {P:jS}{w:jU}{H H':Hp}{h h':Heap}{a C dx:Addr}{fs fs':List (Str×V)}
def Jk(hok:CJ P w H h)(e:H a=some (.ins C dx fs)):∃l,Nr h a dx C l/\(∀f,BR (fs.lookup f) (l f))/\PySem.Within l (fs.map (·.1))/\fs.length<=1000/\H dx=some (.own a):=by
 obtain⟨d,z,ne,s,l,n,r,q⟩:=(show rO P w H h a (.ins C dx fs)from hok a _ e)
 exact⟨l,⟨s,n,ne⟩,r,q,z,d⟩
end
structure Lc (K:Ζ)(C:Addr):Prop where
 pg:W.plainGet K C Str.empty=true
 hd:W.hasDictIn K C=true
 po:W.plainOver K C=true
 sa:W.findIn K (.ref C) "__setattr__" = some (some (.builtin "object.__setattr__"))
def Lc.get{K:Ζ}{C:Addr}(c:Lc K C)(f:Str):W.plainGet K C f=true:=c.pg
def oW(K:Ζ)(C:Addr)(f:Str):Prop:=W.findIn K (.ref C) f=some none
def oW.taker{K:Ζ}{C:Addr}{f:Str}(n:oW K C f):W.takerIn K C f=some none:=by
 unfold W.takerIn;rw[show W.findIn K (.ref C) f=some none from n]
 rfl
structure Hk (K:Ζ)(C:Addr)(m:Str)(f:Addr):Prop where
 at_:W.findIn K (.ref C) m=some (some (.ref f))
 fn:W.isFn K (.ref f)=true
 kp:W.keepIn K (.ref f)=true
section
variable {X:Cx}{oh:Φ}{σ:St}{H:Hp}{s:jJ}{a C dx:Addr}{fs:List (Str×V)}{f:Str}{v:V}{A:Around}{E:Value->jJ->Prop}
def Nz{b:Bool}{Q:Value->jJ->Prop}(I:Inv X oh σ H s)(e:H a=some (.ins C dx fs))(c:Lc X.K C)(n:oW X.K C f)(l:fs.lookup f=some v)
  (h:∀u t,Inv X oh σ H t->qA v u->Q u t):jR (jN X.prog X.w) A (getAttr (.ref a) f b) Q E s:=by
 obtain⟨z,O,r,_,_,_⟩:=Jk I.hok e;obtain⟨u,B,x⟩:=BR.some_of (v:=v) (o:=z f) (by rw[←l];exact r f)
 exact YJ I.kIn O (c.get f) c.hd n B (Qb x) (h u _ (I.tok _) x)
def Gi{m:Str}{g:Addr}{pl:Sem Bool}{Q:Value×Ξ->jJ->Prop}(I:Inv X oh σ H s)(e:H a=some (.ins C dx fs))(c:Lc X.K C)(k:Hk X.K C m g)(l:fs.lookup m=none)
  (h:Q (.ref g,[.ref a]) s):jR (jN X.prog X.w) A (lK (.ref a) m pl) Q E s:=by
 obtain⟨n,O,r,_,_,_⟩:=Jk I.hok e;have hn:n m=none:=BR.none_of (by rw[←l];exact r m)
 exact VG I.kIn O (c.get m) k.at_ k.fn hn h
def NT{y:V}{u:Value}{Q:Unit->jJ->Prop}(I:Inv X oh σ H s)(e:H a=some (.ins C dx fs))(c:Lc X.K C)(n:oW X.K C f)(hl:fs.length<1000)(L:qA y u)
  (h:∀t,Inv X oh σ (qC H a (.ins C dx (xt f y fs))) t->Q () t):jR (jN X.prog X.w) A (setAttr (.ref a) f u) Q E s:=by
 obtain⟨B,O,r,G,_,J⟩:=Jk I.hok e;have M:(fs.map (·.1)).length<=jP:=by rw[lMq,ka];lia
 refine Yq I.kIn O c.sa c.po n.taker c.hd G M λP l sb=>h _ ?_
 have hd:∃o,P.get? dx=some o:=let ⟨o,_,_,R,_⟩:=l.ns;⟨o,R⟩
 refine I.write (x:=a) (e:=dx) (by rw[e];exact True.intro) (.inr J) (λb q hb z=>(sb.2 b hb).trans z) hd ?_
 refine⟨by rw[oQ O.ne];exact J,?_,O.ne,l.obj,_,l.ns,λg=>?_,λg S=>?_⟩
 .have:=Ep f y fs;lia
 .show BR ((xt f y fs).lookup g) (if g=f then some u else B g)
  rw[EJ]
  by_cases q:g=f
  .rw[pB q,pB q];exact L
  .rw[oZ q,oZ q];exact r g
 .by_cases q:g=f
  .rw[q];exact(D5 f y fs).1
  .refine(D5 f y fs).2 g (G g λz=>S ?_)
   show(if g=f then some u else B g)=none
   rw[oZ q];exact z
def Inv.made(I:Inv X oh σ H s):Inv X oh σ (qC (qC H s.heap.objs.size (.own (s.heap.objs.size+1))) (s.heap.objs.size+1) (.ins C s.heap.objs.size []))
  { s with heap:=(s.heap.push W.emptyDict).push (W.instObj C s.heap.objs.size) }:=by
 have l:(s.heap.push W.emptyDict).get? s.heap.objs.size=some W.emptyDict:=bu s.heap rfl;have n:((s.heap.push W.emptyDict).push (W.instObj C s.heap.objs.size)).get? (s.heap.objs.size+1)=some (W.instObj C s.heap.objs.size):=by
  have:=bu (s.heap.push W.emptyDict) (o:=W.instObj C s.heap.objs.size) rfl
  rwa [ik]at this
 have t:(s.heap.push W.emptyDict).Ns s.heap.objs.size (λ_=>none):=⟨W.emptyDict,#[],_,l,rfl,(λe x=>absurd x (by simp)),λ_=>rfl⟩
 have z:=I.laid (a:=s.heap.objs.size) (o:=.own (s.heap.objs.size+1)) (h':=s.heap.push W.emptyDict) (t':=s.toks) (λb u q=>ak _ q) (aa _) ⟨_,l⟩
 refine z.laid (a:=s.heap.objs.size+1) (o:=.ins C s.heap.objs.size []) (t':=s.toks) (λb u q=>ak _ q) (fj (ik _ _)) ?_
 have ne:s.heap.objs.size≠s.heap.objs.size+1:=aN (ee _);refine⟨by rw[oQ ne,oS],aT _,ne,n,λ_=>none,(Heap.Ns1.of_empty t).at λo q=>ak _ q,λ_=>True.intro,λy B=>absurd rfl B⟩
noncomputable def Wt{prog:jS}{w:jU}{env:Env}{e:Expr}{f:Str}{pos:Pos}{s:jJ}{Q:Value->jJ->Prop}(hb:kY e f env (eval e env)=eval e env)
  (h:jR (jN prog w) A (eval e env) (λo l=>jR (jN prog w) A (getAttr o f true) Q E l) E s):jR (jN prog w) A (eval (.Attribute e f pos) env) Q E s:=
 Attribute_any_ h (by rw[arm_eval_Attribute,hb])
end
def aej(K:Ζ)(n:TE)(f:Str):TE:=λσ H Q=>n σ H λx l=>∃a C s fs v,x = .ref a/\l a=some (.ins C s fs)/\Lc K C/\oW K C f/\fs.lookup f=some v/\Q v l
def VA(K:Ζ)(s t:TE)(f:Str):TS:=λD σ H=>t σ H λy u=>s σ u λx l=>∃a C n fs,x = .ref a/\l a=some (.ins C n fs)/\Lc K C/\oW K C f/\fs.length<1000 /\
 D.nx σ (qC l a (.ins C n (xt f y fs)))
section
variable {X:Cx}{o e value:Expr}{f:Str}{pos pos' tpos:Pos}{ta tv:TE}
def AW(t:PE X e ta)(hb:kY e f X.env (eval e X.env)=eval e X.env):PE X (.Attribute e f pos) (aej X.K ta f):=by
 intro z s σ H Q I h;refine Wt hb (rQ (t z s σ H _ I h) λu O ⟨x,B,E,G,a,C,P,fs,v,ex,J,c,n,l,q⟩=>?_)
 subst ex;obtain rfl:u=aW a:=G;exact Nz E J c n l λR S L M=>⟨v,B,L,M,q⟩
def Bd(ha:PE X o ta)(z:PE X value tv)(B:lJ value (some (.Attribute o f pos')) pos.line X.env=pure false):PS X (.Assign [.Attribute o f pos'] value pos) (VA X.K ta tv f):=by
 intro t s σ H D I h;refine plainObj_wpAny_Assign_Attribute (rQ (z t s σ H _ I h) λu E ⟨y,G,J,L,q⟩=>rQ (ha t E σ G _ J q) λM T ⟨x,U,O,P,a,C,Y,fs,ex,Q,c,n,l,R⟩=>?_) B
 subst ex;obtain rfl:M=aW a:=P;exact NT O Q c n l L λs3 S=>⟨σ,_,S,R⟩
end
structure tV (k:Nat)(A:Around):Prop where
 hd:A.handled=none
 dp:A.depth+3*k+5<recursionLimit
 un:A.units+16*k+200<ku
def tV.mono{j k:Nat}{A:Around}(r:tV k A)(h:j<=k):tV j A:=⟨r.hd,by have:=r.dp;lia,by have:=r.un;lia⟩
theorem tV.deeper{k:Nat}{A:Around}(r:tV (k+1) A)(env:Env):tV k (A.deeper env):=
 ⟨r.hd,by have:=r.dp;show A.depth+1+3*k+5<_;lia,by have:=r.un;show A.units+3+16*k+200<_;lia⟩
def MZ{A:Around}{C:Addr}{us:Ξ}{l:List (Str×Value)}:(A.under (.builtin "type.__call__" ⟨.ref C::us,l⟩)).depth=A.depth+1:=by
 first|rfl|simp[Around.under,Code.weight,Code.isCreation,Code.isGuard,Code.isCaller,Code.frames,Code.isFrame,guardIds]
def MJ{A:Around}{C:Addr}{us:Ξ}{l:List (Str×Value)}:(A.under (.builtin "type.__call__" ⟨.ref C::us,l⟩)).units=A.units+1:=by
 first|rfl|simp[Around.under,Code.cUnits,Code.frames,Code.isFrame]
def tV.make{k:Nat}{A:Around}(r:tV (k+1) A)(C:Addr)(us:Ξ)(l:List (Str×Value)):tV k (A.under (.builtin "type.__call__" ⟨.ref C::us,l⟩)):=
 ⟨r.hd,by have:=r.dp;rw[MZ];lia,by have:=r.un;rw[MJ];lia⟩
theorem tV.depth{k:Nat}{A:Around}(r:tV k A):A.depth<recursionLimit:=by have:=r.dp;lia
theorem tV.units{k:Nat}{A:Around}(r:tV k A):A.units+64<ku:=by have:=r.un;lia
noncomputable def vI:TA:=λ_ H Q=>Q [] H
noncomputable def uf(l:TE)(tr:TA):TA:=λσ H Q=>l σ H λx n=>tr σ n λxs s=>Q (x::xs) s
section
variable {X:Cx}{e:Expr}{es:List Expr}{te:TE}{t:TA}{pos:Pos}
def oa:PA X [] vI:=λ_ _ _ _ H Q I h=>Calls.spliced_nil ⟨[],H,I,.nil,h⟩
def nZ(ha:PE X e te)(hr:PA X es t)(n:jT (e::es) X.env=(false,eval e X.env)::jT es X.env:=by rfl):PA X (e::es) (uf te t):=by
 intro pos l s σ H Q I h;rw[n];show jR _ _ (spliced ((false,eval e X.env)::ko pos (jT es X.env))) _ _ s;refine Calls.spliced_cons (rQ (ha l s σ H _ I h) λu z ⟨x,B,E,G,J⟩=>?_)
 exact rQ (hr pos l z σ B _ E J) λus S ⟨L,M,O,P,R⟩=>⟨x::L,M,O,.cons G P,R⟩
def adV(t:TA):TE:=λσ H Q=>t σ H λxs l=>xs.length<=jP/\∀p,l p=none->Q (.ref p) (qC l p (.tup xs))
def Ry(t:TA):TE:=λσ H Q=>t σ H λxs l=>xs.length<=jP/\∀p,l p=none->Q (.ref p) (qC l p (.lst xs))
def uM{x1}(h:PA X es t):PE X (.Tuple es x1 pos) (adV t):=by
 intro B s σ H Q I E;refine wpAny_Tuple_spliced (rQ (h pos B s σ H _ I E) λus l ⟨G,n,x,r,z,q⟩=>⟨by rw[←r.length];exact z,?_⟩)
 have J:n l.heap.objs.size=none:=x.hok.fresh (aa _);refine⟨.ref l.heap.objs.size,qC n l.heap.objs.size (.tup G),x.laid (t':=l.toks) (λb u e=>ak _ e) (aa _) ?_,rfl,q _ J⟩
 exact⟨z,us,r,⟨_,bu _ rfl,rfl,_,rfl⟩⟩
def pK(h:PA X es t):PE X (.List es pos) (Ry t):=by
 intro B s σ H Q I E;refine wpAny_List_spliced (rQ (h pos B s σ H _ I E) λus l ⟨G,n,x,r,z,q⟩=>⟨by rw[←r.length];exact z,?_⟩)
 have J:n l.heap.objs.size=none:=x.hok.fresh (aa _);refine⟨.ref l.heap.objs.size,qC n l.heap.objs.size (.lst G),x.laid (t':=l.toks) (λb u e=>ak _ e) (aa _) ?_,rfl,q _ J⟩
 exact⟨z,us,0,r,bu _ rfl⟩
end
abbrev Sp:=List V->Hp->VK->XK->Prop
abbrev TJ:=List Env->Hp->jJ->XK->Value->jJ->Prop
structure M6 (P:jS)(w:jU)(K:Ζ)(mg:Str->Υ)(base:Heap)(A:Around)(outer:List Env)(s:jJ)(H:Hp):Prop where
 frames:A.frames=some outer
 mod:Mod K mg base
 bs:∀b o,base.get? b=some o->s.heap.get? b=some o/\H b=none
 bsz:base.objs.size<=s.heap.objs.size
 funs:s.heap.FunFrames base outer
 frf:∀b∈RN outer,H b=none
 hok:CJ P w H s.heap
 bare:lu s.gens
def CE(outer:List Env)(P:jS)(w:jU)(H:Hp)(s:jJ)(Q:VK)(u:Value)(l:jJ):Prop:=
 ∃v n,l.os=s.os/\lu l.gens/\Un (RN outer) [] H n s.heap l.heap/\CJ P w n l.heap/\qA v u/\Q v n
def CR(CX:TJ)(outer:List Env)(P:jS)(w:jU)(H:Hp)(s:jJ)(Q:VK)(E:XK)(r:Result)(l:jJ):Prop:=
 match r with
 | .ok (.ret u)=>CE outer P w H s Q u l
 | .ok _=>False
 | .error e=>CX outer H s E e l
structure Aw (P:jS)(w:jU)(K:Ζ)(mg:Str->Υ)(base:Heap)(CX:TJ)(k:Nat)(f:Addr)(fd:jX)(ps:List Str)(sp:Sp):Prop where
 len:∀vs H Q E,sp vs H Q E->vs.length=ps.length
 run:∀(A:Around) (outer:List Env) (s:jJ) (H:Hp) (args:Args) (us:Ξ) (vs:List V) (Q:VK) (E:XK),tV k A->M6 P w K mg base A outer s H->mI s fd args (ps.zip us)->pU vs us->sp vs H Q E ->
  lj (jN P w) A (.call (.ref f) args) (CR CX outer P w H s Q E) s
def Aw.imp{P:jS}{w:jU}{K:Ζ}{mg:Str->Υ}{base:Heap}{CX:TJ}{k:Nat}{f:Addr}{fd:jX}{ps:List Str}{sp l:Sp}(F:Aw P w K mg base CX k f fd ps sp)
  (h:∀vs H Q E,l vs H Q E->sp vs H Q E):Aw P w K mg base CX k f fd ps l:=
 ⟨λvs H Q E q=>F.len vs H Q E (h _ _ _ _ q),λA outer s H n us vs Q E hr t hb u x=>F.run A outer s H n us vs Q E hr t hb u (h _ _ _ _ x)⟩
def M6.make{P:jS}{w:jU}{K:Ζ}{mg:Str->Υ}{base:Heap}{A:Around}{outer:List Env}{s:jJ}{H:Hp}(e:M6 P w K mg base A outer s H)(C:Addr)(us:Ξ)(l:List (Str×Value)) :
  M6 P w K mg base (A.under (.builtin "type.__call__" ⟨.ref C::us,l⟩)) outer s H:=⟨by first|exact e.frames|(simpa[Around.under,Code.envs,Code.isFrame,pushEnvs]using e.frames),e.mod,e.bs,e.bsz,e.funs,e.frf,e.hok,e.bare⟩
section
variable {X:Cx}{oh:Φ}{σ:St}{H:Hp}{s s':jJ}
def Inv.env0(I:Inv X oh σ H s):M6 X.prog X.w X.K X.mg X.base X.A X.stack s H:=
 ⟨I.ok.frames,I.ok.mod,I.bs,bX I.ok.bsz I.sz,I.stack,I.stkFree,I.hok,I.bare⟩
def Inv.after{Q:VK}{u:Value}(I:Inv X oh σ H s)(h:CE X.stack X.prog X.w H s Q u s'):EP X oh σ Q u s':=by
 obtain⟨v,n,os,bare,un,hok,r,q⟩:=h;obtain⟨hh,g,d,t,l⟩:=s';obtain rfl:l=s.os:=os;exact⟨v,n,I.call (h':=hh) (g':=g) (d':=d) (t':=t) (ch:=[]) un hok bare (λb z=>absurd z (by simp)),r,q⟩
end
def GR(sp:Sp)(l:List V)(E:XK)(t:TA):TE:=λσ H Q=>t σ H λvs n=>sp (vs++l) n Q E
def Zf(C:Addr)(m:Str)(sp:Sp)(l:List V)(E:XK)(s:TE)(t:TA):TE:=λσ H Q=>s σ H λx n=>∃a u fs,x = .ref a/\n a=some (.ins C u fs)/\fs.lookup m=none /\
 t σ n λvs z=>sp (x::(vs++l)) z Q E
def Sg(C:Addr)(sp:Sp)(n:List V)(E:XK)(t:TA):TE:=λσ H Q=>t σ H λvs s=>∀x l,s x=none->s l=none->l≠x ->
 sp (.ref x::(vs++n)) (qC (qC s l (.own x)) x (.ins C l [])) (λv u=>v = .non/\Q (.ref x) u) E
def rR(K:Ζ)(fd:jX)(ps:List Str)(ds:Ξ):Prop:=
 ∀(s:jJ) (us:Ξ),K.In s.heap->(us++ds).length=ps.length->mI s fd ⟨us,[]⟩ (ps.zip (us++ds))
def rR.all{K:Ζ}{fd:jX}{ps:List Str}(h:∀us:Ξ,us.length=ps.length->bindArgs fd ⟨us,[]⟩=pure (ps.zip us)):rR K fd ps []:=λs us _ hl=>by
 rw[aNq]at hl ⊢;exact .of_eq (h us hl)
def Cw(CX:TJ)(X:Cx)(E:XK):Prop:=∀(n:Φ) (σ:St) (H:Hp) (s:jJ) (e:Value) (l:jJ),Inv X n σ H s->CX X.stack H s E e l->X.xe e l
section
variable {X:Cx}{CX:TJ}{k:Nat}{f C:Addr}{fd:jX}{ps:List Str}{sp:Sp}{dvs:List V}{ds:Ξ}{E:XK}{x m:Str}{p pos apos:Pos}{e o:Expr}{es:List Expr}{ta:TE}{t:TA}
def MW{n:Φ}{σ:St}{H:Hp}{s:jJ}{Q:VK}{us:Ξ}{vs:List V}(F:Aw X.prog X.w X.K X.mg X.base CX k f fd ps sp)(hr:tV k X.A)(hb:rR X.K fd ps ds)(hd:pU dvs ds)(B:Cw CX X E)
  (I:Inv X n σ H s) (r:pU vs us) (h:sp (vs++dvs) H Q E):jR (jN X.prog X.w) X.A (call (.ref f) us) (EP X n σ Q) X.xe s:=by
 have z:pU (vs++dvs) (us++ds):=r.append hd;have hl:(us++ds).length=ps.length:=by rw[←z.length];exact F.len _ _ _ _ h
 refine wpAny_call (mi (F.run X.A X.stack s H ⟨us,[]⟩ (us++ds) (vs++dvs) Q E hr I.env0 (hb s us I.kIn hl) z h) λr G l=>?_)
 cases r with
 |error e=>exact B n σ H s e G I l
 |ok fl=>
  cases fl with
  |ret u=>exact I.after l
  |next=>exact False.elim l
  |brk=>exact False.elim l
  |cont=>exact False.elim l
def V1(F:Aw X.prog X.w X.K X.mg X.base CX k f fd ps sp)(hr:tV k X.A)(z:Gl X x)(B:X.mg x=some (.ref f))(hk:W.keepIn X.K (.ref f)=true)(hb:rR X.K fd ps ds)(hd:pU dvs ds)(G:Cw CX X E)
  (ha:PA X (e::es) t) (l:(x == ("__debug__" : Str))=false:=by decide) (J:jT (e::es) X.env=(false,eval e X.env)::jT es X.env:=by rfl) (n:(ko pos (jT es X.env)).any (·.1)=false:=by rfl) :
  PE X (.Call (.Name x p) (e::es) [] pos) (GR sp dvs E t):=by
 intro L s σ H Q I h;refine kN (J6 I z B ?_ l);refine W.callWith_K (h₀:=X.base) I.ok.mod.kin hk (rQ (ha pos L s σ H _ I h) λus M ⟨O,P,u,r,q⟩=>⟨u.kIn,?_⟩) J n
 exact MW F hr hb hd G u r q
def WG{pl:Sem Bool}(O:PE X o ta)(c:Lc X.K C)(B:Hk X.K C m f)(F:Aw X.prog X.w X.K X.mg X.base CX k f fd ps sp)(hr:tV k X.A)(hb:rR X.K fd ps ds)(hd:pU dvs ds)(P:Cw CX X E)(ha:PA X (e::es) t)
  (n:jT (e::es) X.env=(false,eval e X.env)::jT es X.env:=by rfl) (z:(ko pos (jT es X.env)).any (·.1)=false:=by rfl)
  (ht:eval (.Call (.Attribute o m apos) (e::es) [] pos) X.env=(do
   let G ←eval o X.env
   lU apos.atName
   let (f,first) ←lY [G] (lK G m pl)
   callWith pos f first (ko pos (jT (e::es) X.env)) (mj pos (kS [] X.env))):=by rfl) :
  PE X (.Call (.Attribute o m apos) (e::es) [] pos) (Zf C m sp dvs E ta t):=by
 intro J s σ H Q I h;refine W.methodCall_KW (pl:=pl) (rQ (O J s σ H _ I h) λu R ⟨x,S,L,T,a,dx,fs,ex,U,l,q⟩=>?_) ht
 subst ex;obtain rfl:u=aW a:=T;refine Gi L U c B l ?_;refine W.callWith_K (first:=[.ref a]) (h₀:=X.base) I.ok.mod.kin B.kp (rQ (ha pos J R σ S _ L q) λus s2 ⟨Y,H2,M,r,q2⟩=>⟨M.kIn,?_⟩) n z
 exact MW (us:=.ref a::us) (vs:=.ref a::Y) F hr hb hd P M (.cons rfl r) q2
def Ub{pl:Sem Bool}(G:PE X o ta)(c:Lc X.K C)(z:Hk X.K C m f)(F:Aw X.prog X.w X.K X.mg X.base CX k f fd ps sp)(hr:tV k X.A)(hb:rR X.K fd ps ds)(hd:pU dvs ds)(J:Cw CX X E)
  (ht:eval (.Call (.Attribute o m apos) [] [] pos) X.env=(do
   let B ←eval o X.env
   lU apos.atName
   let (f,first) ←lY [B] (lK B m pl)
   callWith pos f first (ko pos (jT [] X.env)) (mj pos (kS [] X.env))):=by rfl) :
  PE X (.Call (.Attribute o m apos) [] [] pos) (Zf C m sp dvs E ta vI):=by
 intro L s σ H Q I h;refine W.methodCall_KW (pl:=pl) (rQ (G L s σ H _ I h) λu P ⟨x,R,n,M,a,S,fs,ex,O,l,q⟩=>?_) ht
 subst ex;obtain rfl:u=aW a:=M;refine Gi n O c z l ?_;exact W.callWith_K0 (first:=[.ref a]) n.kIn z.kp (MW (us:=[.ref a]) (vs:=[.ref a]) F hr hb hd J n (.cons rfl .nil) q)
structure Mk (K:Ζ)(C f:Addr):Prop where
 makes:W.makesIn K C=true
 init:W.findIn K (.ref C) "__init__" = some (some (.ref f))
 fn:W.isFn K (.ref f)=true
 kp:W.keepIn K (.ref C)=true
def TB{B:Φ}{σ:St}{H:Hp}{s:jJ}{Q:VK}{us:Ξ}{vs:List V}(M:Mk X.K C f)(F:Aw X.prog X.w X.K X.mg X.base CX k f fd ps sp)(hr:tV (k+1) X.A)(hb:rR X.K fd ps ds)(hd:pU dvs ds)
  (L:Cw CX X E) (I:Inv X B σ H s) (r:pU vs us)
  (h:∀x n,H x=none->H n=none->n≠x->sp (.ref x::(vs++dvs)) (qC (qC H n (.own x)) x (.ins C n [])) (λv O=>v = .non/\Q (.ref x) O) E) :
  jR (jN X.prog X.w) X.A (call (.ref C) us) (EP X B σ Q) X.xe s:=by
 have G:=h (s.heap.objs.size+1) s.heap.objs.size (I.hok.fresh (cL _)) (I.hok.fresh (aa _)) (aN (ee _));have z:=Inv.made (C:=C) I;have J:pU (V.ref (s.heap.objs.size+1)::(vs++dvs)) (aW (s.heap.objs.size+1)::(us++ds)):=.cons rfl (r.append hd);have hl:(aW (s.heap.objs.size+1)::us++ds).length=ps.length:=by
  have e:=J.length;rw[F.len _ _ _ _ G]at e;exact e.symm
 refine wpAny_call (Tf (f:=f) I.kIn M.makes M.init (beq_iff_eq.mp M.fn) (mi (F.run _ X.stack _ _ ⟨aW (s.heap.objs.size+1)::us,[]⟩ (aW (s.heap.objs.size+1)::(us++ds)) _ _ E (hr.make C us [])
  (z.env0.make C us []) (hb _ (aW (s.heap.objs.size+1)::us) z.kIn hl) J G) λr P l=>?_))
 cases r with
 |error e=>exact L B σ _ _ e P z l
 |ok fl=>
  cases fl with
  |ret u=>
   obtain⟨v,R,S,T,U,Y⟩:=z.after l;subst U;exact⟨T,⟨V.ref (s.heap.objs.size+1),R,S,rfl,Y⟩⟩
  |next=>exact False.elim l
  |brk=>exact False.elim l
  |cont=>exact False.elim l
def Yn(M:Mk X.K C f)(F:Aw X.prog X.w X.K X.mg X.base CX k f fd ps sp)(hr:tV (k+1) X.A)(z:Gl X x)(B:X.mg x=some (.ref C))(hb:rR X.K fd ps ds)(hd:pU dvs ds)(G:Cw CX X E)
  (ha:PA X (e::es) t) (l:(x == ("__debug__" : Str))=false:=by decide) (J:jT (e::es) X.env=(false,eval e X.env)::jT es X.env:=by rfl) (n:(ko pos (jT es X.env)).any (·.1)=false:=by rfl) :
  PE X (.Call (.Name x p) (e::es) [] pos) (Sg C sp dvs E t):=by
 intro L s σ H Q I h;refine kN (J6 I z B ?_ l);refine W.callWith_K (h₀:=X.base) I.ok.mod.kin M.kp (rQ (ha pos L s σ H _ I h) λus O ⟨P,R,u,r,q⟩=>⟨u.kIn,?_⟩) J n
 exact TB M F hr hb hd G u r q
end
structure oI (N P:List Str)(sc:kJ):Prop where
 kind:sc.kind = .function
 co:sc.isCoroutine=false
 gen:sc.isGenerator=false
 nd:N.Nodup
 pre:N.take P.length=P
 par:∀x∈P,sc.names.lookup x=some .local∨sc.names.lookup x=some .cell
 nofree:∀y∈sc.names,y.2 ≠ .free
theorem Ip{kindOf:Str->Option NameKind}{x:Str}:∀{binds:List (Str×Value)}{m:Str->Υ},(∀v,(x,v)∉binds)->bindL kindOf binds m x=m x
 | [],_,_=>rfl
 | (n,v)::r,m,h=>by
  unfold bindL;rw[Ip λw hw=>h w (mCo _ hw)]
  split
  .have:x≠n:=by rintro rfl;exact h v ao
   simp[this]
  .rfl
theorem HJ{kindOf:Str->Option NameKind}{x:Str}:∀{binds:List (Str×Value)}{m:Str->Υ},(∀v,(x,v)∉binds)->bindC kindOf binds m x=m x
 | [],_,_=>rfl
 | (n,v)::r,m,h=>by
  unfold bindC;rw[HJ λw hw=>h w (mCo _ hw)]
  split
  .rfl
  .have:x≠n:=by rintro rfl;exact h v ao
   simp[this]
theorem HN{kindOf:Str->Option NameKind}{x:Str}{v:Value}:∀{P:List Str}{vs:Ξ}{i:Nat}{m:Str->Υ},P.Nodup->P[i]?=some x->vs[i]?=some v->kindOf x=some .local ->
  bindL kindOf (P.zip vs) m x=some v
 | [],_,_,_,_,h,_,_=>by simp at h
 |_::_,[],_,_,_,_,h,_=>by simp at h
 |p::P,w::vs,0,m,nd,h1,h2,hk=>by
  simp at h1 h2;subst h1;subst h2;show bindL kindOf ((p,w)::P.zip vs) m p=_;unfold bindL;rw[Ip λv l=>(ah.mp nd).1 (gU l).1,pB hk]
  simp
 |p::P,w::vs,i+1,m,nd,h1,h2,hk=>by
  show bindL kindOf ((p,w)::P.zip vs) m x=_;unfold bindL;exact HN (i:=i) (ah.mp nd).2 (by simpa using h1) (by simpa using h2) hk
theorem Iy{kindOf:Str->Option NameKind}{x:Str}{v:Value}:∀{P:List Str}{vs:Ξ}{i:Nat}{m:Str->Υ},P.Nodup->P[i]?=some x->vs[i]?=some v->kindOf x≠some .local ->
  bindC kindOf (P.zip vs) m x=some v
 | [],_,_,_,_,h,_,_=>by simp at h
 |_::_,[],_,_,_,_,h,_=>by simp at h
 |p::P,w::vs,0,m,nd,h1,h2,hk=>by
  simp at h1 h2;subst h1;subst h2;show bindC kindOf ((p,w)::P.zip vs) m p=_;unfold bindC;rw[HJ λv l=>(ah.mp nd).1 (gU l).1,oZ hk]
  simp
 |p::P,w::vs,i+1,m,nd,h1,h2,hk=>by
  show bindC kindOf ((p,w)::P.zip vs) m x=_;unfold bindC;exact Iy (i:=i) (ah.mp nd).2 (by simpa using h1) (by simpa using h2) hk
def xS(N:List Str)(vs:List V):St:=vs.map some++ay (N.length-vs.length) none
def MR(CX:TJ)(P:jS)(w:jU)(K:Ζ)(mg:Str->Υ)(base:Heap)(N:List Str)(l:Str)(scope:kJ)(f:Addr)(t:Value)(A:Around)(outer:List Env)(s:jJ)(H:Hp)(E:XK):Cx where
 prog:=P
 w:=w
 K:=K
 mg:=mg
 base:=base
 A:=A.deeper (kQ l scope s.heap.objs.size f t)
 N:=N
 s₀:=s
 H₀:=H
 env:=kQ l scope s.heap.objs.size f t
 outer:=outer
 stack:=kQ l scope s.heap.objs.size f t::outer
 ex:=[]
 calm:=true
 fn:=λ_=>true
 pn:=[]
 xe:=λe u=>jR (jN P w) (A.deeper (kQ l scope s.heap.objs.size f t)) (leaving (kQ l scope s.heap.objs.size f t) e) (λ_ n=>CX outer H s E e n) (λx n=>CX outer H s E x n) u
def Ln{l:kJ}{n:Nat}{x:Str}(h:l.names.lookup x=some .cell):∃c,(cellsFrom n l.names []).lookup x=some c:=by
 have q:=W.cellsFrom_some l.names n [] (.inl h);exact Option.isSome_iff_exists.mp q
def QW{CX:TJ}{P:jS}{w:jU}{K:Ζ}{mg:Str->Υ}{base:Heap}{N ps:List Str}{l:Str}{scope:kJ}{f:Addr}{M:Value}{A:Around}{outer:List Env}{s s1:jJ}{H:Hp}{E:XK}{us:Ξ}{vs:List V}
  (S:oI N ps scope) (hd:A.handled=none) (B:M6 P w K mg base A outer s H) (hl:vs.length=ps.length) (r:pU vs us)
  (x:InCallC s s.heap.objs.size (bindL (kQ l scope s.heap.objs.size f M).kindOf (ps.zip us) λ_=>none) (cellsFrom (s.heap.objs.size+1) scope.names []) (bindC (kQ l scope s.heap.objs.size f M).kindOf (ps.zip us) λ_=>none) s1) :
  Inv (MR CX P w K mg base N l scope f M A outer s H E) [] (xS N vs) H s1:=by
 have R:ps.length<=N.length:=by have:=congrArg bV S.pre;rw[lTq]at this;lia
 obtain⟨O,U,rfl,hk⟩:=x.done;have G:∀b:Addr,b∉(MR CX P w K mg base N l scope f M A outer s H E).ex:=λb z=>absurd (show b∈([]:Δ)from z) (by simp)
 refine⟨⟨B.mod,S.kind,rfl,rfl,aa _,λy z c O t=>?_,λy I=>?_,λy c _ h=>?_,λ_=>hd,Around.frames_deeper B.frames,.inr ⟨rfl,rfl⟩,λb z=>absurd z (G b),B.bs,B.bsz,λb _ _=>G b,λb z=>absurd z (G b),B.funs,B.frf⟩,
  rfl,B.bare,Un.kept hk,⟨_,x.toInCall.ns,λi y v O t X=>?_⟩,λy c h=>⟨_,x.cell y c h⟩,B.hok.fresh (aa _),λy c h=>?_,λp J=>absurd (show p∈([]:Φ)from J) (by simp),B.hok.kept hk,?_⟩
 .exact name_of_addr x.apart (PySem.mem_of_lookup O) (PySem.mem_of_lookup t)
 .have I:scope.names.lookup y=some .cell∨scope.names.lookup y=some .free:=I;rcases I with I|I
  .exact Ln I
  .exact absurd rfl (S.nofree _ (PySem.mem_of_lookup I))
 .exact cC (x.above y c (PySem.mem_of_lookup h))
 .have hi:i<vs.length:=by
   unfold xS at t
   by_cases hi:i<vs.length
   .exact hi
   .rw[gYq (by simpa using hi)]at t
    rw[dc]at t;split at t <;> cases t
  have ha:vs[i]?=some v:=by
   unfold xS at t;rw[gZq (by simpa using hi),gMq]at t
   cases e:vs[i]? with
   |none=>rw[e]at t;cases t
   |some a=>rw[e]at t;cases t;rfl
  obtain⟨u,Q,T⟩:=r.get ha;have J:ps[i]?=some y:=by
   rw[←S.pre,dX (by lia)];exact O
  have L:ps.Nodup:=by rw[←S.pre];exact S.nd.sublist (bj _ _)
  refine⟨u,T,?_⟩;rcases S.par y (mGq J)with k|k
  .exact .inl ⟨k,HN L J Q k⟩
  .obtain⟨c,e⟩:=Ln (n:=s.heap.objs.size+1) k;refine .inr ⟨.inl k,c,e,?_⟩;have q:=x.cell y c e;rw[Iy L J Q (by show scope.names.lookup y≠_;rw[k];decide)]at q
   exact q
 .exact B.hok.fresh (cC (x.above y c (PySem.mem_of_lookup h)))
 .unfold xS;show _=N.length;rw[lAq,lMq,cM];lia
def acZ{CX:TJ}{P:jS}{w:jU}{K:Ζ}{mg:Str->Υ}{base:Heap}{k:Nat}{f:Addr}{G l:Str}{z:Arguments}{body:List Stmt}{scope:kJ}{dV kV U pm M ct oc:Value}{an od:Option Addr}
  {osl:Array Υ}{N ps:List Str}{sp:Sp}(lk:K.lookup f=some ⟨oc,od,.func (W.fnOf G l z body scope dV kV U pm an M ct),osl⟩) (hcd:W.codeIn K M l=true) (S:oI N ps scope)
  (len:∀vs H Q E,sp vs H Q E->vs.length=ps.length)
  (O:∀(A:Around) (outer:List Env) (s:jJ) (H:Hp) (vs:List V) (Q:VK) (E:XK),tV k (A.deeper (kQ l scope s.heap.objs.size f M))->sp vs H Q E ->
   ∃t,Oq (MR CX P w K mg base N l scope f M A outer s H E) body t/\t { nx:=λ_ L=>Q .non L,rt:=Q } (xS N vs) H) :
  Aw P w K mg base CX (k+1) f (W.fnOf G l z body scope dV kV U pm an M ct) ps sp:=by
 refine⟨len,λA outer s H args us vs Q E hr X hb r Y=>?_⟩
 have hl:=len _ _ _ _ Y;have KX:K.In s.heap:=X.mod.kin.keeps λb o e=>(X.bs b o e).1
 have lim:s.heap.NoLimit:=X.mod.nolimit.keeps λb o e=>(X.bs b o e).1
 have R:∀y∈ps.zip us,scope.names.lookup y.1=some .local∨(scope.names.lookup y.1=some .cell/\((cellsFrom (s.heap.objs.size+1) scope.names []).lookup y.1).isSome=true):=λ⟨n,v⟩ hy=>by
  rcases S.par n (gU hy).1 with q|q
  .exact .inl q
  .exact .inr ⟨q,W.cellsFrom_some _ _ _ (.inl q)⟩
 refine codeAny_call_function hr.depth (KX _ _ lk) rfl S.co S.gen rfl (W.codeRec_of KX hcd) (hb _ _ _ _ ?_);refine wpAny_newFunctionEnv_cells S.kind R λenv he s1 x=>?_
 subst he;refine⟨lim.keeps x.toInCall.keep,codeAny_func ?_⟩;obtain⟨t,ht,hq⟩:=O A outer s H vs Q E (hr.deeper _) Y;have I:Inv (MR CX P w K mg base N l scope f M A outer s H E) [] (xS N vs) H s1:=QW S hr.hd X hl r x;refine kc (ht [] s1 (xS N vs) H _ I hq) (λfl s' T=>?_) λe s' T=>T
 have fin:∀{B:St}{L:Hp}{v:V}{u:Value},Inv (MR CX P w K mg base N l scope f M A outer s H E) [] B L s'->qA v u->Q v L->CE outer P w H s Q u s':=
  λ{B L v u} J rv q=>⟨v,L,J.os,J.bare,J.base,J.hok,rv,q⟩
 cases fl with
 |ret u=>
  obtain⟨v,B,L,J,rv,q⟩:=T;exact fin J rv q
 |next=>
  obtain⟨B,L,J,q⟩:=T;exact fin (v:=V.non) (u:=jq) J rfl q
 |brk=>
  obtain⟨_,_,_,q⟩:=T;exact False.elim q
 |cont=>
  obtain⟨_,_,_,q⟩:=T;exact False.elim q
section
variable {X:Cx}{x:Str}{p pos:Pos}{e:Expr}{es:List Expr}{t:TA}{id T:String}{r:List V->Hp->VK->Prop}
noncomputable def tCB(r:List V->Hp->VK->Prop)(t:TA):TE:=λσ H Q=>t σ H λvs l=>r vs l Q
def oE(z:si X (.builtin id) r)(B:Gl X x)(E:X.mg x=none)(G:kO x=some (.builtin id))(ha:PA X (e::es) t)(hn:x ≠ "__name__" := by decide)(l:(x == ("__debug__" : Str))=false:=by decide)
  (J:jT (e::es) X.env=(false,eval e X.env)::jT es X.env:=by rfl) (n:(ko pos (jT es X.env)).any (·.1)=false:=by rfl):PE X (.Call (.Name x p) (e::es) [] pos) (tCB r t):=by
 intro u s σ H Q I h;refine kN (Eh I B E G ?_ hn l);exact jj (rQ (ha pos u s σ H _ I h) λus L ⟨M,O,P,R,S⟩=>z u L σ O M us Q P R S) J n
def xi(z:si X (.type T) r)(B:Gl X x)(E:X.mg x=none)(G:kO x=some (.type T))(ha:PA X (e::es) t)(hn:x ≠ "__name__" := by decide)(l:(x == ("__debug__" : Str))=false:=by decide)
  (J:jT (e::es) X.env=(false,eval e X.env)::jT es X.env:=by rfl) (n:(ko pos (jT es X.env)).any (·.1)=false:=by rfl):PE X (.Call (.Name x p) (e::es) [] pos) (tCB r t):=by
 intro u s σ H Q I h;refine kN (Eh I B E G ?_ hn l);exact dw (rQ (ha pos u s σ H _ I h) λus L ⟨M,O,P,R,S⟩=>z u L σ O M us Q P R S) J n
end
end L2
namespace HT
open PySem PyProof.Rows
noncomputable def tG:Ϝ->Ϝ->Bool
 | [],[]=>false
 | [],_::_=>true
 |_::_,[]=>false
 |x::xs,y::ys=>if x=y then tG xs ys else decide (x<y)
def zH(x y:Int)(xs ys:Ϝ):tG (x::xs) (y::ys)=if x=y then tG xs ys else decide (x<y):=rfl
def HE:tG [] []=false:=rfl
def GT(y:Int)(ys:Ϝ):tG [] (y::ys)=true:=rfl
def FE(x:Int)(xs:Ϝ):tG (x::xs) []=false:=rfl
noncomputable def Tq(A:Around)(s:jJ)(a:Int)(t:Tok)(c:Int)(u:Tok):∃e,SeqAt.EqAt A s (.int a t) (.int c u) e/\(e=true↔a=c):=
 ⟨(a == c),SeqAt.EqAt.int_int a t c u,by simp⟩
noncomputable def VH(A:Around)(s:jJ)(a:Int)(t:Tok)(c:Int)(u:Tok)(prog:jS)(w:jU)(E:Value->jJ->Prop)(Q:Value->jJ->Prop)(h:Q (.bool (decide (a<c))) s) :
  jR (jN prog w) A (richCompare .Lt (.int a t) (.int c u)) Q E s:=
 (jI h:jR (jN prog w) A (kg .Lt (.int a t) (.int c u)) Q E s)
section
variable {prog:jS}{w:jU}{A:Around}{E:Value->jJ->Prop}{s:jJ}
def HZ(n d:Nat):Option Int->Nat
 |none=>d
 |some v=>if v<0 then (v+(n:Int)).toNat else min v.toNat n
def Dm(n d:Nat):HZ n d none=d:=rfl
def BH(n d k:Nat):HZ n d (some (k:Int))=min k n:=by
 show(if (k:Int)<0 then ((k:Int)+(n:Int)).toNat else min (k:Int).toNat n)=min k n
 rw[oZ (by lia),cu]
end
end HT
namespace L2
open PySem PySem.Spec PyProof.Rows
abbrev TO:=St->Hp->(Option Int->Hp->Prop)->Prop
def PO(X:Cx)(e:Option Expr)(t:TO):Prop:=
 ∀(l:Φ) (s:jJ) (σ:St) (H:Hp) (Q:Option Int->Hp->Prop),Inv X l σ H s->t σ H Q ->
  jR (jN X.prog X.w) X.A (evalPart e X.env) (λu x=>∃o n,Inv X l σ n x/\IsPart u o/\Q o n) X.xe s
def Pp:TO:=λ_ H Q=>Q none H
noncomputable def Zq(t:TE):TO:=λσ H Q=>t σ H λx l=>∃i,x = .int i/\Q (some i) l
def CC{ns:Ϝ}:∀{us:Ξ},pU (ns.map V.int) us->ki us ns:=by
 induction ns with
 |nil=>intro us r;rw[eB]at r;cases r;exact .nil
 |cons n ns l=>
  intro us r;rw[ai]at r;cases r with
  |cons s u=>
   obtain⟨t,e⟩:=s;subst e;exact .cons n t (l u)
section
variable {X:Cx}{e:Expr}{te:TE}{lo hi:Option Expr}{tl th:TO}{pos p2:Pos}
def vY:PO X none Pp:=by
 intro l s σ H Q I h;rw[evalPart_none];exact jW ⟨none,H,I,.none,h⟩
def uD(h:PE X e te):PO X (some e) (Zq te):=by
 intro l s σ H Q I hw;rw[evalPart_some];refine rQ (h l s σ H _ I hw) λu G ⟨x,n,z,B,E⟩=>?_
 obtain⟨i,rfl,q⟩:=E;obtain⟨t,rfl⟩:=B;exact⟨some i,n,z,.int i t,q⟩
def SlR(X:Cx)(r:V->Option Int->Option Int->Hp->VK->Prop):Prop:=
 ∀(l:Φ) (s:jJ) (σ:St) (H:Hp) (x:V) (v n t:Value) (lo hi:Option Int) (u:Addr) (Q:VK),Inv X l σ H s->qA x v->s.heap.IsSliceOf u n t .none->IsPart n lo->IsPart t hi->r x lo hi H Q ->
  ∃T id,typeLookup (.type T) "__getitem__" = pure (some (.builtin id))/\s.TypeIs v T/\jR (jN X.prog X.w) X.A (mH v (.ref u)) (EP X l σ Q) X.xe s
def tSl(r:V->Option Int->Option Int->Hp->VK->Prop)(te:TE)(tl th:TO):TE:=λσ H Q=>te σ H λx n=>tl σ n λl s=>th σ s λu t=>r x l u t Q
def tH{r:V->Option Int->Option Int->Hp->VK->Prop}(hr:SlR X r)(G:PE X e te)(hl:PO X lo tl)(J:PO X hi th):PE X (.Subscript e (.Slice lo hi none p2) pos) (tSl r te tl th):=by
 intro t s σ H Q I h;refine Subscript_ (rQ (G t s σ H _ I h) λv L ⟨x,M,O,P,R⟩=>?_)
 refine wpAny_Slice (rQ (hl t L σ M _ O R) λz S ⟨l,U,Y,pl,q2⟩=>rQ (J t S σ U _ Y q2) λB n ⟨u,E,I3,pu,q3⟩=>?_)
 rw[evalPart_none];refine jW ?_;have I4:Inv X t σ E { n with heap:=n.heap.push { cls:=.type "slice", data:=.fields #[z,B,.none] } }:=I3.kept (t':=n.toks) λb ob q=>ak _ q
 obtain⟨T,id,hT,ht,hg⟩:=hr t { n with heap:=n.heap.push { cls:=.type "slice", data:=.fields #[z,B,.none] } } σ E x v z B l u n.heap.objs.size Q I4 P (Heap.IsSliceOf.new ..) pl pu q3
 show jR (jN X.prog X.w) X.A (mO e (.Slice lo hi none p2) v (.ref n.heap.objs.size)) (EP X t σ Q) X.xe { n with heap:=n.heap.push { cls:=.type "slice", data:=.fields #[z,B,.none] } }
 exact tail_any (ops:=[.ref n.heap.objs.size,v]) ht hT hg (by with_unfolding_all rfl)
def Mm(xs:List V)(lo hi:Option Int):List V:=(xs.drop (HT.HZ xs.length 0 lo)).take (HT.HZ xs.length xs.length hi-HT.HZ xs.length 0 lo)
def LR(xs:List V)(lo hi:Option Int):(Mm xs lo hi).length<=xs.length:=by
 unfold Mm;rw[lTq,ax];lia
end
def Je(n:Nat)(i:Int):Option Nat:=if 0<=i then (if i<n then some i.toNat else none)else if -(n:Int)<=i then some (i+n).toNat else none
def atI{α:Type}(xs:List α)(i:Int):Option α:=(Je xs.length i).bind λj=>xs[j]?
def PH{n:Nat}{i:Int}{j:Nat}(h:Je n i=some j):mQ i n=some j/\j<n/\-(n:Int)<=i/\i<n:=by
 unfold Je at h
 by_cases s:0<=i
 .rw[pB s]at h
  by_cases l:i<n
  .rw[pB l]at h;have e:i.toNat=j:=aw.inj h;exact⟨by rw[seqIndex_of s l,e],by lia,by lia,l⟩
  .rw[oZ l]at h;cases h
 .rw[oZ s]at h
  by_cases l:-(n:Int)<=i
  .rw[pB l]at h;have e:(i+n).toNat=j:=aw.inj h;exact⟨by rw[seqIndex_neg (by lia) l,e],by lia,l,by lia⟩
  .rw[oZ l]at h;cases h
def PB{α:Type}{xs:List α}{i:Int}{v:α}(h:atI xs i=some v):∃j,mQ i xs.length=some j/\xs[j]?=some v/\j<xs.length/\-(xs.length:Int)<=i/\i<xs.length:=by
 unfold atI at h;cases e:Je xs.length i with
 |none=>rw[e]at h;cases h
 |some j=>
  rw[e]at h;obtain⟨l,n,s,t⟩:=PH e;exact⟨j,l,h,n,s,t⟩
def tu{α:Type}{xs:List α}{j:Nat}{v:α}(h:xs[j]?=some v):atI xs (j:Int)=some v:=by
 have l:j<xs.length:=(gSq.mp h).1;have e:Je xs.length (j:Int)=some j:=by
  unfold Je;rw[pB (by lia),pB (by lia)];simp
 unfold atI;rw[e];exact h
def GY{α:Type}(xs:List α)(v:α):atI (xs++[v]) (-1)=some v:=by
 have hl:(xs++[v]).length=xs.length+1:=by simp
 have e:Je (xs++[v]).length (-1)=some xs.length:=by
  unfold Je;rw[hl,oZ (by decide),pB (by lia)]
  congr 1;lia
 unfold atI;rw[e];show(xs++[v])[xs.length]?=some v;simp
def WJ(b:Expr):Prop:=∀o i,mD b false o i=operate [o,i] (mH o i)
def XN(X:Cx)(r:R2):Prop:=
 ∀(n l:Expr) (t:Φ) (s:jJ) (σ:St) (H:Hp) (x y:V) (v u:Value) (Q:VK),Inv X t σ H s->qA x v->qA y u->r x y H Q ->
  mD l false v u=operate [v,u] (mH v u)->jR (jN X.prog X.w) X.A (mO n l v u) (EP X t σ Q) X.xe s
def MtR(X:Cx)(id:String)(r:V->List V->Hp->VK->Prop):Prop:=
 ∀(l:Φ) (s:jJ) (σ:St) (H:Hp) (x:V) (xs:List V) (v:Value) (us:Ξ) (Q:VK),Inv X l σ H s->qA x v->pU xs us->r x xs H Q ->
  jR (jN X.prog X.w) X.A (call (.builtin id) (v::us)) (EP X l σ Q) X.xe s
section
variable {X:Cx}{a b:Expr}{ta tb:TE}{pos:Pos}
noncomputable def XN.or{r r':R2}(h:XN X r)(h':XN X r'):XN X (λx y H Q=>r x y H Q∨r' x y H Q):=by
 intro l n t s σ H x y v u Q I z B q E;rcases q with q|q
 .exact h l n t s σ H x y v u Q I z B q E
 .exact h' l n t s σ H x y v u Q I z B q E
def qB{r:R2}(hr:XN X r)(ha:PE X a ta)(hb:PE X b tb)(l:WJ b):PE X (.Subscript a b pos) (YV r ta tb):=by
 intro n s σ H Q I h;exact Subscript_ (acd ha hb I h λv u t x y z B E G q=>hr a b n t σ z x y v u Q B E G q (l _ _))
def TF(K:Ζ):R2:=λx y H Q=>∃p xs i v,x = .ref p/\y = .int i/\rz K H p xs/\atI xs i=some v/\Q v H
def acw(K:Ζ):R2:=λx y H Q=>∃p xs i v,x = .ref p/\y = .int i/\Ej K H p xs/\atI xs i=some v/\Q v H
def pI:XN X (TF X.K):=by
 intro n B M s σ H x y v u Q I S T h O;obtain⟨p,xs,i,z,rfl,rfl,U,Y,q⟩:=h;cases S;obtain⟨t,rfl⟩:=T;obtain⟨E,r,G,hz⟩:=I.list U;obtain⟨j,l,h2,h3,h4,h5⟩:=PB Y;obtain⟨w,P,J⟩:=r.get h2;have hl:=r.length;have hn:=JX;have fin:EP X M σ Q w s:=⟨z,H,I,J,q⟩
 by_cases R:0<=i
 .have L:i.toNat=j:=by
   rw[seqIndex_of R h5]at l;exact aw.inj l
  exact item_listR G.isList R (by lia) (by rw[L];simpa using P) fin O
 .have L:(i+(E.toArray.size:Int)).toNat=j:=by
   rw[seqIndex_neg (by lia) h4]at l
   rw[aA,←hl];exact aw.inj l
  exact mC (x:=w) G.isList.typeIs slot_list_getitem.lookup
   (wpAny_getItem_list_neg (Q:=λr s'=>r=w/\EP X M σ Q r s') G.isList (by lia) (by rw[aA] <;> lia) (by lia) (by rw[L];simpa using P) ⟨rfl,fin⟩) O
def Cq:XN X (acw X.K):=by
 intro l n E s σ H x y v u Q I J L h M;obtain⟨p,xs,i,z,rfl,rfl,O,P,q⟩:=h;cases J;obtain⟨t,rfl⟩:=L;obtain⟨R,r,G,hz⟩:=I.tuple O;obtain⟨j,S,T,h3,h4,h5⟩:=PB P;obtain⟨w,U,B⟩:=r.get T;have hl:=r.length;have hn:=JX;have fin:EP X E σ Q w s:=⟨z,H,I,B,q⟩;exact mC (x:=w) G.typeIs slot_tuple_getitem.lookup
  (getItem_tuple (j:=j) (Q:=λr Y=>r=w/\EP X E σ Q r Y) G (by lia) (by lia) (by rw[aA,←hl];exact S) (by simpa using U) ⟨rfl,fin⟩) M
def Ke(lo hi:Option Int)(n:Nat):(kK lo hi none n).1=((HT.HZ n 0 lo:Nat):Int)/\(kK lo hi none n).2.1=((HT.HZ n n hi:Nat):Int)/\(kK lo hi none n).2.2=1:=by
 refine⟨?_,?_,rfl⟩
 .cases lo with
  |none=>simp[kK,HT.HZ]
  |some i=>
   simp only[kK,HT.HZ,ja,show(1:Int)>0 by decide,if_true]
   by_cases h:i<0
   .simp only[h,if_true] <;> lia
   .simp only[h,if_false] <;> lia
 .cases hi with
  |none=>simp[kK,HT.HZ]
  |some i=>
   simp only[kK,HT.HZ,ja,show(1:Int)>0 by decide,if_true]
   by_cases h:i<0
   .simp only[h,if_true] <;> lia
   .simp only[h,if_false] <;> lia
def Hz(l:Ξ)(lo hi:Option Int):slicePick l.toArray lo hi none=((l.drop (HT.HZ l.length 0 lo)).take (HT.HZ l.length l.length hi-HT.HZ l.length 0 lo)).toArray:=by
 obtain⟨n,s,t⟩:=Ke lo hi l.toArray.size;unfold slicePick;rw[n,s,t];simp only[sliceRange_one,pick_run,aA] <;> rfl
def aex(K:Ζ):V->Option Int->Option Int->Hp->VK->Prop:=λx lo hi H Q=>∃a xs,x = .ref a/\rz K H a xs/\∀p,H p=none->Q (.ref p) (qC H p (.lst (Mm xs lo hi)))
def vg:SlR X (aex X.K):=by
 intro L s σ H x v M O lo hi P Q I t u z B h;obtain⟨a,l,rfl,E,q⟩:=h;cases t;obtain⟨G,r,ht,J⟩:=I.list E;have n:=r.length;refine⟨"list", _,slot_list_getitem.lookup,ht.isList.typeIs,?_⟩;refine wpAny_getItem_list_slice ht.isList u z B .none (by simp) ?_ (by rw[aA] <;> lia)
 rw[Hz,←n];refine⟨.ref s.heap.objs.size,_,I.laid (t':=s.toks) (o:=.lst (Mm l lo hi)) (λb R q=>ak _ q) (aa _) ?_,rfl,q _ (I.hok.fresh (aa _))⟩
 exact⟨bX (LR l lo hi) J,_,0,(r.drop (HT.HZ l.length 0 lo)).take (HT.HZ l.length l.length hi-HT.HZ l.length 0 lo),bu _ rfl⟩
noncomputable def BU:V->Bool
 | .non=>true
 | .bl _=>true
 | .int _=>true
 | .str _=>true
 |_=>false
noncomputable def Zr:V->V->Bool
 | .non,.non=>true
 | .bl a,.bl b=>a == b
 | .bl a,.int b=>(if a then 1 else 0) == b
 | .int a,.bl b=>a == (if b then 1 else 0)
 | .int a,.int b=>a == b
 | .str a,.str b=>a == b
 |_,_=>false
def abE{A:Around}{s:jJ}{y x:V}{u v:Value}(z:qA y u)(l:qA x v)(E:BU y=true)(B:BU x=true):SeqAt.EqAt A s u v (Zr y x):=by
 cases y with
 |non=>
  cases z;cases x with
  |non=>cases l;exact SeqAt.EqAt.same _
  |bl b=>cases l;exact SeqAt.EqAt.none_bool b
  |int b=>obtain⟨t,rfl⟩:=l;exact SeqAt.EqAt.none_int b t
  |str b=>obtain⟨t,rfl⟩:=l;exact SeqAt.EqAt.none_str b t
  |_=>exact absurd (show false=true from B) aB
 |bl a=>
  cases z;cases x with
  |non=>cases l;exact SeqAt.EqAt.bool_none a
  |bl b=>cases l;exact SeqAt.EqAt.bool_bool a b
  |int b=>obtain⟨t,rfl⟩:=l;exact SeqAt.EqAt.bool_int a b t
  |str b=>obtain⟨t,rfl⟩:=l;exact SeqAt.EqAt.bool_str a b t
  |_=>exact absurd (show false=true from B) aB
 |int a=>
  obtain⟨n,rfl⟩:=z;cases x with
  |non=>cases l;exact SeqAt.EqAt.int_none a n
  |bl b=>cases l;exact SeqAt.EqAt.int_bool a n b
  |int b=>obtain⟨t,rfl⟩:=l;exact SeqAt.EqAt.int_int a n b t
  |str b=>obtain⟨t,rfl⟩:=l;exact SeqAt.EqAt.int_str a n b t
  |_=>exact absurd (show false=true from B) aB
 |str a=>
  obtain⟨n,rfl⟩:=z;cases x with
  |non=>cases l;exact SeqAt.EqAt.str_none a n
  |bl b=>cases l;exact SeqAt.EqAt.str_bool a n b
  |int b=>obtain⟨t,rfl⟩:=l;exact SeqAt.EqAt.str_int a n b t
  |str b=>obtain⟨t,rfl⟩:=l;exact SeqAt.EqAt.str_str a n b t
  |_=>exact absurd (show false=true from B) aB
 |_=>exact absurd (show false=true from E) aB
def NJ(x:V)(u:Value):Bool:=match u with
 | .none=>Zr .non x
 | .bool b=>Zr (.bl b) x
 | .int i _=>Zr (.int i) x
 | .str z _=>Zr (.str z) x
 |_=>false
def VQ{x y:V}{u:Value}(r:qA y u)(f:BU y=true):NJ x u=Zr y x:=by
 cases y with
 |non=>cases r;rfl
 |bl b=>cases r;rfl
 |int i=>obtain⟨t,rfl⟩:=r;rfl
 |str z=>obtain⟨t,rfl⟩:=r;rfl
 |_=>exact absurd (show false=true from f) aB
theorem Dw{x:V}:∀{xs:List V}{us:Ξ},pU xs us->xs.all BU=true->us.any (NJ x)=xs.any λy=>Zr y x
 |_,_,.nil,_=>rfl
 |y::xs,u::us,.cons r t,f=>by
  rw[iy,eV]at f;rw[dO,dO,VQ r f.1,Dw t f.2]
theorem AZ{A:Around}{s:jJ}{x:V}{v:Value}(n:qA x v)(z:BU x=true):∀{xs:List V}{us:Ξ},pU xs us->xs.all BU=true->∀u∈us,SeqAt.EqAt A s u v (NJ x u)
 |_,_,.nil,_=>λu l=>by cases l
 |y::xs,u::us,.cons r t,f=>λB l=>by
  rw[iy,eV]at f;rcases ab.mp l with rfl|l
  .rw[VQ r f.1];exact abE r n f.1 z
  .exact AZ n z t f.2 B l
def inV(x:V)(xs:List V):Bool:=xs.any λy=>Zr y x
def rIn(K:Ζ)(neg:Bool):R2:=λx y H Q=>∃p xs,y = .ref p/\(rz K H p xs∨Ej K H p xs)/\BU x=true/\xs.all BU=true/\Q (.bl (if neg then !inV x xs else inV x xs)) H
def BO:G1 X (kg .In) (rIn X.K false):=by
 intro J s σ H x y v u Q I z E h;obtain⟨p,L,rfl,n,B,fs,q⟩:=h;cases E;rcases n with n|n
 .obtain⟨l,r,t,G⟩:=I.list n;refine SeqAt.in_listAt (NJ x) t.isList (λw hw=>AZ z B r fs w (by simpa using hw)) ⟨.bl _,H,I,rfl,?_⟩
  rw[show l.toArray.any (NJ x)=l.any (NJ x) by simp,Dw r fs]
  exact q
 .obtain⟨l,r,t,G⟩:=I.tuple n;refine SeqAt.in_tupleAt (NJ x) t (λw hw=>AZ z B r fs w (by simpa using hw)) ⟨.bl _,H,I,rfl,?_⟩
  rw[show l.toArray.any (NJ x)=l.any (NJ x) by simp,Dw r fs]
  exact q
def wV:G1 X (kg .NotIn) (rIn X.K true):=by
 intro J s σ H x y v u Q I z E h;obtain⟨p,L,rfl,n,B,fs,q⟩:=h;cases E;rcases n with n|n
 .obtain⟨l,r,t,G⟩:=I.list n;refine SeqAt.notIn_listAt (NJ x) t.isList (λw hw=>AZ z B r fs w (by simpa using hw)) ⟨.bl _,H,I,rfl,?_⟩
  rw[show l.toArray.any (NJ x)=l.any (NJ x) by simp,Dw r fs]
  exact q
 .obtain⟨l,r,t,G⟩:=I.tuple n;refine SeqAt.notIn_tupleAt (NJ x) t (λw hw=>AZ z B r fs w (by simpa using hw)) ⟨.bl _,H,I,rfl,?_⟩
  rw[show l.toArray.any (NJ x)=l.any (NJ x) by simp,Dw r fs]
  exact q
noncomputable def si.or{f:Value}{r r':List V->Hp->VK->Prop}(h:si X f r)(h':si X f r'):si X f (λxs H Q=>r xs H Q∨r' xs H Q):=by
 intro l s σ H xs us Q I n q;rcases q with q|q
 .exact h l s σ H xs us Q I n q
 .exact h' l s σ H xs us Q I n q
def ve:si X (.type "list") (λxs H Q=>∃p ys,xs=[.ref p]/\(rz X.K H p ys∨Ej X.K H p ys)/\∀l,H l=none->Q (.ref l) (qC H l (.lst ys))):=by
 intro R s σ H xs us Q I r h;obtain⟨p,ys,rfl,E,q⟩:=h;obtain⟨u,rfl,S⟩:=Ai r;cases S;have fin:∀(t:Ξ),pU ys t->ys.length<=jP->∀(x:Heap) (z:Nat),(∀b P,s.heap.get? b=some P->x.get? b=some P) ->
   x.get? s.heap.objs.size=some { cls:=.type "list", dict:=none,data:=.seq t.toArray z,slots:=#[] }->EP X R σ Q (.ref s.heap.objs.size) { s with heap:=x }:=λt B G x z kp e=>
  ⟨.ref s.heap.objs.size,_,I.laid (t':=s.toks) kp (aa _) (show rO X.prog X.w _ x _ (.lst ys)from ⟨G,t,z,B,e⟩),rfl,q _ (I.hok.fresh (aa _))⟩
 rcases E with E|E
 .obtain⟨t,B,L,G⟩:=I.list E;have J:=B.length;obtain⟨o,M,O,n,hd⟩:=L.isList;exact call_list_seq p (.inl rfl) M O hd (λx z kp e=>fin t B G x z kp e) (by simp only[aA] <;> lia)
 .obtain⟨t,B,L,G⟩:=I.tuple E;have J:=B.length;obtain⟨o,M,O,n,hd⟩:=L;exact call_list_seq p (.inr rfl) M O hd (λx z kp e=>fin t B G x z kp e) (by simp only[aA] <;> lia)
def tyV(K:Ζ)(T:String)(x:V)(H:Hp):Prop:=match x with
 | .str _=>T = "str"
 | .int _=>T = "int"
 | .ref p=>(T = "list" /\ ∃xs,rz K H p xs)∨(T = "tuple" /\ ∃o,K.lookup p=some o/\o.cls = .type "tuple" /\ o.dict=none) ∨
   (T = "dict" /\ ((∃kvs,H p=some (.dK kvs))∨∃kvs,H p=some (.dT kvs)))∨(T = "set" /\ ∃S n,H p=some (.set S n))
 |_=>False
def Uj{G:Φ}{σ:St}{H:Hp}{s:jJ}{T:String}{x:V}{v:Value}(I:Inv X G σ H s)(r:qA x v)(ty:tyV X.K T x H) :
  s.TypeIs v T/\∀a,v = .ref a->∃B,s.heap.get? a=some B/\B.dict=none:=by
 cases x with
 |str z=>
  obtain⟨t,rfl⟩:=r;cases(show T = "str" from ty)
  exact⟨typeIs_str s z t,λ_ e=>nomatch e⟩
 |int i=>
  obtain⟨t,rfl⟩:=r;cases(show T = "int" from ty)
  exact⟨typeIs_int s i t,λ_ e=>nomatch e⟩
 |ref p=>
  cases r;rcases ty with⟨rfl,O,J⟩|⟨rfl,o,hk,L,hd⟩|⟨rfl,hk⟩|⟨rfl,S,n,hk⟩
  .obtain⟨M,_,E,_⟩:=I.list J;refine⟨E.isList.typeIs,λa e=>?_⟩
   cases e;obtain⟨o,n,e,c,hd,_⟩:=E;exact⟨o,e,hd⟩
  .refine⟨⟨o,I.kIn p o hk,L⟩,λa e=>?_⟩
   cases e;exact⟨o,I.kIn _ o hk,hd⟩
  .have z:∃o,s.heap.get? p=some o/\o.ExactDict:=by
    rcases hk with⟨l,hk⟩|⟨l,hk⟩
    .obtain⟨_,_,_,_,o,_,_,e,ex,_⟩:=I.hok p _ hk;exact⟨o,e,ex⟩
    .obtain⟨_,_,_,_,o,_,_,e,ex,_⟩:=I.hok p _ hk;exact⟨o,e,ex⟩
   obtain⟨o,e,ex⟩:=z;refine⟨⟨o,e,ex.1⟩,λa u=>?_⟩
   cases u;exact⟨o,e,ex.2.1⟩
  .obtain⟨o,_,_,_,e,ex,_⟩:=I.hok p _ hk;refine⟨⟨o,e,ex.1⟩,λa u=>?_⟩
   cases u;exact⟨o,e,ex.2.1⟩
 |_=>exact False.elim ty
def aeh(K:Ζ)(T:String)(r:V->List V->Hp->VK->Prop)(to:TE):TE:=λσ H Q=>to σ H λx l=>tyV K T x l/\r x [] l Q
def Pu(K:Ζ)(T:String)(r:V->List V->Hp->VK->Prop)(to:TE)(t:TA):TE:=λσ H Q=>to σ H λx l=>tyV K T x l/\t σ l λxs n=>r x xs n Q
variable {o e:Expr}{es:List Expr}{to:TE}{t:TA}{name:Str}{apos cpos:Pos}{T id:String}{r:V->List V->Hp->VK->Prop}
def T7(G:PlainAttrs T)(slot:Slot T name id)(u:typeOf (.builtin id)=pure (.type "method_descriptor"))(J:MtR X id r)(L:PE X o to)
  (l:kY o name X.env (eval o X.env)=eval o X.env:=by rfl) (n:(apos.endLine == cpos.line)=true:=by rfl):PE X (.Call (.Attribute o name apos) [] [] cpos) (aeh X.K T r to):=by
 intro z s σ H Q I h;refine wpAny_Call_method0_late l n (rQ (L z s σ H _ I h) λv M ⟨x,O,B,E,ty,P⟩=>?_)
 obtain⟨R,S⟩:=Uj B E ty;exact⟨T,id,G,slot,u,R,S,Calls.callWith_builtin rfl (PySem.evalArgs_none (J z M σ O x [] v [] Q B E .nil P))⟩
def ri(M:PlainAttrs T)(slot:Slot T name id)(B:typeOf (.builtin id)=pure (.type "method_descriptor"))(O:MtR X id r)(P:PE X o to)(ha:PA X (e::es) t)
  (n:kY o name X.env (eval o X.env)=eval o X.env:=by rfl)
  (z:((ko cpos (jT (e::es) X.env)).all (λx=>!x.1) && (mj cpos (kS [] X.env)).all (λx=>x.1.isSome)
   && decide ((e::es).length+([]:List Keyword).length+(if ([]:List Keyword).isEmpty then 0 else 1)<30))=true:=by rfl)
  (u:(apos.endLine == cpos.line)=true:=by rfl) (R:jT (e::es) X.env=(false,eval e X.env)::jT es X.env:=by rfl) (l:(ko cpos (jT es X.env)).any (·.1)=false:=by rfl) :
  PE X (.Call (.Attribute o name apos) (e::es) [] cpos) (Pu X.K T r to t):=by
 intro E s σ H Q I h;refine wpAny_Call_method_late n z u rfl (rQ (P E s σ H _ I h) λv S ⟨x,U,G,J,ty,Y⟩=>?_)
 obtain⟨h1,h2⟩:=Uj G J ty;refine⟨T,id,M,slot,B,h1,h2,?_⟩;have L:=ha cpos E S σ U _ G Y;rw[R]at L ⊢;refine Calls.callWith_builtin (by show(false || (ko cpos (jT es X.env)).any (·.1))=false;rw[l] <;> rfl) (Calls.evalArgs_plain ?_)
 exact rQ L λus s2 ⟨vs,H2,I2,r2,q2⟩=>O E s2 σ H2 x vs v us Q I2 J r2 q2
/- xs.append(e),list.index on a module's tuple .. are MtR facts of 06m -/
end
def MtM(X:Cx)(id:String)(r:V->List V->Hp->VK->Prop):Prop:=
 ∀(l:Φ) (s:jJ) (σ:St) (H:Hp) (x:V) (xs:List V) (v:Value) (us:Ξ) (Q:VK),Inv X l σ H s->qA x v->pU xs us->r x xs H Q ->
  jR (jN X.prog X.w) X.A (call (.builtin id) (v::us)) (EP X l σ Q) X.xe s
def pU.one:∀{x:V}{us:Ξ},pU [x] us->∃u,us=[u]/\qA x u
 |_,_,.cons r .nil=>⟨_,rfl,r⟩
def pU.zero:∀{us:Ξ},pU [] us->us=[]
 |_,.nil=>rfl
theorem pU.dropLast{xs:List V}{us:Ξ}(h:pU xs us):pU xs.dropLast us.dropLast:=by
 induction h with
 |nil=>exact .nil
 |cons r t l=>
  cases t with
  |nil=>exact .nil
  |cons q n=>exact .cons r l
theorem pU.eraseIdx:∀{xs:List V}{us:Ξ}(i:Nat),pU xs us->pU (xs.eraseIdx i) (us.eraseIdx i)
 |_,_,_,.nil=>.nil
 |_,_,0,.cons _ t=>t
 |_,_,i+1,.cons r t=>.cons r (pU.eraseIdx i t)
def Cb{α:Type}(l:List α):l.eraseIdx (l.length-1)=l.dropLast:=by
 induction l with
 |nil=>rfl
 |cons a r n=>
  cases r with
  |nil=>rfl
  |cons b r=>
   have e:(a::b::r).length-1=((b::r).length-1)+1:=by
    have s:(a::b::r).length=r.length+2:=rfl;have t:(b::r).length=r.length+1:=rfl;lia
   rw[e,cj,n]
   all_goals rfl
theorem Ig{α:Type}:∀(l:List α) (i:Nat),(l.eraseIdx i).length<=l.length
 | [],_=>aa _
 |_::_,0=>cL _
 |_::r,i+1=>Nat.succ_le_succ (Ig r i)
section
variable {X:Cx}{oh:Φ}{σ:St}{H:Hp}{s:jJ}{l b:Addr}{xs ys zs:List V}
def Inv.lset{t its':Ξ}{n:Nat}{f:Ω->Ω}{t':Nat}(I:Inv X oh σ H s)(z:H l=some (.lst xs))
  (e:s.heap.get? l=some { cls:=.type "list", data:=.seq t.toArray n }) (B:f t.toArray=its'.toArray) (E:pU ys its') (hz:ys.length<=jP) :
  Inv X oh σ (qC H l (.lst ys)) { s with heap:=s.heap.update l (Obj.mapSeq f),toks:=t' }:=by
 have q:=PySem.IsL.update e f;rw[B]at q;refine I.write (x:=l) (e:=l) (by rw[z];exact trivial) (.inl rfl) (λJ u hb G=>(Heap.get?_update_other s.heap (Obj.mapSeq f) (Ne.symm hb)).trans G) ⟨_,q⟩ ?_
 exact⟨hz,its',_,E,q⟩
def Inv.lnew{n:Ξ}{t':Nat}(I:Inv X oh σ H s)(t:pU ys n)(hz:ys.length<=jP) :
  Inv X oh σ (qC H s.heap.objs.size (.lst ys)) { s with heap:=s.heap.push { cls:=.type "list", data:=.seq n.toArray },toks:=t' }:=
 I.laid (λ_ _ q=>ak _ q) (aa _) ⟨hz,n,0,t,bu _ rfl⟩
theorem Inv.fresh(I:Inv X oh σ H s):H s.heap.objs.size=none:=I.hok.fresh (aa _)
def Inv.lstM(I:Inv X oh σ H s)(u:H l=some (.lst xs)):xs.length<=jP/\∃(t:Ξ) (n:Nat),pU xs t/\xs.length=t.length/\s.heap.get? l=some { cls:=.type "list", data:=.seq t.toArray n }:=by
 obtain⟨z,t,n,r,e⟩:=I.hok l _ u;exact⟨z,t,n,r,r.length,e⟩
noncomputable def RF{n:Nat}(h:n<=jP):Builtin.List.listTooLong n=false:=by
 unfold Builtin.List.listTooLong;exact d6 (by lia)
end
section
variable {X:Cx}
def CY:V->List V->Hp->VK->Prop:=λx vs H Q=>∃l xs y,x = .ref l/\vs=[y]/\H l=some (.lst xs)/\xs.length<jP/\Q .non (qC H l (.lst (xs++[y])))
def qk:MtM X "list.append" CY:=by
 intro L s σ H x M v us Q I E G h;obtain⟨l,O,y,rfl,rfl,B,P,q⟩:=h;cases E;obtain⟨u,rfl,J⟩:=G.one;obtain⟨z,t,n,r,hl,e⟩:=I.lstM B;refine kC F.slot_list_append ⟨_,e,rfl⟩ F.entry_list_append (F.args_list_append_2 _ _) (PySem.list_append l t.toArray n u (by rw[aA];lia)) ⟨e,?_⟩
 refine⟨.non,_,I.lset (its':=t++[u]) B e (by simp) (r.append (.cons J .nil)) ?_,rfl,q⟩
 rw[lAq,lSq];lia
def Fv:V->List V->Hp->VK->Prop:=λx vs H Q=>∃l b xs n,x = .ref l/\vs=[.ref b]/\H l=some (.lst xs)/\H b=some (.lst n)/\xs.length+n.length<=jP/\Q .non (qC H l (.lst (xs++n)))
def yF:MtM X "list.extend" Fv:=by
 intro U s σ H x Y v us Q I L M h;obtain⟨l,b,xs,zs,rfl,rfl,J,O,hz,q⟩:=h;cases L;obtain⟨u,rfl,P⟩:=M.one;cases P;obtain⟨z,B,n,r,hl,e⟩:=I.lstM J;obtain⟨z2,t,n2,R,S,T⟩:=I.lstM O;have G:B.toArray.size+t.toArray.size<=jP:=by rw[aA,aA];lia
 have E:¬ (!B.toArray.isEmpty && Builtin.List.listTooLong (B.toArray.size+t.toArray.size))=true:=by
  rw[RF G,Bool.and_false];exact aB
 refine kC F.slot_list_extend ⟨_,e,rfl⟩ F.entry_list_extend (F.args_list_extend_2 _ _)
  (AutoSeq1.list_extend_list_list_0 l B.toArray n b t.toArray n2 E (by rw[aA];lia) (by lia)) ⟨e,T,?_⟩
 refine⟨.non,_,I.lset (its':=B++t) J e (by simp) (r.append R) ?_,rfl,q⟩
 rw[lAq];lia
def aaE:V->List V->Hp->VK->Prop:=λx vs H Q=>∃l xs y,x = .ref l/\vs=[]/\H l=some (.lst xs)/\xs[xs.length-1]?=some y/\Q y (qC H l (.lst xs.dropLast))
def RT:MtM X "list.pop" aaE:=by
 intro R s σ H x S v us Q I J L h;obtain⟨l,T,y,rfl,rfl,G,M,q⟩:=h;cases J;have B:=L.zero;subst B;obtain⟨z,t,n,r,hl,e⟩:=I.lstM G;obtain⟨u,O,P⟩:=r.get M;have E:t.toArray[t.toArray.size-1]?=some u:=by
  show t.toArray[t.length-1]?=some u;rw[←aH,←hl];exact O
 refine kC F.slot_list_pop ⟨_,e,rfl⟩ F.entry_list_pop (F.args_list_pop_1 _) (MeetsSeq.list_pop_last l t.toArray n u E (by rw[aA];lia)) ⟨e,?_⟩
 refine⟨y,_,I.lset (its':=t.dropLast) G e ?_ r.dropLast ?_,P,q⟩
 .show t.toArray.eraseIdxIfInBounds (t.toArray.size-1)=t.dropLast.toArray;rw[aA,fF,Cb]
 .rw[iq];lia
def Vo:V->List V->Hp->VK->Prop:=λx vs H Q=>∃l xs i k y,x = .ref l/\vs=[.int i]/\H l=some (.lst xs)/\-(2 ^ 63)<=i/\i<2 ^ 63/\mQ i xs.length=some k/\xs[k]?=some y/\Q y (qC H l (.lst (xs.eraseIdx k)))
def FL:MtM X "list.pop" Vo:=by
 intro T s σ H x U v us Q I J L h;obtain⟨l,M,i,k,y,rfl,rfl,G,O,P,hk,R,q⟩:=h;cases J;obtain⟨u,rfl,S⟩:=L.one;obtain⟨t,rfl⟩:=S;obtain⟨z,B,n,r,hl,e⟩:=I.lstM G;obtain⟨w,hw,E⟩:=r.get R;refine kC F.slot_list_pop ⟨_,e,rfl⟩ F.entry_list_pop (F.args_list_pop_2 _ _)
  (MeetsSeq.list_pop_at l B.toArray n i t k w (fitsIndex_both O P) (by rw[aA,←hl];exact hk) (by rw[←aH];exact hw) (by rw[aA];lia)) ⟨e,?_⟩
 refine⟨y,_,I.lset (its':=B.eraseIdx k) G e ?_ (r.eraseIdx k) ?_,E,q⟩
 .show B.toArray.eraseIdxIfInBounds k=(B.eraseIdx k).toArray;rw[fF]
 .have:=Ig M k;lia
def adw:R2:=λx y H Q=>∃l b xs n,x = .ref l/\y = .ref b/\H l=some (.lst xs)/\H b=some (.lst n)/\xs.length+n.length<=jP/\∀p,H p=none->Q (.ref p) (qC H p (.lst (xs++n)))
def xq:G1 X (kP .Add) adw:=by
 intro S s σ H x y v u Q I E G h;obtain⟨l,b,T,U,rfl,rfl,J,L,Y,q⟩:=h;cases E;cases G;obtain⟨z,B,n,r,hl,e⟩:=I.lstM J;obtain⟨z2,t,n2,M,O,P⟩:=I.lstM L;refine PySem.P.add_list e P ?_ (by rw[aA,aA];lia)
 have R:B.toArray++t.toArray=(B++t).toArray:=by simp
 rw[R];exact⟨.ref _,_,I.lnew (t':=s.toks) (r.append M) (by rw[lAq];lia),rfl,q _ I.fresh⟩
end
section
variable {κ:Type}[DecidableEq κ]
def CU(kvs:List (κ×V))(k:κ):Option V:=(kvs.find? λkv=>decide (kv.1=k)).map (·.2)
def A2(kvs:List (κ×V))(k:κ)(v:V):List (κ×V):=
 if (kvs.any λkv=>decide (kv.1=k))=true then kvs.map (λkv=>if kv.1=k then (kv.1,v)else kv)else kvs++[(k,v)]
def FZ{p:κ×V}{r:List (κ×V)}{k:κ}(e:p.1=k):CU (p::r) k=some p.2:=by simp[CU,eJ,e]
def GG{p:κ×V}{r:List (κ×V)}{k:κ}(e:¬ p.1=k):CU (p::r) k=CU r k:=by simp[CU,eJ,e]
theorem Lg(k:κ):∀kvs:List (κ×V),(kvs.any λkv=>decide (kv.1=k))=(CU kvs k).isSome
 | []=>rfl
 |p::r=>by
  rw[dO]
  by_cases e:p.1=k
  .simp only[FZ e,d4 e,Bool.true_or,Option.isSome_some]
  .rw[GG e,d6 e,Bool.false_or];exact Lg k r
def AE(kvs:List (κ×V))(k:κ)(v:V):(A2 kvs k v).length<=kvs.length+1:=by
 unfold A2;split
 .rw[lMq];lia
 .rw[lAq,lCq,cF];lia
def BR.isSome_eq{o:Option V}{u:Υ}(r:BR o u):o.isSome=u.isSome:=by
 cases o with
 |none=>cases u with
  |none=>rfl
  |some _=>exact(show False from r).elim
 |some _=>cases u with
  |none=>exact(show False from r).elim
  |some _=>rfl
def KV.val{kvs:List (κ×V)}{vs:List (κ×Value)}(r:KV kvs vs)(k:κ):BR (CU kvs k) (lS vs k):=by
 unfold KV at r
 induction r with
 |nil=>exact True.intro
 | @cons p q B l h t u=>
  obtain⟨s,x⟩:=h
  by_cases e:p.1=k
  .have n:q.1=k:=s.symm.trans e;have b:lS (q::l) k=some q.2:=by simp[lS,eJ,n]
   rw[FZ e,b];exact x
  .have n:¬ q.1=k:=λz=>e (s.trans z)
   have b:lS (q::l) k=lS l k:=by simp[lS,eJ,n]
   rw[GG e,b];exact u
theorem KV.any{kvs:List (κ×V)}{vs:List (κ×Value)}(r:KV kvs vs)(k:κ):(kvs.any λkv=>decide (kv.1=k))=vs.any λkv=>decide (kv.1=k):=by
 unfold KV at r
 induction r with
 |nil=>rfl
 |cons h t l=>rw[dO,dO,l,h.1]
def KV.repl{kvs:List (κ×V)}{vs:List (κ×Value)}(r:KV kvs vs)(k:κ){y:V}{u:Value}(n:qA y u) :
  KV (kvs.map λkv=>if kv.1=k then (kv.1,y)else kv) (vs.map λkv=>if kv.1=k then (kv.1,u)else kv):=by
 unfold KV at r ⊢
 induction r with
 |nil=>exact .nil
 | @cons p q B E h t s=>
  rw[ai,ai];refine .cons ?_ s;obtain⟨l,x⟩:=h
  by_cases e:p.1=k
  .rw[pB e,pB (l.symm.trans e)];exact⟨l,n⟩
  .rw[oZ e,oZ (λz=>e (l.trans z))];exact⟨l,x⟩
def KV.put{kvs:List (κ×V)}{vs:List (κ×Value)}(r:KV kvs vs)(k:κ){y:V}{u:Value}(l:qA y u):KV (A2 kvs k y) (stored vs k u):=by
 unfold A2 stored;rw[r.any k]
 by_cases e:(vs.any λkv=>decide (kv.1=k))=true
 .rw[pB e,pB e];exact r.repl k l
 .rw[oZ e,oZ e];exact Paired.snoc r ⟨rfl,l⟩
theorem KV.length{kvs:List (κ×V)}{vs:List (κ×Value)}(r:KV kvs vs):kvs.length=vs.length:=Paired.length r
end
def LM{P:jS}{w:jU}{k:pE}{u:Value}(r:qA (kV k) u):(qS P w).is k u=true:=by
 cases k with
 |inl i=>obtain⟨t,e⟩:=(show ∃t,u=gk i t from r);subst e;exact Lx P w i t
 |inr x=>obtain⟨t,e⟩:=(show ∃t,u=dJ x t from r);subst e;exact Kt P w x t
theorem HY{P:jS}{w:jU}:∀{ks:List pE}{us:Ξ},pU (ks.map kV) us->ItemsAre (qS P w) ks us
 | [],_,r=>by rw[eB]at r;cases r;exact .nil
 |k::ks,_,r=>by
  rw[ai]at r;cases r with
  |cons h t=>exact .cons (LM h) (HY t)
abbrev KT(H:Hp):List (List pE×V)->List (List pE×Addr×Value)->Prop:=Paired λp q=>p.1=q.1/\H q.2.1=some (.tup (p.1.map kV))/\qA p.2 q.2.2
def KT.val{H:Hp}{kvs:List (List pE×V)}{xs:List (List pE×Addr×Value)}(r:KT H kvs xs)(k:List pE):BR (CU kvs k) ((mB xs k).map (·.2)):=by
 induction r with
 |nil=>exact True.intro
 | @cons p q B l h t u=>
  obtain⟨s,_,x⟩:=h
  by_cases e:p.1=k
  .have n:q.1=k:=s.symm.trans e;have b:mB (q::l) k=some q.2:=by simp[mB,eJ,n]
   rw[FZ e,b];exact x
  .have n:¬ q.1=k:=λz=>e (s.trans z)
   have b:mB (q::l) k=mB l k:=by simp[mB,eJ,n]
   rw[GG e,b];exact u
def KT.repl{H:Hp}{kvs:List (List pE×V)}{xs:List (List pE×Addr×Value)}(r:KT H kvs xs)(k:List pE){y:V}{u:Value}(s:qA y u) :
  KT H (kvs.map λkv=>if kv.1=k then (kv.1,y)else kv) (xs.map (putAt k u)):=by
 induction r with
 |nil=>exact .nil
 | @cons p q E G h t x=>
  rw[ai,ai];refine .cons ?_ x;obtain⟨l,n,B⟩:=h;unfold putAt
  by_cases e:p.1=k
  .rw[pB e,pB (l.symm.trans e)];exact⟨l,n,s⟩
  .rw[oZ e,oZ (λz=>e (l.trans z))];exact⟨l,n,B⟩
def KT.put{H:Hp}{kvs:List (List pE×V)}{xs:List (List pE×Addr×Value)}(r:KT H kvs xs)(k:List pE){b:Addr}{y:V}{u:Value}(hb:H b=some (.tup (k.map kV)))(l:qA y u) :
  KT H (A2 kvs k y) (storedH xs k b u):=by
 have e:(kvs.any λkv=>decide (kv.1=k))=(mB xs k).isSome:=by
  rw[Lg,(r.val k).isSome_eq,fq]
 unfold A2 storedH;rw[e]
 by_cases q:(mB xs k).isSome=true
 .rw[pB q,pB q];exact r.repl k l
 .rw[oZ q,oZ q];exact Paired.snoc r ⟨rfl,hb,l⟩
noncomputable def KT.keeps{H l:Hp}{kvs:List (List pE×V)}{xs:List (List pE×Addr×Value)}(r:KT H kvs xs)(ht:∀b ys,H b=some (.tup ys)->l b=some (.tup ys)):KT l kvs xs:=
 Paired.mapP r λ_ _ z=>⟨z.1,ht _ _ z.2.1,z.2.2⟩
section
variable {P:jS}{w:jU}{H:Hp}{h:Heap}{a:Addr}
def Y5{u:HO}(ok:CJ P w H h)(e:Rd H a u):rO P w H h a u:=e.ok ok
def Lv{kvs:List (pE×V)}(ok:CJ P w H h)(e:Rd H a (.dK kvs)):kvs.length<=jP/\(a == kx)=false/\∃vs,KV kvs vs/\h.DictOf (qS P w) a vs:=
 show rO P w H h a (.dK kvs)from Y5 ok e
def Y6{kvs:List (pE×V)}(ok:CJ P w H h)(e:H a=some (.dK kvs)):kvs.length<=jP/\(a == kx)=false/\∃vs,KV kvs vs/\h.DictOf (qS P w) a vs:=Lv ok (.inl e)
def Kd{ks:List pE}(ok:CJ P w H h)(e:H a=some (.tup (ks.map kV))):(mv (qS P w)).is h ks a:=by
 obtain⟨_,l,r,o,s,t,n,u⟩:=(show rO P w H h a (.tup (ks.map kV))from ok a _ e)
 exact⟨o,l.toArray,n,s,t,u,by simpa using HY r⟩
def LQ{kvs:List (List pE×V)}(ok:CJ P w H h)(e:Rd H a (.dT kvs)):kvs.length<=jP/\(a == kx)=false /\
  ∃xs,KT H kvs xs/\h.DictOfH (mv (qS P w)) a xs:=by
 obtain⟨z,y,xs,r,o,u,B,E,G,I,J,L⟩:=(show rO P w H h a (.dT kvs)from Y5 ok e)
 refine⟨z,y,xs,r,o,u,B,E,G,I,J,λx n=>?_,L⟩
 have all:∀{l:List (List pE×V)}{m:List (List pE×Addr×Value)},KT H l m->∀x∈m,(mv (qS P w)).is h x.1 x.2.1:=by
  intro l m q
  induction q with
  |nil=>intro x n;exact nomatch n
  | @cons p q O Q s t M=>
   intro x n;rcases ab.mp n with e|n
   .subst e;exact Kd ok (by rw[←s.1];exact s.2.1)
   .exact M x n
 exact all r x n
def ac5{kvs:List (List pE×V)}(ok:CJ P w H h)(e:H a=some (.dT kvs)):kvs.length<=jP/\(a == kx)=false /\
  ∃xs,KT H kvs xs/\h.DictOfH (mv (qS P w)) a xs:=LQ ok (.inl e)
end
def FM(H:Hp)(a:Addr)(y:V)(r:Option V):Prop:=
 (∃kvs k,Rd H a (.dK kvs)/\y=kV k/\r=CU kvs k)∨∃kvs k b,Rd H a (.dT kvs)/\y = .ref b/\H b=some (.tup (k.map kV))/\r=CU kvs k
def Q4(H:Hp)(a:Addr)(y v:V)(l:Hp):Prop:=
 (∃kvs k,H a=some (.dK kvs)/\y=kV k/\kvs.length<jP/\l=qC H a (.dK (A2 kvs k v))) ∨
 ∃kvs k b,H a=some (.dT kvs)/\y = .ref b/\H b=some (.tup (k.map kV))/\kvs.length<jP/\l=qC H a (.dT (A2 kvs k v))
theorem FM.k{H:Hp}{a:Addr}{kvs:List (pE×V)}{k:pE}(e:H a=some (.dK kvs)):FM H a (kV k) (CU kvs k):=.inl ⟨kvs,k,.inl e,rfl,rfl⟩
theorem Q4.k{H:Hp}{a:Addr}{kvs:List (pE×V)}{k:pE}{v:V}(e:H a=some (.dK kvs))(hl:kvs.length<jP):Q4 H a (kV k) v (qC H a (.dK (A2 kvs k v))):=.inl ⟨kvs,k,e,rfl,hl,rfl⟩
section
variable {X:Cx}{oh:Φ}{σ:St}{H:Hp}{s:jJ}{a:Addr}{y v:V}{u r:Value}{o:Option V}{A:Around}{E:Value->jJ->Prop}
def Inv.big(I:Inv X oh σ H s):kx<s.heap.objs.size:=by
 have h:jQ<s.heap.objs.size:=(I.mod.glob.keeps I.bk).lt;exact Nat.lt_trans (by decide) h
def Q7{Q:Value->jJ->Prop}(O:A.units+1<ku)(I:Inv X oh σ H s)(g:FM H a y (some v))(L:qA y u)(h:∀x M,Inv X oh σ H M->qA v x->Q x M) :
  jR (jN X.prog X.w) A (mH (.ref a) u) Q E s:=by
 rcases g with⟨B,k,e,G,l⟩|⟨B,k,b,e,G,P,l⟩
 .subst G;obtain⟨z,hd,R,n,dd⟩:=Lv I.hok e;obtain⟨x,hw,t⟩:=BR.some_of (v:=v) (o:=lS R k) (by rw[l];exact n.val k)
  exact wpAny_getItem_of (LM L) dd.mapOf hw (h x _ (I.tok _) t)
 .subst G;cases(show u=aW b from L)
  obtain⟨z,hd,S,n,dd⟩:=LQ I.hok e;obtain⟨x,hw,t⟩:=BR.some_of (v:=v) (o:=(mB S k).map (·.2)) (by rw[l];exact n.val k)
  obtain⟨p,T,J⟩:=oMq.mp hw;refine wpAny_getItem_heap (lI O) (Kd I.hok P) dd T ?_;rw[J];exact h x _ (I.tok _) t
def Ym{Q:Value->jJ->Prop}(J:A.units+1<ku)(I:Inv X oh σ H s)(g:FM H a y o)(B:qA y u)(h:∀G,Inv X oh σ H G->Q (.bool (!o.isSome)) G) :
  jR (jN X.prog X.w) A (kg .NotIn u (.ref a)) Q E s:=by
 rcases g with⟨t,k,e,x,l⟩|⟨t,k,b,e,x,L,l⟩
 .subst x;obtain⟨z,hd,M,n,dd⟩:=Lv I.hok e;refine wpAny_notIn_of (LM B) hd dd.mapOf ?_;rw[← (n.val k).isSome_eq,←l];exact h _ (I.tok _)
 .subst x;cases(show u=aW b from B)
  obtain⟨z,hd,O,n,dd⟩:=LQ I.hok e;refine wpAny_notIn_heap (lI J) (Kd I.hok L) hd dd ?_;have q:=(n.val k).isSome_eq;rw[fq]at q;rw[←q,←l];exact h _ (I.tok _)
def Jz{h':Heap}{t':Nat}{l:HO}(I:Inv X oh σ H s)(mu:Mut (H a))(n:fh a s.heap h')(t:∃q,h'.get? a=some q)(new:rO X.prog X.w (qC H a l) h' a l) :
  Inv X oh σ (qC H a l) { s with heap:=h',toks:=t' }:=
 I.write (x:=a) (e:=a) mu (.inl rfl) (λb q hb z=>(n.2 b hb).trans z) t new
def UT{P:jS}{w:jU}{n:Hp}{h':Heap}{kvs:List (pE×V)}{vs:List (pE×Value)}(z:kvs.length<=jP)(hd:(a == kx)=false)(l:KV kvs vs)(dd:h'.DictOf (qS P w) a vs) :
  rO P w n h' a (.dK kvs):=⟨z,hd,vs,l,dd⟩
def QF{O:Hp}{Q:Unit->jJ->Prop}(hu:A.units+1<ku)(I:Inv X oh σ H s)(g:Q4 H a y v O)(P:qA y u)(R:qA v r)(h:∀S,Inv X oh σ O S->Q () S) :
  jR (jN X.prog X.w) A (setItem (.ref a) u r) Q E s:=by
 rcases g with⟨n,k,e,G,l,J⟩|⟨n,k,b,e,G,T,l,J⟩
 .subst G J;obtain⟨z,hd,vs,t,dd⟩:=Y6 I.hok e;have L:vs.length<=jP:=by rw[←t.length];exact z
  have hl:(A2 n k v).length<=jP:=by have:=AE n k v;lia
  refine wpAny_setItem_pairs (hsz:=L) (LM P) dd λU x M=>h _ ?_
  have he:∃q,U.get? a=some q:=let ⟨q,_,_,B,_⟩:=x;⟨q,B⟩
  exact Jz I (by rw[e];exact True.intro) M he (UT hl hd (t.put k R) x)
 .subst G J;cases(show u=aW b from P)
  obtain⟨z,hd,xs,t,dd⟩:=ac5 I.hok e;have L:xs.length<=jP:=by rw[←Paired.length t];exact z
  have hl:(A2 n k v).length<=jP:=by have:=AE n k v;lia
  refine wpAny_setItem_heap (hsz:=L) (lI hu) (Kd I.hok T) dd λU x M=>h _ ?_
  obtain⟨q,es,ep,B,h2,h3,h4,_,h5⟩:=x;refine Jz I (by rw[e];exact True.intro) M ⟨q,B⟩ ⟨hl,hd,_,(t.put k T R).keeps λc ys Y=>?_,q,es,ep,B,h2,h3,h4,h5⟩
  rw[oQ (adT Y e (λz=>nomatch z))]
  exact Y
end
def adf(i:Expr):Prop:=∀l n,mD i false l n=operate [l,n] (mH l n)
noncomputable def Xx{prog:jS}{w:jU}{A:Around}{E:Value->jJ->Prop}{s:jJ}{env:Env}{n l:Expr}{pos:Pos}{T id:String}{Q:Value->jJ->Prop}
  (hl:typeLookup (.type T) "__getitem__" = pure (some (.builtin id))) (J:adf l)
  (h:jR (jN prog w) A (eval n env) (λo z=>jR (jN prog w) A (eval l env) (λi t=>t.TypeIs o T/\jR (jN prog w) A (mH o i) Q E t) E z) E s) :
  jR (jN prog w) A (eval (.Subscript n l pos) env) Q E s:=by
 refine Subscript_ (kc h (λo z G=>kc G (λi t u=>?_) λ_ _ x=>x) λ_ _ x=>x)
 obtain⟨I,u⟩:=u;unfold mO;refine jO ?_;rw[getitemInPython_of_ne I.not_modules];refine jO (wpAny_specialOf I hl ?_);have fin:jR (jN prog w) A (mD l false o i) (λr B=>jR (jN prog w) A (letTemporaryGo n o r >>= λ_=>pure r) Q E B) E t:=by
  rw[J o i];exact wpAny_operating (kc u (λr B H=>jO (wpAny_letTemporaryGo (jW H))) λ_ _ x=>x)
 first
  |exact jW (jO fin)
  |exact jO (jW (jO fin))
  |exact jO fin
def LN{X:Cx}{n:Φ}{σ:St}{H:Hp}{s:jJ}{a:Addr}{y:V}{o:Option V}(I:Inv X n σ H s)(g:FM H a y o):s.TypeIs (.ref a) "dict" := by
 rcases g with⟨l,k,e,_,_⟩|⟨l,k,b,e,_,_,_⟩
 .obtain⟨_,_,t,_,dd⟩:=Lv I.hok e;exact dd.typeIs
 .obtain⟨_,_,u,_,dd⟩:=LQ I.hok e;exact dd.typeIs
noncomputable def Ug(n ty:TE):TE:=λσ H Q=>n σ H λx s=>ty σ s λy l=>∃a v,x = .ref a/\FM l a y (some v)/\Q v l
noncomputable def Pi(ty n:TE):TE:=λσ H Q=>ty σ H λy s=>n σ s λx l=>∃a o,x = .ref a/\FM l a y o/\Q (.bl (!o.isSome)) l
def U1(l ty n:TE):TS:=λD σ H=>n σ H λv s=>l σ s λx t=>ty σ t λy u=>∃a H4,x = .ref a/\Q4 u a y v H4/\D.nx σ H4
section
variable {X:Cx}{o i e value:Expr}{pos pos' tpos:Pos}{td ty tv:TE}
def BI(z:X.A.units+1<ku)(B:PE X o td)(hi:PE X i ty)(E:adf i):PE X (.Subscript o i pos) (Ug td ty):=by
 intro n s σ H Q I h;refine Xx PySem.F.slot_dict_getitem.lookup E (rQ (B n s σ H _ I h) λu G ⟨x,J,L,M,O⟩=>rQ (hi n G σ J _ L O) λU Y ⟨y,P,t,R,a,v,ex,g,S⟩=>?_)
 subst ex;obtain rfl:u=aW a:=M;exact⟨LN t g,Q7 z t g R λw' s3 T l=>⟨v,P,T,l,S⟩⟩
def vE(n:X.A.units+1<ku)(hi:PE X i ty)(t:PE X o td):PC X .NotIn i o (Pi ty td):=by
 intro l s σ H Q I h;refine rQ (hi l s σ H _ I h) λT z ⟨y,B,E,G,J⟩=>rQ (t l z σ B _ E J) λu U ⟨x,L,M,O,a,P,ex,g,R⟩=>?_
 subst ex;obtain rfl:u=aW a:=O;exact Ym n M g G λY S=>⟨.bl (!P.isSome),L,S,rfl,R⟩
def vT(n:X.A.units+1<ku)(t:PE X o td)(hi:PE X i ty)(z:PE X value tv)(B:lJ value (some (.Subscript o i pos')) pos.line X.env=pure false) :
  PS X (.Assign [.Subscript o i pos'] value pos) (U1 td ty tv):=by
 intro l s σ H D I h;refine wpAny_Assign_Subscript (rQ (z l s σ H _ I h) λr E ⟨v,G,J,L,M⟩=>rQ (t l E σ G _ J M) λu O ⟨x,P,Q,R,S⟩=>rQ (hi l O σ P _ Q S) λiv s3 ⟨y,H3,T,U,a,H4,ex,g,Y⟩=>?_) B
 subst ex;obtain rfl:u=aW a:=R;exact QF n T g U L λs4 I4=>⟨σ,H4,I4,Y⟩
end
def LK{P:jS}{w:jU}{H:Hp}(h:Heap)(hb:kx<h.objs.size):rO P w H (h.push { cls:=.type "dict", data:=.dict #[] }) h.objs.size (.dK []):=
 ⟨aT _,beq_eq_false_iff_ne.mpr (Ne.symm (aN hb)),[],.nil,Heap.DictOf.new h⟩
def RL:TE:=λ_ H Q=>∀p,H p=none->Q (.ref p) (qC H p (.dK []))
section
variable {X:Cx}{pos:Pos}
def vp:PE X (.Dict [] [] pos) RL:=λl s σ H Q I h=>
 wpAny_Dict_empty ⟨.ref s.heap.objs.size,_,I.laid (a:=s.heap.objs.size) (o:=.dK []) (t':=s.toks) (λ_ _ q=>ak _ q) (aa _) (LK s.heap I.big),rfl,h _ (I.hok.fresh (aa _))⟩
end
def Nu:List (TE×TE)->St->Hp->(List (V×V)->Hp->Prop)->Prop
 | [],_,H,Q=>Q [] H
 | (l,n)::r,σ,H,Q=>l σ H λx s=>n σ s λy t=>Nu r σ t λps u=>Q ((x,y)::ps) u
abbrev VV:List (V×V)->List (Value×Value)->Prop:=Paired λp q=>qA p.1 q.1/\qA p.2 q.2
def PPs(X:Cx)(pos:Pos)(n:List (Option Expr))(l:List Expr)(t:List (TE×TE)):Prop:=
 ∀(u:Φ) (s:jJ) (σ:St) (H:Hp) (Q:List (V×V)->Hp->Prop),Inv X u σ H s->Nu t σ H Q ->
  jR (jN X.prog X.w) X.A (evalPairs (pairTrees n l X.env pos)) (λvs z=>∃ps x,Inv X u σ x z/\VV ps vs/\Q ps x) X.xe s
def X2{X:Cx}{pos:Pos}:PPs X pos [] [] []:=λl s σ H Q I h=>pairTrees_nil_walk ⟨[],H,I,.nil,h⟩
def SW{X:Cx}{pos:Pos}{k v:Expr}{ks:List (Option Expr)}{vs:List Expr}{z B:TE}{l:List (TE×TE)}(hk:PE X k z)(E:PE X v B)(hr:PPs X pos ks vs l) :
  PPs X pos (some k::ks) (v::vs) ((z,B)::l):=λn s σ H Q I h=>
 pairTrees_cons_walk (rQ (hk n s σ H _ I h) λu G ⟨x,J,L,M,O⟩=>rQ (E n G σ J _ L O) λw2 P ⟨y,R,S,T,U⟩=>
  rQ (hr n P σ R _ S U) λws s3 ⟨Y,H3,I3,t,q3⟩=>⟨(x,y)::Y,H3,I3,.cons ⟨M,T⟩ t,q3⟩)
def DY(kvs more:List (pE×V)):List (pE×V):=more.foldl (λl kv=>A2 l kv.1 kv.2) kvs
def KV.merge:∀{more:List (pE×V)}{rs:List (pE×Value)}{kvs:List (pE×V)}{vs:List (pE×Value)},KV more rs->KV kvs vs->KV (DY kvs more) (merged vs rs):=by
 intro more rs kvs vs r;unfold KV at r
 induction r generalizing kvs vs with
 |nil=>intro q;exact q
 | @cons p q s u h t l=>
  intro n;have e:KV (A2 kvs p.1 p.2) (stored vs q.1 q.2):=by
   have:=n.put p.1 h.2;rw[←h.1];exact this
  exact l e
theorem B3:∀(more kvs:List (pE×V)),(DY kvs more).length<=kvs.length+more.length
 | [],kvs=>by show kvs.length<=kvs.length+0;lia
 |p::r,kvs=>by
  have l:=B3 r (A2 kvs p.1 p.2);have n:=AE kvs p.1 p.2;show(DY (A2 kvs p.1 p.2) r).length<=_;rw[lCq];lia
theorem G2{P:jS}{w:jU}:∀{kvs:List (pE×V)}{ws:List (Value×Value)},VV (kvs.map λkv=>(kV kv.1,kv.2)) ws->∃rs,Carries (qS P w) ws rs/\KV kvs rs
 | [],_,r=>by rw[eB]at r;cases r;exact⟨[],True.intro,.nil⟩
 |p::kvs,_,r=>by
  rw[ai]at r;cases r with
  | @cons a b l bs h t=>
   obtain⟨rs,c,q⟩:=G2 (P:=P) (w:=w) t;obtain⟨b1,b2⟩:=b;exact⟨(p.1,b2)::rs,⟨LM h.1,rfl,c⟩,.cons ⟨rfl,h.2⟩ q⟩
def Zo(l:List (TE×TE)):TE:=λσ H Q=>∀p,H p=none->Nu l σ (qC H p (.dK [])) λps n=>n p=some (.dK [])/\∃kvs:List (pE×V),ps=kvs.map (λkv=>(kV kv.1,kv.2))/\kvs.length<=15/\Q (.ref p) (qC n p (.dK (DY [] kvs)))
def YE{X:Cx}{pos:Pos}{l:List (Option Expr)}{n:List Expr}{t:List (TE×TE)}(h:PPs X pos l n t)(u:l.all (·.isSome)=true)(hl:l.length=n.length)(L:l≠[])
  (E:l.length<=15):PE X (.Dict l n pos) (Zo t):=by
 intro M s σ H Q I q;have hn:=I.hok.fresh (aa s.heap.objs.size);have O:=I.laid (a:=s.heap.objs.size) (o:=.dK []) (h':=s.heap.push { cls:=.type "dict", data:=.dict #[] }) (t':=s.toks) (λ_ _ q=>ak _ q) (aa _) (LK s.heap I.big)
 refine wpAny_Dict_walk (knd:=qS X.prog X.w) u hl L E (rQ (h M _ σ _ _ O (q _ hn)) λws s2 ⟨ps,H2,J,G,e,x,R,lk,S⟩=>?_)
 subst R;obtain⟨T,c,U⟩:=G2 (P:=X.prog) (w:=X.w) G;obtain⟨z,hd,Y,r0,dd⟩:=Y6 J.hok e;cases r0;refine⟨T,c,dd,λh' B hs=>⟨.ref s.heap.objs.size,_,?_,rfl,S⟩⟩
 have hz:(DY [] x).length<=jP:=by
  have h1:=B3 x [];rw[cF]at h1;rw[ka];lia
 have he:∃q,h'.get? s.heap.objs.size=some q:=let ⟨q,_,_,hq,_⟩:=B;⟨q,hq⟩
 exact Jz J (by rw[e];exact True.intro) hs he (UT hz hd (U.merge .nil) B)
structure M2 (X:Cx)(o:Expr)(m:Str)(apos:Pos)(e f:Expr)(cpos:Pos):Prop where
 base:kY o m X.env (eval o X.env)=eval o X.env
 few:((ko cpos (jT [e,f] X.env)).all (λx=>!x.1) && (mj cpos (kS [] X.env)).all (λx=>x.1.isSome)
  && decide (([e,f]:List Expr).length+([]:List Keyword).length+(if ([]:List Keyword).isEmpty then 0 else 1)<30))=true
 line:(apos.endLine == cpos.line)=true
 trees:ko cpos (jT [e,f] X.env)=[(false,eval e X.env),(false,eval f X.env)]
def IsD(H:Hp)(a:Addr):Prop:=(∃kvs,Rd H a (.dK kvs))∨∃kvs,Rd H a (.dT kvs)
def abn{X:Cx}{x:Φ}{σ:St}{H:Hp}{s:jJ}{a:Addr}(I:Inv X x σ H s)(d:IsD H a) :
  s.TypeIs (.ref a) "dict" /\ (∀b,aW a = .ref b->∃l,s.heap.get? b=some l/\l.dict=none)/\(a == kx)=false:=by
 rcases d with⟨n,e⟩|⟨n,e⟩
 .obtain⟨_,hd,z,_,dd⟩:=Lv I.hok e;refine⟨dd.typeIs,λb q=>?_,hd⟩
  cases q;obtain⟨l,_,_,t,u,_⟩:=dd;exact⟨l,t,u.2.1⟩
 .obtain⟨_,hd,B,_,dd⟩:=LQ I.hok e;refine⟨dd.typeIs,λb q=>?_,hd⟩
  cases q;obtain⟨l,_,_,t,u,_⟩:=dd;exact⟨l,t,u.2.1⟩
end L2
namespace Att
open PySem PySem.W PySem.Calls PyProof.Rows
def ET{P:Params}{h:Heap}:∀(ns:Ϝ) (vs:Ξ),WellAll P h vs (ns.map WData.int)->ki vs ns:=by
 intro ns
 induction ns with
 |nil=>
  intro vs w;rw[eB]at w;cases w;exact .nil
 |cons n ns l=>
  intro vs w;rw[ai]at w;cases w with
  |cons a b=>
   cases a;exact .cons _ _ (l _ b)
def Qd{l:OpenLaw}{n:Nat}(hn:l.most=some n){P:Params}{h:Heap}{args:List WData}{s:Ξ}
  (t:l.row.toRowW.claim.pre args=true) (E:WellAll P h s args) :
  ∃a vs ns,s=[aW a]/\args=[WData.list (ns.map WData.int)]/\h.get? a=some { cls:=.type "list", data:=.seq vs.toArray }/\ki vs ns/\ns.length<=n:=by
 have G:WShape.hasAll [] args [.list .int]=true:=(pre_splitW t).1;have H:l.pre.holds [] { args:=args }=true:=(pre_splitW t).2;obtain⟨d,r,rfl,I,J⟩:=hasAllW_cons G;obtain rfl:=hasAllW_nil J;obtain⟨S,rfl,L⟩:=hasW_list I;obtain⟨ns,rfl⟩:=items_int L;have u:ns.length<=n:=by
  unfold OpenLaw.pre at H;have z:(WTm.not (.lt (.lit (.int (n:Int))) (.len (.arg 0)))).holds [] { args:=[.list (ns.map .int)] }=true:=by
   have z:=(holds_andW H).1;rw[hn]at z;exact z
  have B:=condW_of z (w_not (w_lt w_lit (w_len_list (w_arg rfl))));rw[lMq]at B;refine jb λq=>?_
  have M:(n:Int)<((ns.length:Nat):Int):=by lia
  first
   | (rw[d4 M]at B;exact absurd B (by decide))
   | (simp at B;lia)
 cases E with
 |cons O Q=>
  cases Q;cases O with
  |list R x=>exact⟨_,_,ns,rfl,rfl,R,ET ns _ x,u⟩
def P4(l:OpenLaw)(args:List WData):l.row.toRowW.claim.post args (.bool true) args=true:=
 postW_of (r:=l.row.toRowW) (X:=(true == true))
  (show WShape.has [] (.bool true) .bool=true by first|rfl|decide|simp[WShape.has,WShape.arms,WShape.armsAll])
  (show(WTm.eq .res (.lit (.bool true))).value [] { args:=args,res:=some (.bool true),after:=args }=some (.bool (true == true))from w_eq_bool (w_res rfl) w_lit) rfl
def Li{l:OpenLaw}{n:Nat}{q:jS}{t:List Str}{R:(Str->Υ)->Heap->Prop}{S:jU->Heap->Prop}{d:DefRec}
  (hn:l.most=some n) (L:d.params.defaults=[])
  (call:∀(w:jU) (s₀ s:jJ) (mg M:Str->Υ) (z:Addr) (o:Obj) (pm I u:Value) (a:Addr) (vs:Ξ) (ns:Ϝ),
   Ground q t [] R w s₀ mg M s.heap->S w s.heap ->
   s.heap.get? z=some o->o.data = .func (docDef d.name d.params d.body d.scope pm I u)->s.heap.CodeRec I d.name->mg d.name=some (.ref z) ->
   s.heap.get? a=some { cls:=.type "list", data:=.seq vs.toArray }->ki vs ns->ns.length<=n->s.gens=#[] ->
   lj (jN l.prog w) lZ (.call (.ref z) ⟨[.ref a],[]⟩) (λr J=>r = .ok (.ret (.bool true))/\OldK s.heap J.heap/\J.os=s.os/\lu J.gens) s) :
  WalkO q t R S l.row.toRowW d [] (λf vs=>PySem.call f vs):=by
 intro w s₀ s mg M G Y z o pm I u dV kV ho hd O T P hg U X as B hlay hrd Q hlo;obtain rfl:dV = .none:=Dflts.none T L;obtain rfl:kV = .none:=Dflts.noKw T;obtain⟨a,vs,ns,rfl,rfl,E,x,H⟩:=Qd hn B Q;refine enter_call (mi (call w s₀ s mg M z o pm I u a vs ns G Y ho (fd_plain hd) O P E x H hg) λr J hq=>?_)
 obtain⟨rfl,h2,h3,h4⟩:=hq;exact⟨.inl ⟨.bool true,.bool true,[],rfl,λ_=>rfl,.bool true,P4 l _,λ_=>⟨aJ.nil,λ_ hm=>(nomatch hm)⟩⟩,h2,h3,h4⟩
end Att
namespace L2
open PySem PySem.Spec PyProof.Rows
theorem vals_ints:∀{vs:Ξ}{ns:Ϝ},ki vs ns->pU (ns.map V.int) vs
 |_,_,.nil=>.nil
 |_,_,.cons n t h=>.cons ⟨t,rfl⟩ (vals_ints h)
def aaO(H:Hp):Prop:=∀b,H b=none∨∃o xs,H b=some (.frz o (.lst xs))
def SI{P:jS}{w:jU}{K:Ζ}{mg U:Str->Υ}{CX:TJ}{k:Nat}{X a:Addr}{fd:jX}{x:Str}{sp:Sp}{l:jJ}{vs:Ξ}{ns:Ϝ}
  (KX:K.In l.heap) (J:l.heap.Ns jQ mg) (hb:l.heap.Ns builtinsNs U) (Y:∀x:Str,x ≠ "__name__" -> U x=kO x) (L:l.heap.NoLimit) (hg:l.gens=#[])
  (ha:l.heap.get? a=some { cls:=.type "list", data:=.seq vs.toArray }) (hi:ki vs ns) (hl:ns.length<=jP) (hr:tV k lZ)
  (F:∀base:Heap,K.In base->base.Ns jQ mg->Aw P w K mg base CX k X fd [x] sp) (I:∀(s:jJ) (u:Value),mI s fd ⟨[u],[]⟩ [(x,u)])
  (hsp:∀H:Hp,aaO H->rz K H a (ns.map V.int)->sp [.ref a] H (λv _=>v = .bl true) λ_ _ _=>False)
  (hCX:∀H e B,CX [] H l (λ_ _ _=>False) e B->False) :
  lj (jN P w) lZ (.call (.ref X) ⟨[.ref a],[]⟩) (λr B=>r = .ok (.ret (.bool true))/\OldK l.heap B.heap/\B.os=l.os/\lu B.gens) l:=by
 have rv:=vals_ints hi;have M:=hi.length;have G:∀H:Hp,aaO H->rz K H a (ns.map V.int)->CJ P w H l.heap->(∀b,H b≠none->b=a)->(H a≠none->K.lookup a=none) ->
   lj (jN P w) lZ (.call (.ref X) ⟨[.ref a],[]⟩) (λr B=>r = .ok (.ret (.bool true))/\OldK l.heap B.heap/\B.os=l.os/\lu B.gens) l:=by
  intro H hO hS hok hA hK;have t:∀{b:Addr}{o:Obj},l.heap.get? b=some o->H b=none->(Ka l.heap H).get? b=some o:=λe n=>Ve e n
  have noA:∀{b:Addr}{o:Obj}{O:Array DictEntry}{Q:Nat},l.heap.get? b=some o->o.data = .dict O Q->H b=none:=λ{b o O Q} e d=>by
   cases q:H b with
   |none=>rfl
   |some u=>
    have e':b=a:=hA b (by rw[q];simp)
    subst e';rw[ha]at e;cases e;have d':Data.seq vs.toArray _=Data.dict O Q:=d;cases d'
  have E:∀{b:Addr}{m:Str->Υ},l.heap.Ns b m->(Ka l.heap H).Ns b m:=λ{b m} ⟨o,O,Q,e,d,r⟩=>⟨o,O,Q,t e (noA e d),d,r⟩
  have R:K.In (Ka l.heap H):=λb o e=>t (KX b o e) (by
   cases q:H b with
   |none=>rfl
   |some u=>
    have e':b=a:=hA b (by rw[q];simp)
    subst e';rw[hK (by rw[q];simp)]at e;cases e)
  have hM:Mod K mg (Ka l.heap H):=⟨R,E J,⟨U,E hb,Y⟩,let ⟨mc,h1,h2⟩:=L;⟨mc,E h1,h2⟩⟩
  have e0:M6 P w K mg (Ka l.heap H) lZ [] l H:=⟨rfl,hM,λb o e=>Xk e,fj (QV _ _),trivial,λb hb=>absurd (show b∈([]:Δ)from hb) (by simp),hok,.of_eq hg⟩
  refine mi ((F _ R (E J)).run lZ [] l H ⟨[.ref a],[]⟩ [.ref a] [.ref a] _ _ hr e0 (I l (.ref a)) (.cons rfl .nil) (hsp H hO hS)) λr B h=>?_
  cases r with
  |error e=>exact(hCX H e B h).elim
  |ok fl=>
   cases fl with
   |next=>exact False.elim h
   |brk=>exact False.elim h
   |cont=>exact False.elim h
   |ret u=>
    obtain⟨v,H',os,bare,un,S,r',q⟩:=h;have q':v = .bl true:=q;subst q';obtain rfl:u=jr true:=r';refine⟨rfl,OldK.of_keep λb o e=>?_,os,bare⟩
    cases q:H b with
    |none=>exact un.keep b o e q (by intro z;exact absurd (show b∈([]:Δ)from z) (by simp)) (by simp)
    |some u=>
     rcases hO b with z|⟨ob,xs,z⟩
     .rw[q]at z;cases z
     .have z2:=un.frzs b ob _ z;obtain⟨e1,_⟩:=hok b _ z;obtain⟨e2,_⟩:=S b _ z2;rw[e]at e1;cases e1;exact e2
 cases hk:K.lookup a with
 |some o=>
  have e:=KX a o hk;rw[ha]at e;cases e;refine G (λ_=>none) (λ_=>.inl rfl) (.inr ⟨_,vs.toArray,_,hk,rfl,rfl,rfl,by rw[aA,M];exact hl,by simpa using rv⟩) (λb u z=>by have T:(none:Option HO)=some u:=z;cases T) (λb z=>absurd rfl z) λz=>absurd rfl z
 |none=>
  refine G (λb=>if b=a then some (.frz { cls:=.type "list", data:=.seq vs.toArray } (.lst (ns.map V.int)))else none) (λb=>?_) (.inl (.inr ⟨{ cls:=.type "list", data:=.seq vs.toArray },pB rfl⟩)) (λb u z=>?_) (λb z=>?_) λ_=>hk
  .by_cases hb:b=a
   .exact .inr ⟨_,_,pB hb⟩
   .exact .inl (oZ hb)
  .by_cases hb:b=a
   .have T:=(pB hb).symm.trans z;cases T;subst hb;exact⟨ha,by rw[lMq];exact hl,vs,_,rv,ha⟩
   .have T:=(oZ hb).symm.trans z;cases T
  .by_cases hb:b=a
   .exact hb
   .exact absurd (oZ hb) z
def X6{l:W.OpenLaw}{n k:Nat}{q:jS}{z:List Str}{U:(Str->Υ)->Heap->Prop}{S:jU->Heap->Prop}{d:DefRec}{K:Params->Ζ}{CX:jU->TJ}{sp:jU->Sp}{x:Str}
  (hn:l.most=some n) (L:n<=jP) (M:d.params.defaults=[]) (hr:tV k lZ)
  (X:∀(w:jU) (h:Heap),S w h->(K w.params).In h)
  (F:∀(w:jU) (mg:Str->Υ) (J:Addr) (h:Heap),(K w.params).In h->h.Ns jQ mg->mg d.name=some (.ref J) ->
   ∃fd:jX,(∀(s:jJ) (u:Value),mI s fd ⟨[u],[]⟩ [(x,u)]) /\
    ∀base:Heap,(K w.params).In base->base.Ns jQ mg->Aw l.prog w (K w.params) mg base (CX w) k J fd [x] (sp w))
  (O:∀(w:jU) (H:Hp) (a:Addr) (ns:Ϝ),ns.length<=n->aaO H->rz (K w.params) H a (ns.map V.int)->sp w [.ref a] H (λv _=>v = .bl true) λ_ _ _=>False)
  (P:∀(w:jU) (H:Hp) (s:jJ) (e:Value) (Q:jJ),CX w [] H s (λ_ _ _=>False) e Q->False) :
  W.WalkO q z U S l.row.toRowW d [] (λf vs=>PySem.call f vs):=by
 refine Att.Li hn M λw s₀ E mg mb J o pm cd doc a vs ns G Y ho hd hcd R I B t hg=>?_
 have T:=X w _ Y;obtain⟨fd,hb,hF⟩:=F w mg J _ T G.T.g R;exact SI T G.T.g G.T.b G.T.builtins G.T.nolimit hg I B (bX t L) hr hF hb (λH hO hS=>O w H a ns t hO hS) λH e Q=>P w H E e Q
def sI(s:Stmt):Arguments:=match s with
 | .FunctionDef _ a _ _ _ _ _ _ _ _=>a
 |_=>{ posonlyargs:=[],args:=[],vararg:=none,kwonlyargs:=[],kw_defaults:=[],kwarg:=none,defaults:=[] }
noncomputable def rM(s:Stmt):List Stmt:=match s with
 | .FunctionDef _ _ b _ _ _ _ _ _ _=>b
 |_=>[]
noncomputable def ou(s:Stmt):kJ:=match s with
 | .FunctionDef _ _ _ _ _ _ l _ _ _=>l
 |_=>{ kind:=.function,names:=[],isGenerator:=false,isCoroutine:=false }
noncomputable abbrev VS:TJ:=λ_ _ _ _ _ _=>False
noncomputable abbrev E0:XK:=λ_ _ _=>False
def OQ{X:Cx}:Cw VS X E0:=λ_ _ _ _ _ _ _ h=>h.elim
structure JN (K:Ζ)(x qual:Str)(st:Stmt)(f:Addr)(fd:jX):Prop where
 ex:∃(oc:Value) (od:Option Addr) (kV doc pm:Value) (an:Option Addr) (wJ ct:Value) (osl:Array Υ),
  fd=W.fnOf x qual (sI st) (rM st) (ou st) .none kV doc pm an wJ ct/\K.lookup f=some ⟨oc,od,.func fd,osl⟩/\W.codeIn K wJ qual=true
 kp:W.keepIn K (.ref f)=true
section
variable {P:jS}{w:jU}{K:Ζ}{mg:Str->Υ}{base:Heap}
def JN.ok{x l:Str}{st:Stmt}{f:Addr}{fd:jX}{N ps:List Str}{k:Nat}{sp:Sp}(F:JN K x l st f fd)(S:oI N ps (ou st))(len:∀vs H Q E,sp vs H Q E->vs.length=ps.length)
  (n:∀(u:Value) (A:Around) (outer:List Env) (s:jJ) (H:Hp) (vs:List V) (Q:VK) (E:XK),tV k (A.deeper (kQ l (ou st) s.heap.objs.size f u))->sp vs H Q E ->
   ∃t,Oq (MR VS P w K mg base N l (ou st) f u A outer s H E).nox (rM st) t/\t { nx:=λ_ G=>Q .non G,rt:=Q } (xS N vs) H):Aw P w K mg base VS (k+1) f fd ps sp:=by
 obtain⟨L,M,kV,I,pm,O,u,ct,J,rfl,lk,z⟩:=F.ex;refine acZ lk z S len λA outer s H vs Q E hr B=>?_
 obtain⟨t,h,q⟩:=n u A outer s H vs Q E hr B;exact⟨t,h.nox,q⟩
def JN.binds{x l:Str}{st:Stmt}{f:Addr}{fd:jX}{ps:List Str}(F:JN K x l st f fd)
  (h:∀(kV n pm:Value) (s:Option Addr) (t ct:Value) (us:Ξ),us.length=ps.length->bindArgs (W.fnOf x l (sI st) (rM st) (ou st) .none kV n pm s t ct) ⟨us,[]⟩=pure (ps.zip us)):rR K fd ps []:=by
 obtain⟨B,E,kV,n,pm,s,t,ct,u,rfl,lk,z⟩:=F.ex;exact .all (h kV n pm s t ct)
def wD{x n:Str}{st:Stmt}{f:Addr}{B:Value}{E z:Option Addr}{t:Array Υ}{kV s pm u ct:Value}(l:K.lookup f=some ⟨B,E,.func (W.fnOf x n (sI st) (rM st) (ou st) .none kV s pm z u ct),t⟩)
  (c:W.codeIn K u n=true) (k:W.keepIn K (.ref f)=true):JN K x n st f (W.fnOf x n (sI st) (rM st) (ou st) .none kV s pm z u ct):=⟨⟨B,E,kV,s,pm,z,u,ct,t,rfl,l,c⟩,k⟩
end
noncomputable def tK{A:Around}{k:Nat}(hr:tV k A):A.units+1<ku:=gb (Nat.add_le_add_left (by decide:1<=64) _) hr.units
section
variable {X:Cx}
def pv(i:Nat){x:Str}{pos:Pos}(n:X.N[i]?=some x:=by rfl)(s:Vis X.env.scope x:=by trivial)(hd:(x == ("__debug__" : Str))=false:=by decide)
  (l:(x == ("__classdict__" : Str))=false:=by decide):PE X (.Name x pos) (vA i):=abF n s hd l
end
def LU{A B:Prop}(h:B):if false=true then A else B:=by
 rw[oZ aB];exact h
def LW{A B:Prop}(h:A):if true=true then A else B:=by
 rw[pB rfl];exact h
def Same(H l:Hp):Prop:=∀b o,H b=some o->l b=some o
noncomputable def Same.refl(H:Hp):Same H H:=λ_ _ h=>h
noncomputable def Same.trans{H l n:Hp}(a:Same H l)(b:Same l n):Same H n:=λc o h=>b c o (a c o h)
def Same.free{H n:Hp}(e:Same H n){l:Addr}(h:n l=jH):H l=jH:=by
 cases q:H l with
 |none=>rfl
 |some o=>
  rw[e l o q]at h;cases h
noncomputable def Same.seq{K:Ζ}{H l:Hp}{a:Addr}{xs:List V}(e:Same H l)(h:rz K H a xs):rz K l a xs:=by
 rcases h with(h|⟨o,h⟩)|h
 .exact .inl (.inl (e _ _ h))
 .exact .inl (.inr ⟨o,e _ _ h⟩)
 .exact .inr h
end L2
namespace Mr
def cell(ns:Ϝ)(k:Nat):Int:=ns.getD k 0
def pW(ns:Ϝ):Nat->Nat
 |0=>0
 |k+1=>if ns.getD k 0<ns.getD (pW ns k) 0 then k else pW ns k
noncomputable def rot(ns:Ϝ)(i:Nat):Ϝ:=ns.drop i++ns.take i
def good(ns:Ϝ):Ϝ:=rot ns (pW ns ns.length)
theorem wU(ns:Ϝ):∀n,(0<n->pW ns n<n)/\(∀j,j<n->ns.getD (pW ns n) 0<=ns.getD j 0)/\(∀j,j<pW ns n->ns.getD (pW ns n) 0<ns.getD j 0)
 |0=>⟨λh=>absurd h (dN _),λj h=>absurd h (cG _),λj h=>absurd h (cG _)⟩
 |n+1=>by
  obtain⟨t,s,u⟩:=wU ns n;simp only[pW]
  by_cases c:ns.getD n 0<ns.getD (pW ns n) 0
  .rw[pB c];refine⟨λ_=>ee n,λj l=>?_,λj l=>?_⟩
   .rcases fe (iS l)with q|q
    .have:=s j q;lia
    .subst q;exact gg _
   .have:=s j l;lia
  .rw[oZ c];refine⟨λ_=>?_,λj l=>?_,u⟩
   .by_cases hn:0<n
    .exact dP (t hn)
    .have:n=0:=by lia
     subst this;exact ee 0
   .rcases fe (iS l)with q|q
    .exact s j q
    .subst q;lia
def G8(ns:Ϝ):pW ns ns.length<=ns.length:=by
 by_cases h:0<ns.length
 .exact cC ((wU ns ns.length).1 h)
 .have:ns.length=0:=by lia
  rw[this];exact aa 0
def yj{ns:Ϝ}{j:Nat}(h:j<ns.length):ns.getD j 0=ns[j]:=by
 rw[gDq,gEg h];rfl
def AO{ns:Ϝ}{M:Int}(n:M∈ns)(hl:∀a,a∈ns->M<=a):ns.idxOf M=pW ns ns.length:=by
 have t:0<ns.length:=fB n;obtain⟨l,u,x⟩:=wU ns ns.length;have l:=l t;have hi:ns.idxOf M<ns.length:=cA.mpr n;have e:ns.getD (ns.idxOf M) 0=M:=by rw[yj hi];exact eD hi
 have s:ns.getD (pW ns ns.length) 0=M:=by
  have z:=u _ hi;rw[e]at z;have B:=hl _ (by rw[yj l];exact gRq l:ns.getD (pW ns ns.length) 0∈ns)
  lia
 rcases iT (ns.idxOf M) (pW ns ns.length)with q|q|q
 .have:=x _ q;lia
 .exact q
 .exfalso;have:=fD (p:=(· == M)) (xs:=ns) (i:=pW ns ns.length) (by simpa[List.idxOf]using q)
  rw[yj l]at s;simp[s]at this
def Lf:good []=[]:=rfl
def M4(ns:Ϝ)(i:Nat):(rot ns i).length=ns.length:=by
 unfold rot;rw[lAq,ax,lTq];lia
def AK(ns:Ϝ):(good ns).length=ns.length:=M4 _ _
def step(ns:Ϝ):Int:=if 0<cell ns 0 % 3 then cell ns 0 % 10 ^ 40+1 else 1
def adS(ns:Ϝ):Int:=if 0<cell ns 1 % 3 then cell ns 1 % 10 ^ 40 else 0
def ZC(ns:Ϝ)(k:Int):Int:=step ns*(((1+cell ns 1 / 3 % 66)*k+cell ns 0 / 3 % 67) % 67+1)+adS ns
def agQ(ns:Ϝ)(k:Int):Int:=if cell ns 1 % 5=4 then 10 ^ 60-ZC ns k else ZC ns k
def Cr{A B:Ϝ}{m:Int}(h:∀x,x∈A->m<x)(l:∀x,x∈B->m<=x):good (A++m::B)=m::B++A:=by
 have n:m∈A++m::B:=by simp
 have hl:∀a,a∈A++m::B->m<=a:=λa ha=>by
  rcases mAq.mp ha with q|q
  .exact fX (h a q)
  .rcases ab.mp q with rfl|q
   .exact gg _
   .exact l a q
 have e:=AO n hl;have s:(A++m::B).idxOf m=A.length:=by
  rw[gu,oZ (λq=>absurd (h m q) (Int.lt_irrefl m)),fR,bC]
 unfold good rot;rw[←e,s,il,ip]
def LD{t:Ϝ}(s:t≠[])(hn:t.Nodup):∃A m B,t=A++m::B/\(∀x,x∈A->m<x)/\∀x,x∈B->m<x:=by
 have hl:0<t.length:=cH.mpr s;obtain⟨l,u,z⟩:=wU t t.length;have l:=l hl;refine⟨t.take (pW t t.length),t[pW t t.length],t.drop (pW t t.length+1),?_,?_,?_⟩
 .rw[←aK l,aR]
 .intro x n;obtain⟨j,E,rfl⟩:=List.mem_take_iff_getElem.mp n;have:=z j (by lia)
  rw[yj l,yj (by lia)]at this
  exact this
 .intro x n;obtain⟨j,E,rfl⟩:=List.mem_drop_iff_getElem.mp n;have a:=u (pW t t.length+1+j) (by lia)
  rw[yj l,yj (by lia)]at a
  have ne:t[pW t t.length]≠t[pW t t.length+1+j]:=cO.mp hn _ _ l (by lia) (by lia)
  lia
def GD{t:Ϝ}(hn:t.Nodup)(i:Nat):good (rot t i)=good t:=by
 by_cases s:t=[]
 .subst s;simp[rot]
 .obtain⟨A,m,B,rfl,l,n⟩:=LD s hn;rw[Cr l (λx q=>fX (n x q))]
  by_cases c:i<=A.length
  .have e:rot (A++m::B) i=A.drop i++m::(B++A.take i):=by
    unfold rot;rw[List.drop_append_of_le_length c,List.take_append_of_le_length c];simp
   rw[e,Cr (λx q=>l x (bH q)) (λx q=>?_)]
   .simp
   .rcases mAq.mp q with q|q
    .exact fX (n x q)
    .exact fX (l x (bh q))
  .have hi:A.length<i:=by lia
   obtain⟨j,rfl⟩:∃j,i=A.length+(j+1):=⟨i-A.length-1,by lia⟩
   have e:rot (A++m::B) (A.length+(j+1))=(B.drop j++A)++m::B.take j:=by
    unfold rot;rw[jc,List.take_append];simp[cI,bR]
   rw[e,Cr (λx q=>?_) (λx q=>fX (n x (bh q)))]
   .rw[bE,bE,←ag,aR]
   .rcases mAq.mp q with q|q
    .exact n x (bH q)
    .exact l x q
def rot_perm(t:Ϝ)(i:Nat):(rot t i).Perm t:=by
 unfold rot;exact bD.trans (by rw[aR])
def pD(t:Ϝ):(good t).Perm t:=rot_perm t _
def qJ{rs n:Λ}(h:rs.Perm n):rs.flatten.Perm n.flatten:=by
 induction h with
 |nil=>exact .refl _
 |cons x _ s=>rw[fCq,fCq];exact bY.append (.refl x) s
 |swap x y l=>
  rw[fCq,fCq,fCq,fCq,←ag,←ag];exact bY.append bD (.refl _)
 |trans _ _ a b=>exact a.trans b
theorem pO{f:Ϝ->Ϝ}(l:∀r,(f r).Perm r):∀rs:Λ,(rs.map f).flatten.Perm rs.flatten
 | []=>.refl _
 |r::rs=>by
  rw[ai,fCq,fCq];exact bY.append (l r) (pO l rs)
noncomputable def QM{rs:Λ}{r:Ϝ}(h:rs.flatten.Nodup)(hr:r∈rs):r.Nodup:=aJ.sublist (aE hr) h
noncomputable def NH{rs:Λ}{r:Ϝ}(hr:r∈rs):r.length<=rs.flatten.length:=(aE hr).length_le
def Pg:∀t:Fin 66,∀d:Fin 67,0<d.val->(t.val+1)*d.val % 67≠0:=by trivial
end Mr
namespace MrS
open PySem PyProof.Rows
noncomputable def yw:Bool->jK->Array jK->Nat->Nat->Nat->StateT SortSt Sem (Option Nat):=sortPriv% PySem.Builtin.gallop
structure Bm (prog:jS)(w:jU)(A:Around)(s:jJ)(κ:km)(P:jK->Prop)(lt:jK->jK->Bool):Prop where
 ask:∀x y,P x->P y->∀(E:Value->jJ->Prop) (Q:Bool->jJ->Prop),Q (lt x y) s->jR (jN prog w) A (keyLt' κ x.1 y.1) Q E s
 asym:∀x y,P x->P y->lt x y=true->lt y x=false
 trans:∀x y z,P x->P y->P z->lt y x=false->lt z y=false->lt z x=false
section
variable {prog:jS}{w:jU}{A:Around}{E:Value->jJ->Prop}{s:jJ}{κ:km}{P:jK->Prop}{lt:jK->jK->Bool}
def Bm.refl(C:Bm prog w A s κ P lt){x:jK}(l:P x):lt x x=false:=by
 cases e:lt x x with
 |false=>rfl
 |true=>rw[←C.asym x x l l e,e]
def Bm.cmp(C:Bm prog w A s κ P lt){x y:jK}{st:SortSt}{Q:Option Bool->SortSt->Prop}(l:P x)(n:P y)(hk:kindOf st=κ)(h:Q (some (lt x y)) st) :
  wpS (jN prog w) A E s (lt' x y) Q st:=by
 rw[lt'_eq];refine jL (kL ?_);rw[hk];refine jL (wpS_lift (wpAny_attempt (C.ask x y l n _ _ ⟨rfl,?_⟩)));exact jM h
def qe{arr:Array jK}{i:Nat}{x:jK}{st:SortSt}{Q:jK->SortSt->Prop}(l:arr[i]?=some x)(h:Q x st):wpS (jN prog w) A E s (kr arr i) Q st:=by
 rw[elem'_eq,l];exact jM h
def Bm.at(C:Bm prog w A s κ P lt){i j:Nat}{x y:jK}{st:SortSt}{Q:Option Bool->SortSt->Prop}(hi:(jV st)[i]?=some x)(l:(jV st)[j]?=some y)(n:P x)(t:P y)(hk:kindOf st=κ)(h:Q (some (lt x y)) st) :
  wpS (jN prog w) A E s (ltAt' i j) Q st:=by
 rw[ltAt'_eq];refine jL (kL ?_);exact jL (qe hi (jL (qe l (C.cmp n t hk h))))
def zC(lt:jK->jK->Bool)(left:Bool)(key:jK)(arr:Array jK)(base i:Nat):Bool:=
 if left then lt (arr.getD (base+i) key) key else !lt key (arr.getD (base+i) key)
def Ng(left:Bool)(key:jK)(arr:Array jK)(base n l:Nat):yw left key arr base n l=(do
 let B (i:Nat):StateT SortSt Sem (Option Bool):=do
  let x ←kr arr (base+i)
  if left then lt' x key else return (←lt' key x).map (!·)
 let mut t:=0
 let mut z:=1
 let mut lo:=0
 let mut hi:=0
 let some right ←B l|return none
 if right then
  let u:=n-l
  for _ in [0:n]do
   if z ≥ u then break
   let some more ←B (l+z)|return none
   if !more then break
   t:=z
   z:=2*z+1
  lo:=l+t+1
  hi:=l+min z u
 else
  let u:=l+1
  for _ in [0:n]do
   if z ≥ u then break
   let some G ←B (l-z)|return none
   if G then break
   t:=z
   z:=2*z+1
  lo:=l+1-min z u
  hi:=l-t
 for _ in [0:n]do
  if lo ≥ hi then break
  let m:=lo+(hi-lo) / 2
  let some more ←B m|return none
  if more then lo:=m+1 else hi:=m
 return some hi):=rfl
def xG(C:Bm prog w A s κ P lt){left:Bool}{key:jK}{arr:Array jK}{base i:Nat}{st:SortSt}{Q:Option Bool->SortSt->Prop}(hi:base+i<arr.size)(ha:∀x,x∈arr->P x)(l:P key)(hk:kindOf st=κ)
  (h:Q (some (zC lt left key arr base i)) st):wpS (jN prog w) A E s (do
   let x ←kr arr (base+i)
   if left=true then lt' x key else do
    let n ←lt' key x
    pure (n.map (!·))) Q st:=by
 have e:arr[base+i]?=some arr[base+i]:=ae hi;have u:arr.getD (base+i) key=arr[base+i]:=by simp[iz,hi]
 refine jL (qe e ?_);have t:P arr[base+i]:=ha _ (aX hi);unfold zC at h;rw[u]at h;cases left with
 |true=>
  rw[pB rfl]at h ⊢;exact C.cmp t l hk h
 |false=>
  rw[oZ (by decide)]at h ⊢
  exact jL (C.cmp l t hk (jM h))
def EN{left:Bool}{key:jK}{arr:Array jK}{base n lo hi:Nat}{st:SortSt}{f:Nat->Option (Option Nat)×Nat×Nat->StateT SortSt Sem (ForInStep (Option (Option Nat)×Nat×Nat))}
  (mono:∀i j,i<=j->j<n->zC lt left key arr base j=true->zC lt left key arr base i=true)
  (x:∀i j,i<=j->j<n->zC lt left key arr base i=false->zC lt left key arr base j=false)
  (M:∀(i l u:Nat) (B:ForInStep (Option (Option Nat)×Nat×Nat)->SortSt->Prop),u<=n->(u<=l->B (.done (none,l,u)) st)->(l<u->zC lt left key arr base (l+(u-l) / 2)=true->B (.yield (none,l+(u-l) / 2+1,u)) st) ->
   (l<u->zC lt left key arr base (l+(u-l) / 2)=false->B (.yield (none,l,l+(u-l) / 2)) st)->wpS (jN prog w) A E s (f i (none,l,u)) B st)
  (O:lo<=hi) (Q:hi<=n) (R:∀j,j<lo->zC lt left key arr base j=true) (S:∀j,hi<=j->j<n->zC lt left key arr base j=false) :
  wpS (jN prog w) A E s (forIn [:n] ((none,lo,hi):Option (Option Nat)×Nat×Nat) f)
   (λc t=>∃k,c=(none,k,k)/\t=st/\k<=n/\(∀j,j<k->zC lt left key arr base j=true)/\(∀j,k<=j->j<n->zC lt left key arr base j=false)) st:=by
 refine ke
  (I:=λi c t=>∃l u,c=(none,l,u)/\t=st/\l<=u/\u<=n/\(∀j,j<l->zC lt left key arr base j=true)/\(∀j,u<=j->j<n->zC lt left key arr base j=false)/\(u-l)+i<=n)
  ?step ?fin ⟨lo,hi,rfl,rfl,O,Q,R,S,by lia⟩
 case step=>
  rintro i c t _ T ⟨l,u,rfl,rfl,U,z,G,H,X⟩;refine M i l u _ z (λJ=>?_) (λJ e=>?_) (λJ e=>?_)
  .have e:l=u:=by lia
   subst e;exact⟨l,rfl,rfl,z,G,H⟩
  .exact⟨_,u,rfl,rfl,by lia,z,λj L=>mono j _ (by lia) (by lia) e,H,by lia⟩
  .exact⟨l,_,rfl,rfl,by lia,by lia,G,λj L hn=>x _ j L hn e,by lia⟩
 case fin=>
  rintro c t ⟨l,u,rfl,rfl,U,z,G,H,X⟩;have e:l=u:=by lia
  subst e;exact⟨l,rfl,rfl,z,G,H⟩
def vH(C:Bm prog w A s κ P lt){left:Bool}{key:jK}{arr:Array jK}{base n t:Nat}{st:SortSt}{Q:Option Nat->SortSt->Prop}(hh:t<n)(hb:base+n<=arr.size)(ha:∀x,x∈arr->P x)(z:P key)(hk:kindOf st=κ)
  (mono:∀i j,i<=j->j<n->zC lt left key arr base j=true->zC lt left key arr base i=true)
  (h:∀k,k<=n->(∀j,j<k->zC lt left key arr base j=true)->(∀j,k<=j->j<n->zC lt left key arr base j=false)->Q (some k) st) :
  wpS (jN prog w) A E s (yw left key arr base n t) Q st:=by
 have G:∀i j,i<=j->j<n->zC lt left key arr base i=false->zC lt left key arr base j=false:=λi j T S e=>by
  cases q:zC lt left key arr base j with
  |false=>rfl
  |true=>rw[mono i j T S q]at e;cases e
 rw[Ng];dsimp only;refine jL (xG C (base:=base) (i:=t) (by lia) ha z hk ?_)
 cases er:zC lt left key arr base t with
 |true=>
  dsimp only;rw[pB rfl];refine jL (kj (ke
   (I:=λi c u=>∃l o,c=(none,l,o)/\u=st/\l<o/\i+1<=o/\t+l<n/\zC lt left key arr base (t+l)=true)
   (Q:=λc u=>∃l o,c=(none,l,o)/\u=st/\l<o/\t+l<n/\zC lt left key arr base (t+l)=true/\(n-t<=o∨(t+o<n/\zC lt left key arr base (t+o)=false)))
   ?step ?fin ⟨0,1,rfl,rfl,by lia,by lia,by lia,er⟩) ?post)
  case step=>
   rintro i c u _ U ⟨l,o,rfl,rfl,L,X,J,H⟩;dsimp only
   by_cases B:o ≥ n-t
   .rw[pB B];exact jM ⟨l,o,rfl,rfl,L,J,H,.inl B⟩
   .rw[oZ B];refine jL (xG C (base:=base) (i:=t+o) (by lia) ha z hk ?_)
    cases e:zC lt left key arr base (t+o)with
    |true=>
     dsimp only;rw[oZ (by decide)]
     exact jM ⟨o,_,rfl,rfl,by lia,by lia,by lia,e⟩
    |false=>
     dsimp only;rw[pB (by decide)]
     exact jM ⟨l,o,rfl,rfl,L,J,H,.inr ⟨by lia,e⟩⟩
  case fin=>
   rintro c u ⟨l,o,rfl,rfl,L,X,J,H⟩;exact⟨l,o,rfl,rfl,L,J,H,.inl (by lia)⟩
  case post=>
   rintro c u ⟨l,o,rfl,rfl,L,J,H,O⟩;dsimp only;refine jL (kj (EN (lt:=lt) (left:=left) (key:=key) (arr:=arr) (base:=base) mono G (λi M R Q' hu Y q2 q3=>?_) (by lia) (by lia) (λj S=>mono j _ (by lia) J H) ?_) ?_)
   .dsimp only
    by_cases B:M ≥ R
    .rw[pB B];exact jM (Y B)
    .rw[oZ B];refine jL (xG C (base:=base) (i:=M+(R-M) / 2) (by lia) ha z hk ?_)
     cases e:zC lt left key arr base (M+(R-M) / 2)with
     |true=>
      dsimp only;rw[pB rfl];exact jM (q2 (by lia) e)
     |false=>
      dsimp only;rw[oZ (by decide)]
      exact jM (q3 (by lia) e)
   .intro j S hn;rcases O with O|⟨O,a6⟩
    .lia
    .exact G (t+o) j (by lia) hn a6
   .rintro c u ⟨k,rfl,rfl,k1,k2,k3⟩;exact jM (h k k1 k2 k3)
 |false=>
  dsimp only;rw[oZ (by decide)]
  refine jL (kj (ke
   (I:=λi c u=>∃l o,c=(none,l,o)/\u=st/\l<o/\i+1<=o/\l<=t/\zC lt left key arr base (t-l)=false)
   (Q:=λc u=>∃l o,c=(none,l,o)/\u=st/\l<o/\l<=t/\zC lt left key arr base (t-l)=false/\(t+1<=o∨(o<=t/\zC lt left key arr base (t-o)=true)))
   ?step ?fin ⟨0,1,rfl,rfl,by lia,by lia,by lia,er⟩) ?post)
  case step=>
   rintro i c u _ U ⟨l,o,rfl,rfl,L,X,J,H⟩;dsimp only
   by_cases B:o ≥ t+1
   .rw[pB B];exact jM ⟨l,o,rfl,rfl,L,J,H,.inl B⟩
   .rw[oZ B];refine jL (xG C (base:=base) (i:=t-o) (by lia) ha z hk ?_)
    cases e:zC lt left key arr base (t-o)with
    |true=>
     dsimp only;rw[pB rfl];exact jM ⟨l,o,rfl,rfl,L,J,H,.inr ⟨by lia,e⟩⟩
    |false=>
     dsimp only;rw[oZ (by decide)]
     exact jM ⟨o,_,rfl,rfl,by lia,by lia,by lia,e⟩
  case fin=>
   rintro c u ⟨l,o,rfl,rfl,L,X,J,H⟩;exact⟨l,o,rfl,rfl,L,J,H,.inl (by lia)⟩
  case post=>
   rintro c u ⟨l,o,rfl,rfl,L,J,H,O⟩;dsimp only;refine jL (kj (EN (lt:=lt) (left:=left) (key:=key) (arr:=arr) (base:=base) mono G (λi M R Q' hu Y q2 q3=>?_) (by lia) (by lia) ?_ (λj S hn=>G _ j S hn H)) ?_)
   .dsimp only
    by_cases B:M ≥ R
    .rw[pB B];exact jM (Y B)
    .rw[oZ B];refine jL (xG C (base:=base) (i:=M+(R-M) / 2) (by lia) ha z hk ?_)
     cases e:zC lt left key arr base (M+(R-M) / 2)with
     |true=>
      dsimp only;rw[pB rfl];exact jM (q2 (by lia) e)
     |false=>
      dsimp only;rw[oZ (by decide)]
      exact jM (q3 (by lia) e)
   .intro j S;rcases O with O|⟨O,a6⟩
    .lia
    .exact mono j (t-o) (by lia) (by lia) a6
   .rintro c u ⟨k,rfl,rfl,k1,k2,k3⟩;exact jM (h k k1 k2 k3)
end
abbrev zD(lt:jK->jK->Bool)(l:List jK):Prop:=l.Pairwise λx y=>lt y x=false
structure MI (lt:jK->jK->Bool)(a b out:Array jK)(ia ib:Nat):Prop where
 la:ia<=a.size
 lb:ib<=b.size
 pm:(out.toList++(a.toList.drop ia++b.toList.drop ib)).Perm (a.toList++b.toList)
 so:zD lt out.toList
 ua:∀x∈out.toList,∀y∈a.toList.drop ia,lt y x=false
 ub:∀x∈out.toList,∀y∈b.toList.drop ib,lt y x=false
section
variable {lt:jK->jK->Bool}{a b out out':Array jK}{ia ib k:Nat}
def MI.congr(m:MI lt a b out ia ib)(e:out'.toList=out.toList):MI lt a b out' ia ib:=⟨m.la,m.lb,by rw[e];exact m.pm,by rw[e];exact m.so,by rw[e];exact m.ua,by rw[e];exact m.ub⟩
noncomputable def K1(l:List jK)(i k:Nat):l.drop i=(l.drop i).take k++l.drop (i+k):=by
 rw[←List.drop_drop,aR]
noncomputable def zS(a:Array jK)(i k:Nat):(a.extract i (i+k)).toList=(a.toList.drop i).take k:=by
 rw[fS,eX,gP]
def MI.moreA(m:MI lt a b out ia ib)(sa:zD lt a.toList)(hk:ia+k<=a.size)(h:∀x∈(a.toList.drop ia).take k,∀y∈b.toList.drop ib,lt y x=false):MI lt a b (out++a.extract ia (ia+k)) (ia+k) ib:=by
 have e:(out++a.extract ia (ia+k)).toList=out.toList++(a.toList.drop ia).take k:=by rw[aL,zS]
 have t:zD lt (a.toList.drop ia):=sa.sublist (cv _ _);have c:=K1 a.toList ia k;have s:=t;rw[c]at s;obtain⟨u,B,z⟩:=aM.mp s;refine⟨hk,m.lb,?_,?_,?_,?_⟩
 .rw[e,ag];refine(bY.append_left _ ?_).trans m.pm;rw[←ag,←c]
 .rw[e];exact aM.mpr ⟨m.so,u,λx l y n=>m.ua x l y (bh n)⟩
 .rw[e];intro x l y n;rcases mAq.mp l with l|l
  .exact m.ua x l y (by rw[c];exact aq _ n)
  .exact z x l y n
 .rw[e];intro x l y n;rcases mAq.mp l with l|l
  .exact m.ub x l y n
  .exact h x l y n
def MI.moreB(m:MI lt a b out ia ib)(sb:zD lt b.toList)(hk:ib+k<=b.size)(h:∀x∈(b.toList.drop ib).take k,∀y∈a.toList.drop ia,lt y x=false):MI lt a b (out++b.extract ib (ib+k)) ia (ib+k):=by
 have e:(out++b.extract ib (ib+k)).toList=out.toList++(b.toList.drop ib).take k:=by rw[aL,zS]
 have t:zD lt (b.toList.drop ib):=sb.sublist (cv _ _);have c:=K1 b.toList ib k;have s:=t;rw[c]at s;obtain⟨u,B,z⟩:=aM.mp s;refine⟨m.la,hk,?_,?_,?_,?_⟩
 .rw[e,ag];refine(bY.append_left _ ?_).trans m.pm;refine((List.perm_append_comm_assoc _ _ _).trans ?_);rw[←c]
 .rw[e];exact aM.mpr ⟨m.so,u,λx l y n=>m.ub x l y (bh n)⟩
 .rw[e];intro x l y n;rcases mAq.mp l with l|l
  .exact m.ua x l y n
  .exact h x l y n
 .rw[e];intro x l y n;rcases mAq.mp l with l|l
  .exact m.ub x l y (by rw[c];exact aq _ n)
  .exact z x l y n
noncomputable def zO{l:List jK}{i:Nat}{x:jK}(h:l[i]?=some x):(l.drop i).take 1=[x]:=by
 obtain⟨hi,e⟩:=gSq.mp h;rw[aK hi,e];rfl
def MI.pushA{x:jK}(m:MI lt a b out ia ib)(sa:zD lt a.toList)(n:a[ia]?=some x)(h:∀y∈b.toList.drop ib,lt y x=false):MI lt a b (out.push x) (ia+1) ib:=by
 have hi:ia<a.size:=(bw.mp n).1;have l:a.toList[ia]?=some x:=by rw[aH];exact n
 refine(m.moreA sa (k:=1) hi λz s y t=>?_).congr ?_
 .rw[zO l,mSq]at s;rw[s];exact h y t
 .rw[eO,aL,zS,zO l]
def MI.pushB{x:jK}(m:MI lt a b out ia ib)(sb:zD lt b.toList)(n:b[ib]?=some x)(h:∀y∈a.toList.drop ia,lt y x=false):MI lt a b (out.push x) ia (ib+1):=by
 have hi:ib<b.size:=(bw.mp n).1;have l:b.toList[ib]?=some x:=by rw[aH];exact n
 refine(m.moreB sb (k:=1) hi λz s y t=>?_).congr ?_
 .rw[zO l,mSq]at s;rw[s];exact h y t
 .rw[eO,aL,zS,zO l]
structure VY (lt:jK->jK->Bool)(a b r:Array jK):Prop where
 pm:r.toList.Perm (a.toList++b.toList)
 so:zD lt r.toList
noncomputable def yW(a:Array jK)(i:Nat):(a.extract i a.size).toList=a.toList.drop i:=by
 rw[fS,eX];exact bR (by rw[ax,au];exact aa _)
def MI.endB(m:MI lt a b out ia ib)(sa:zD lt a.toList)(e:ib=b.size):VY lt a b (out++a.extract ia a.size++b.extract ib b.size):=by
 have l:b.toList.drop ib=[]:=by rw[e,←au,dh]
 have n:(out++a.extract ia a.size++b.extract ib b.size).toList=out.toList++a.toList.drop ia:=by
  rw[aL,aL,yW,yW,l,aNq]
 have pm:=m.pm;rw[l,aNq]at pm;exact⟨by rw[n];exact pm,by rw[n];exact aM.mpr ⟨m.so,sa.sublist (cv _ _),m.ua⟩⟩
def MI.endA(m:MI lt a b out ia ib)(sb:zD lt b.toList)(e:ia=a.size):VY lt a b (out++a.extract ia a.size++b.extract ib b.size):=by
 have l:a.toList.drop ia=[]:=by rw[e,←au,dh]
 have n:(out++a.extract ia a.size++b.extract ib b.size).toList=out.toList++b.toList.drop ib:=by
  rw[aL,aL,yW,yW,l,aNq]
 have pm:=m.pm;rw[l,bA]at pm;exact⟨by rw[n];exact pm,by rw[n];exact aM.mpr ⟨m.so,sb.sublist (cv _ _),m.ub⟩⟩
def MI.lastA(m:MI lt a b out ia ib)(sa:zD lt a.toList)(sb:zD lt b.toList)(h:∀x∈b.toList.drop ib,∀y∈a.toList.drop ia,lt y x=false):VY lt a b (out++b.extract ib b.size++a.extract ia a.size):=by
 have n:(out++b.extract ib b.size++a.extract ia a.size).toList=out.toList++(b.toList.drop ib++a.toList.drop ia):=by
  rw[aL,aL,yW,yW,ag]
 refine⟨?_,?_⟩
 .rw[n];exact(bY.append_left _ bD).trans m.pm
 .rw[n];refine aM.mpr ⟨m.so,aM.mpr ⟨sb.sublist (cv _ _),sa.sublist (cv _ _),h⟩,λx s y l=>?_⟩
  rcases mAq.mp l with l|l
  .exact m.ub x s y l
  .exact m.ua x s y l
end
noncomputable def Gf:Array jK->Array jK->StateT SortSt Sem (Array jK):=sortPriv% PySem.Builtin.mergeLo
noncomputable def sS:Nat->StateT SortSt Sem Unit:=sortPriv% PySem.Builtin.setMinGallop
abbrev sg(st:SortSt)(g:Nat):SortSt:=SortSt.mk' (kindOf st) (jV st) (kE st) g (failedOf st)
def DP(g:Nat):sS g=modify λst=>sg st g:=rfl
section
variable (a b:Array jK)
noncomputable abbrev dn(o:Array jK)(i j:Nat):=o++a.extract i a.size++b.extract j b.size
noncomputable abbrev lA(o:Array jK)(i j:Nat):=o++b.extract j b.size++a.extract i a.size
noncomputable abbrev SF(α:Type):=ForInStep (Option (Array jK)×Array jK×Nat×Nat×α)
def loC(o:Array jK)(i j m k l:Nat):StateT SortSt Sem (SF (Nat×Nat×Nat)):=do
 let x ←kr a i
 if i+1+1 == a.size then pure (.done (some (lA a b (o.push x) (i+1) j),o.push x,i+1,j,m,k,l))
 else if decide (k<7) && decide (l<7)then pure (.done (none,o.push x,i+1,j,m,k,l))
 else pure (.yield (none,o.push x,i+1,j,m,k,l))
def loB(o:Array jK)(i j m k q:Nat):StateT SortSt Sem (SF (Nat×Nat×Nat)):=do
 let x ←kr b j
 if j+1 == b.size then pure (.done (some (dn a b (o.push x) i (j+1)),o.push x,i,j+1,m,k,q))
 else do
  let y ←kr a i
  match ←yw true y b (j+1) (b.size-(j+1)) 0 with
  |some l=>
   if l>0 then
    if j+1+l == b.size then pure (.done (some (dn a b (o.push x++b.extract (j+1) (j+1+l)) i (j+1+l)),o.push x++b.extract (j+1) (j+1+l),i,j+1+l,m,k,l))
    else loC a b (o.push x++b.extract (j+1) (j+1+l)) i (j+1+l) m k l
   else loC a b (o.push x) i (j+1) m k l
  |_=>pure (.done (some (dn a b (o.push x) i (j+1)),o.push x,i,j+1,m,k,q))
def loA(o:Array jK)(i j m p q:Nat):StateT SortSt Sem (SF (Nat×Nat×Nat)):=do
 sS m
 let x ←kr b j
 match ←yw false x a i (a.size-i) 0 with
 |some k=>
  if k>0 then
   if i+k+1 == a.size then pure (.done (some (lA a b (o++a.extract i (i+k)) (i+k) j),o++a.extract i (i+k),i+k,j,m,k,q))
   else if i+k == a.size then pure (.done (some (dn a b (o++a.extract i (i+k)) (i+k) j),o++a.extract i (i+k),i+k,j,m,k,q))
   else loB a b (o++a.extract i (i+k)) (i+k) j m k q
  else loB a b o i j m k q
 |_=>pure (.done (some (dn a b o i j),o,i,j,m,p,q))
def lo1(m:Nat)(o:Array jK)(i j p q:Nat):StateT SortSt Sem (SF (Nat×Nat)):=do
 let y ←kr b j
 let x ←kr a i
 match ←lt' y x with
 |some c=>
  if c then do
   let z ←kr b j
   if j+1 == b.size then pure (.done (some (dn a b (o.push z) i (j+1)),o.push z,i,j+1,0,q+1))
   else if q+1 ≥ m then pure (.done (none,o.push z,i,j+1,0,q+1))
   else pure (.yield (none,o.push z,i,j+1,0,q+1))
  else do
   let z ←kr a i
   if i+1+1 == a.size then pure (.done (some (lA a b (o.push z) (i+1) j),o.push z,i+1,j,p+1,0))
   else if p+1 ≥ m then pure (.done (none,o.push z,i+1,j,p+1,0))
   else pure (.yield (none,o.push z,i+1,j,p+1,0))
 |_=>pure (.done (some (dn a b o i j),o,i,j,p,q))
def lo0(o:Array jK)(i j m:Nat):StateT SortSt Sem (SF Nat):=do
 let r ←forIn [0:a.size+b.size] (none,o,i,j,0,0) λ_ s=>lo1 a b m s.2.1 s.2.2.1 s.2.2.2.1 s.2.2.2.2.1 s.2.2.2.2.2
 Break.runK.match_1 (λ_=>StateT SortSt Sem (SF Nat)) r.1 (λv=>pure (.done (some v,r.2.1,r.2.2.1,r.2.2.2.1,m))) λ_=>do
  rule "list.sort.gallop"
  let r ←forIn [0:a.size+b.size] (none,r.2.1,r.2.2.1,r.2.2.2.1,m+1,r.2.2.2.2.1,r.2.2.2.2.2) λ_ s=>if s.2.2.2.2.1>1 then loA a b s.2.1 s.2.2.1 s.2.2.2.1 (s.2.2.2.2.1-1) s.2.2.2.2.2.1 s.2.2.2.2.2.2 else loA a b s.2.1 s.2.2.1 s.2.2.2.1 s.2.2.2.2.1 s.2.2.2.2.2.1 s.2.2.2.2.2.2
  Break.runK.match_1 (λ_=>StateT SortSt Sem (SF Nat)) r.1 (λv=>pure (.done (some v,r.2.1,r.2.2.1,r.2.2.2.1,r.2.2.2.2.1))) λ_=>do
   sS (r.2.2.2.2.1+1)
   pure (.yield (none,r.2.1,r.2.2.1,r.2.2.2.1,r.2.2.2.2.1+1))
def LA:Gf a b=(do
 rule "list.sort.merge-lo"
 let x ←kr b 0
 if 1 == b.size then pure (dn a b #[x] 0 1)
 else if 0+1 == a.size then pure (lA a b #[x] 0 1)
 else do
  let st ←get
  let r ←forIn [0:a.size+b.size] (none,#[x],0,1,kZ st) λ_ s=>lo0 a b s.2.1 s.2.2.1 s.2.2.2.1 s.2.2.2.2
  Break.runK.match_1 (λ_=>StateT SortSt Sem (Array jK)) r.1 (λv=>pure v) λ_=>kR "internal:list.sort.merge-bound"):=rfl
end
section
variable {prog:jS}{w:jU}{A:Around}{E:Value->jJ->Prop}{s:jJ}{κ:km}{P:jK->Prop}{lt:jK->jK->Bool}
def zl{g:Nat}{st:SortSt}{Q:Unit->SortSt->Prop}(h:Q () (sg st g)):wpS (jN prog w) A E s (sS g) Q st:=by
 rw[DP];exact kG h
def yD{x:String}{st:SortSt}{Q:Unit->SortSt->Prop}(h:Q () st):wpS (jN prog w) A E s (liftM (rule x):StateT SortSt Sem Unit) Q st:=wpS_lift (wpAny_rule ⟨rfl,h⟩)
def Fg(C:Bm prog w A s κ P lt){a:Array jK}{i:Nat}{x:jK}(ha:∀x,x∈a->P x)(sa:zD lt a.toList)(u:a[i]?=some x):∀y∈a.toList.drop i,lt y x=false:=by
 obtain⟨hi,e⟩:=bw.mp u;have l:i<a.toList.length:=by simpa using hi
 have z:a.toList[i]=x:=by simpa using e
 have t:zD lt (a.toList.drop i):=sa.sublist (cv _ _);rw[aK l,z]at t ⊢;intro y n;rcases ab.mp n with rfl|n
 .exact C.refl (ha _ (by rw[←e];exact aX hi))
 .exact(cS.mp t).1 y n
noncomputable def xF{a:Array jK}{i:Nat}{y:jK}(h:y∈a.toList.drop i):y∈a:=by simpa using bH h
def C8(C:Bm prog w A s κ P lt){left:Bool}{key:jK}{arr:Array jK}{base n:Nat}(hb:base+n<=arr.size)(ha:∀x,x∈arr->P x)(l:P key)(so:zD lt (arr.toList.drop base)) :
  ∀i j,i<=j->j<n->zC lt left key arr base j=true->zC lt left key arr base i=true:=by
 intro i j z L h;have t:base+i<arr.size:=by lia
 have u:base+j<arr.size:=by lia
 have H:arr.getD (base+i) key=arr[base+i]:=by simp[iz,t]
 have I:arr.getD (base+j) key=arr[base+j]:=by simp[iz,u]
 have B:=ha _ (aX t);have G:=ha _ (aX u);have le:lt arr[base+j] arr[base+i]=false:=by
  rcases fe z with q|q
  .have:=cO.mp so i j (by simp;lia) (by simp;lia) q
   simpa using this
  .subst q;exact C.refl B
 unfold zC at h ⊢;rw[H];rw[I]at h;cases left with
 |true=>
  rw[pB rfl]at h ⊢;cases q:lt arr[base+i] key with
  |true=>rfl
  |false=>
   have:=C.trans key arr[base+i] arr[base+j] l B G q le;rw[h]at this;cases this
 |false=>
  rw[oZ (by decide)]at h ⊢
  have J:lt key arr[base+j]=false:=by simpa using h
  have:=C.trans arr[base+i] arr[base+j] key B G l le J;simp[this]
def uV{left:Bool}{key x:jK}{arr:Array jK}{base i:Nat}(l:arr[base+i]?=some x):zC lt left key arr base i=if left then lt x key else !lt key x:=by
 obtain⟨hi,e⟩:=bw.mp l;unfold zC;have n:arr.getD (base+i) key=x:=by simp[iz,hi,e]
 rw[n]
def yx{a:Array jK}{i k:Nat}{x:jK}(h:x∈(a.toList.drop i).take k):∃j,j<k/\a[i+j]?=some x:=by
 obtain⟨j,l,e⟩:=cX.mp h;rw[lTq]at l;refine⟨j,by lia,?_⟩
 rw[gA,ft]at e;rw[bw];have n:i+j<a.size:=by
  rw[ax,au]at l;lia
 exact⟨n,by simpa using e⟩
def AG{a:Array jK}{i:Nat}{x:jK}(h:x∈a.toList.drop i):∃j,i+j<a.size/\a[i+j]?=some x:=by
 obtain⟨j,n,e⟩:=cX.mp h;rw[ax,au]at n;have l:i+j<a.size:=by lia
 refine⟨j,l,?_⟩;rw[ft]at e;rw[bw];exact⟨l,by simpa using e⟩
inductive Lp {ρ τ ι σ:Type}(t:ι->τ)(v:ι->σ)(J K:ι->Prop)(R:ρ->σ->Prop):ForInStep (Option ρ×τ)->σ->Prop
 |y (x):J x->Lp t v J K R (.yield (none,t x)) (v x)
 |d (x):K x->Lp t v J K R (.done (none,t x)) (v x)
 |r (a y st):R a st->Lp t v J K R (.done (some a,y)) st
def zd{M:Model}{ρ τ ι σ β:Type}{n:Nat}(t:ι->τ)(v:ι->σ)(J:Nat->ι->Prop)(K:ι->Prop)(R:ρ->σ->Prop){f:Nat->Option ρ×τ->StateT σ Sem (ForInStep (Option ρ×τ))}{k:Option ρ×τ->StateT σ Sem β}{Q:β->σ->Prop}
  (x:ι) (h:J 0 x) (step:∀i x,J i x->wpS M A E s (f i (none,t x)) (Lp t v (J (i+1)) K R) (v x)) (fin:∀x,J n x->K x) (pn:∀x,K x->wpS M A E s (k (none,t x)) Q (v x)) (ps:∀r y st,R r st->wpS M A E s (k (some r,y)) Q st) :
  wpS M A E s (forIn [0:n] (none,t x) f >>= k) Q (v x):=by
 refine jL (kj (ke (I:=λi c st=>∃x,c=(none,t x)/\st=v x/\J i x) (Q:=λc st=>Lp t v K K R (.done c) st) ?_ ?_ ⟨x,rfl,rfl,h⟩) ?_)
 .rintro i c st _ _ ⟨x,rfl,rfl,h⟩;refine kj (step i x h) λr l hr=>?_
  cases hr with
  |y x h=>exact⟨x,rfl,rfl,h⟩
  |d x h=>exact .d x h
  |r a y st h=>exact .r a y _ h
 .rintro c st ⟨x,rfl,rfl,h⟩;rw[jd (aT n)]at h;exact .d x (fin x h)
 .rintro c st h;cases h with
  |d x h=>exact pn x h
  |r a y st h=>exact ps a y _ h
structure Ls where
 o:Array jK
 (i j m p q g:Nat)
structure ML (lt:jK->jK->Bool)(a b:Array jK)(n:Nat)(x:Ls):Prop where
 m:MI lt a b x.o x.i x.j
 p:x.i+1<a.size
 q:x.j<b.size
 r:n<=x.i+x.j
structure Lo (prog:jS)(w:jU)(A:Around)(s:jJ)(κ:km)(P:jK->Prop)(lt:jK->jK->Bool)(a b:Array jK)(st:SortSt)(Q:Array jK->SortSt->Prop):Prop where
 C:Bm prog w A s κ P lt
 ha:∀x,x∈a->P x
 hb:∀x,x∈b->P x
 hk:kindOf st=κ
 sa:zD lt a.toList
 sb:zD lt b.toList
 h:∀r g,VY lt a b r->Q r (sg st g)
noncomputable abbrev L6(x:Ls):=(x.o,x.i,x.j,x.m,x.p,x.q)
noncomputable abbrev L5(x:Ls):=(x.o,x.i,x.j,x.p,x.q)
noncomputable abbrev L4(x:Ls):=(x.o,x.i,x.j,x.m)
variable {a b:Array jK}{st:SortSt}{Q:Array jK->SortSt->Prop}{n:Nat}{x:Ls}
abbrev Hl(lt:jK->jK->Bool)(a b:Array jK):=∀i,i+1=a.size->∀x∈b.toList,∀y∈a.toList.drop i,lt y x=false
def Ux(H:Lo prog w A s κ P lt a b st Q)(hl:Hl lt a b)(q:ML lt a b n x)(hi:∀z,a[x.i]?=some z->∀y∈b.toList.drop x.j,lt y z=false) :
  wpS (jN prog w) A E s (loC a b x.o x.i x.j x.m x.p x.q) (Lp L6 (λx=>sg st x.g) (ML lt a b n) (ML lt a b n) Q) (sg st x.g):=by
 have G:=q.p;have l:a[x.i]?=some a[x.i]:=ae (by lia)
 refine jL (qe l ?_);have u:=q.m.pushA H.sa l (hi _ l)
 by_cases t:x.i+1+1=a.size
 .rw[pB (by simp[t])]
  exact jM (.r _ _ _ (H.h _ _ (u.lastA H.sa H.sb λy B=>hl _ t y (bH B))))
 rw[oZ (by simpa using t)]
 have R:ML lt a b n ⟨_,_,_,x.m,x.p,x.q,x.g⟩:=⟨u,by dsimp only;lia,q.q,by have:=q.r;dsimp only;lia⟩
 split
 .exact jM (.d _ R)
 .exact jM (.y _ R)
def VJ(H:Lo prog w A s κ P lt a b st Q)(hl:Hl lt a b)(q:ML lt a b n x)(hi:∀z,b[x.j]?=some z->∀y∈a.toList.drop x.i,lt y z=false) :
  wpS (jN prog w) A E s (loB a b x.o x.i x.j x.m x.p x.q) (Lp L6 (λx=>sg st x.g) (ML lt a b n) (ML lt a b n) Q) (sg st x.g):=by
 have R:=q.p;have p2:=q.q;have p3:=q.r;have G:b[x.j]?=some b[x.j]:=ae p2;refine jL (qe G ?_);have I:=q.m.pushB H.sb G (hi _ G)
 by_cases J:x.j+1=b.size
 .rw[pB (by simp[J])]
  exact jM (.r _ _ _ (H.h _ _ (I.endB H.sa J)))
 rw[oZ (by simpa using J)]
 have L:a[x.i]?=some a[x.i]:=ae (by lia)
 have u:=H.ha _ (aX (show x.i<a.size by lia))
 refine jL (qe L (jL (vH H.C (base:=x.j+1) (n:=b.size-(x.j+1)) (by lia) (by lia) H.hb u H.hk (C8 H.C (by lia) H.hb u (H.sb.sublist (cv _ _))) λl l1 l2 l3=>?_)))
 have S:∀z,a[x.i]?=some z->∀y∈b.toList.drop (x.j+1+l),lt y z=false:=λz T y B=>by
  obtain⟨M,t,ey⟩:=AG B;have q:=l3 (l+M) (by lia) (by lia)
  rw[uV (by rw[←fG];exact ey),pB rfl]at q
  rw[L]at T;cases T;exact q
 dsimp only
 by_cases cl:l>0
 .rw[pB cl];have U:=I.moreB H.sb (k:=l) (by lia) λx X y B=>by
   obtain⟨M,t,ex⟩:=yx X;have q:=l2 M t;rw[uV ex,pB rfl]at q;have Y:=H.hb x (bh X |> xF);exact H.C.trans _ _ _ Y u (H.ha _ (xF B)) (H.C.asym _ _ Y u q) (Fg H.C H.ha H.sa L y B)
  by_cases O:x.j+1+l=b.size
  .rw[pB (by simp[O])]
   exact jM (.r _ _ _ (H.h _ _ (U.endB H.sa O)))
  rw[oZ (by simpa using O)]
  exact Ux H hl (x:=⟨_,_,_,_,_,_,x.g⟩) ⟨U,R,by dsimp only;lia,by dsimp only;lia⟩ S
 .rw[oZ cl];exact Ux H hl (x:=⟨_,_,_,_,_,_,x.g⟩) ⟨I,R,by dsimp only;lia,by dsimp only;lia⟩ (by rw[show x.j+1=x.j+1+l by lia];exact S)
def Vi(H:Lo prog w A s κ P lt a b st Q)(hl:Hl lt a b)(q:ML lt a b n x) :
  wpS (jN prog w) A E s (loA a b x.o x.i x.j x.m x.p x.q) (Lp L6 (λx=>sg st x.g) (ML lt a b n) (ML lt a b n) Q) (sg st x.g):=by
 have U:=q.p;have u:=q.q;have X:=q.r;have I:b[x.j]?=some b[x.j]:=ae u;have B:=H.hb _ (aX u);refine jL (zl (jL (qe I (jL (vH H.C (base:=x.i) (n:=a.size-x.i) (by lia) (by lia) H.ha B H.hk (C8 H.C (by lia) H.ha B (H.sa.sublist (cv _ _))) λk k1 Y k3=>?_)))))
 have R:∀z,b[x.j]?=some z->∀y∈a.toList.drop (x.i+k),lt y z=false:=λz S y l=>by
  obtain⟨J,t,ey⟩:=AG l;have q:=k3 (k+J) (by lia) (by lia)
  rw[uV (by rw[←fG];exact ey),oZ (by decide)]at q
  rw[I]at S;cases S;exact H.C.asym _ _ B (H.ha _ (xF l)) (by simpa using q)
 dsimp only
 by_cases T:k>0
 .rw[pB T];have L:=q.m.moreA H.sa (k:=k) (by lia) λx G y l=>by
   obtain⟨J,t,ex⟩:=yx G;have q:=Y J t;rw[uV ex,oZ (by decide)]at q
   exact H.C.trans _ _ _ (H.ha x (bh G |> xF)) B (H.hb _ (xF l)) (by simpa using q) (Fg H.C H.hb H.sb I y l)
  by_cases M:x.i+k+1=a.size
  .rw[pB (by simp[M])]
   exact jM (.r _ _ _ (H.h _ x.m (L.lastA H.sa H.sb λx G=>hl _ M x (bH G))))
  rw[oZ (by simpa using M)]
  by_cases O:x.i+k=a.size
  .rw[pB (by simp[O])]
   exact jM (.r _ _ _ (H.h _ x.m (L.endA H.sb O)))
  rw[oZ (by simpa using O)]
  exact VJ H hl (x:=⟨_,_,_,_,_,_,x.m⟩) ⟨L,by dsimp only;lia,u,by dsimp only;lia⟩ R
 .rw[oZ T];exact VJ H hl (x:=⟨_,_,_,_,_,_,x.m⟩) ⟨q.m,U,u,X⟩ (by rw[show x.i=x.i+k by lia];exact R)
def ab2(H:Lo prog w A s κ P lt a b st Q)(hl:Hl lt a b){m j:Nat}(q:ML lt a b (n+j) x) :
  wpS (jN prog w) A E s (lo1 a b m x.o x.i x.j x.p x.q) (Lp L5 (λx=>sg st x.g) (ML lt a b (n+(j+1))) (ML lt a b (n+1)) Q) (sg st x.g):=by
 have M:=q.p;have L:=q.q;have S:=q.r;have B:a[x.i]?=some a[x.i]:=ae (by lia)
 have G:b[x.j]?=some b[x.j]:=ae L;have I:=H.ha _ (aX (show x.i<a.size by lia))
 have J:=H.hb _ (aX L);refine jL (qe G (jL (qe B (jL (H.C.cmp J I H.hk ?_)))));cases e:lt b[x.j] a[x.i]with
 |true=>
  dsimp only;rw[pB rfl];refine jL (qe G ?_);have t:=q.m.pushB H.sb G λz u=>H.C.trans _ _ _ J I (H.ha _ (xF u)) (H.C.asym _ _ J I e) (Fg H.C H.ha H.sa B z u)
  by_cases l:x.j+1=b.size
  .rw[pB (by simp[l])]
   exact jM (.r _ _ _ (H.h _ _ (t.endB H.sa l)))
  rw[oZ (by simpa using l)]
  have R:∀n,n<=x.i+(x.j+1)->ML lt a b n ⟨_,_,_,0,0,x.q+1,x.g⟩:=λn hn=>⟨t,M,by dsimp only;lia,hn⟩
  split
  .exact jM (.d _ (R _ (by lia)))
  .exact jM (.y _ (R _ (by lia)))
 |false=>
  dsimp only;rw[oZ (by decide)]
  refine jL (qe B ?_);have t:=q.m.pushA H.sa B λz u=>H.C.trans _ _ _ I J (H.hb _ (xF u)) e (Fg H.C H.hb H.sb G z u)
  by_cases l:x.i+1+1=a.size
  .rw[pB (by simp[l])]
   exact jM (.r _ _ _ (H.h _ _ (t.lastA H.sa H.sb λx O=>hl _ l x (bH O))))
  rw[oZ (by simpa using l)]
  have R:∀n,n<=x.i+1+x.j->ML lt a b n ⟨_,_,_,0,x.p+1,0,x.g⟩:=λn hn=>⟨t,by dsimp only;lia,L,hn⟩
  split
  .exact jM (.d _ (R _ (by lia)))
  .exact jM (.y _ (R _ (by lia)))
def acA(H:Lo prog w A s κ P lt a b st Q)(hl:Hl lt a b)(q:ML lt a b n x) :
  wpS (jN prog w) A E s (lo0 a b x.o x.i x.j x.m) (Lp L4 (λx=>sg st x.g) (ML lt a b (n+1)) (λ_=>False) Q) (sg st x.g):=by
 refine zd L5 (λx=>sg st x.g) (λj=>ML lt a b (n+j)) (ML lt a b (n+1)) Q ⟨x.o,x.i,x.j,0,0,0,x.g⟩ ⟨q.m,q.p,q.q,q.r⟩ (λj x q=>ab2 H hl q) (λy h=>⟨h.m,h.p,h.q,by have:=h.r;have:=h.p;have:=h.q;lia⟩) (λy q=>?_) λr y l hr=>jM (.r _ _ _ hr)
 refine jL (yD ?_);refine zd L6 (λx=>sg st x.g) (λ_=>ML lt a b (n+1)) (ML lt a b (n+1)) Q ⟨y.o,y.i,y.j,x.m+1,y.p,y.q,y.g⟩ ⟨q.m,q.p,q.q,q.r⟩ (λj z q=>?_) (λ_ h=>h) (λz q=>?_) λr y l hr=>jM (.r _ _ _ hr)
 .dsimp only;split
  .exact Vi H hl (x:=⟨_,_,_,z.m-1,_,_,z.g⟩) ⟨q.m,q.p,q.q,q.r⟩
  .exact Vi H hl q
 .refine jL (zl (jM ?_));exact Lp.y (t:=L4) (v:=λx=>sg st x.g) ⟨_,_,_,z.m+1,0,0,z.m+1⟩ ⟨q.m,q.p,q.q,q.r⟩
def LF(C:Bm prog w A s κ P lt)(ha:∀x,x∈a->P x)(hb:∀x,x∈b->P x)(hk:kindOf st=κ)(sa:zD lt a.toList)(sb:zD lt b.toList)
  (L:0<a.size) (nb:0<b.size) (B:∀x,b[0]?=some x->∀y∈a.toList,lt y x=false) (hl:∀i,i+1=a.size->∀x∈b.toList,∀y∈a.toList.drop i,lt y x=false)
  (h:∀r g,VY lt a b r->Q r (sg st g)):wpS (jN prog w) A E s (Gf a b) Q st:=by
 rw[LA];refine jL (yD ?_);have l:b[0]?=some b[0]:=ae nb;refine jL (qe l ?_);have G:MI lt a b #[] 0 0:=⟨aT _,aT _,by simp,by simp[zD],by simp,by simp⟩
 have t:MI lt a b #[b[0]] 0 1:=G.pushB sb l λy H=>B _ l y (by simpa using H)
 by_cases u:1=b.size
 .rw[pB (by simp[←u])]
  exact jM (h _ (kZ st) (t.endB sa u))
 rw[oZ (by simpa using u)]
 by_cases z:0+1=a.size
 .rw[pB (by simp[←z])]
  exact jM (h _ (kZ st) (t.lastA sa sb λx I=>hl 0 z x (bH I)))
 rw[oZ (by simpa using z)]
 refine jL (kL ?_);exact zd L4 (λx=>sg st x.g) (λi=>ML lt a b (i+1)) (λ_=>False) Q ⟨_,0,1,_,0,0,kZ st⟩ ⟨t,by dsimp only;lia,by dsimp only;lia,by dsimp only;lia⟩ (λi x q=>acA ⟨C,ha,hb,hk,sa,sb,h⟩ hl q) (λx h=>by have:=h.p;have:=h.q;have:=h.r;lia) (λx h=>h.elim) λr y J hr=>jM hr
end
structure MH (lt:jK->jK->Bool)(a b out:Array jK)(na nb:Nat):Prop where
 la:na<=a.size
 lb:nb<=b.size
 pm:((a.toList.take na++b.toList.take nb)++out.toList.reverse).Perm (a.toList++b.toList)
 so:zD lt out.toList.reverse
 ua:∀x∈a.toList.take na,∀y∈out.toList,lt y x=false
 ub:∀x∈b.toList.take nb,∀y∈out.toList,lt y x=false
section
variable {lt:jK->jK->Bool}{a b out out':Array jK}{na nb k:Nat}
def MH.congr(m:MH lt a b out na nb)(e:out'.toList=out.toList):MH lt a b out' na nb:=⟨m.la,m.lb,by rw[e];exact m.pm,by rw[e];exact m.so,by rw[e];exact m.ua,by rw[e];exact m.ub⟩
noncomputable def CZ(l:List jK)(k n:Nat)(h:k<=n):l.take n=l.take k++(l.take n).drop k:=by
 have e:(l.take n).take k=l.take k:=by rw[List.take_take,dG h]
 rw[←e,aR]
noncomputable def rG(a:Array jK)(k n:Nat):(a.extract k n).toList=(a.toList.take n).drop k:=by
 rw[fS,eX,List.drop_take]
def DG(a:Array jK)(n:Nat):(a.extract 0 n).toList=a.toList.take n:=by
 rw[rG,eT]
def MH.moreA(m:MH lt a b out na nb)(sa:zD lt a.toList)(hk:k<=na)(h:∀x∈b.toList.take nb,∀y∈(a.toList.take na).drop k,lt y x=false):MH lt a b (out++(a.extract k na).reverse) k nb:=by
 have e:(out++(a.extract k na).reverse).toList=out.toList++((a.toList.take na).drop k).reverse:=by rw[aL,cY,rG]
 have t:(out++(a.extract k na).reverse).toList.reverse=(a.toList.take na).drop k++out.toList.reverse:=by rw[e,iA,ir]
 have c:=CZ a.toList k na hk;have u:zD lt (a.toList.take na):=sa.sublist (bj _ _);have s:=u;rw[c]at s;obtain⟨E,z,B⟩:=aM.mp s;have sub:∀y,y∈(a.toList.take na).drop k->y∈a.toList.take na:=λy l=>bH l
 refine⟨bX hk m.la,m.lb,?_,?_,?_,?_⟩
 .rw[t];refine bY.trans ?_ m.pm;rw[←ag];refine bY.append_right _ ?_
  conv=>rhs;rw[c]
  rw[ag,ag];exact bY.append_left _ bD
 .rw[t];exact aM.mpr ⟨z,m.so,λx n y l=>m.ua x (sub x n) y (cm.mp l)⟩
 .rw[e];intro x n y l;rcases mAq.mp l with l|l
  .exact m.ua x (by rw[c];exact bG _ n) y l
  .exact B x n y (cm.mp l)
 .rw[e];intro x n y l;rcases mAq.mp l with l|l
  .exact m.ub x n y l
  .exact h x n y (cm.mp l)
def MH.moreB(m:MH lt a b out na nb)(sb:zD lt b.toList)(hk:k<=nb)(h:∀x∈a.toList.take na,∀y∈(b.toList.take nb).drop k,lt y x=false):MH lt a b (out++(b.extract k nb).reverse) na k:=by
 have e:(out++(b.extract k nb).reverse).toList=out.toList++((b.toList.take nb).drop k).reverse:=by rw[aL,cY,rG]
 have t:(out++(b.extract k nb).reverse).toList.reverse=(b.toList.take nb).drop k++out.toList.reverse:=by rw[e,iA,ir]
 have c:=CZ b.toList k nb hk;have u:zD lt (b.toList.take nb):=sb.sublist (bj _ _);have s:=u;rw[c]at s;obtain⟨E,z,B⟩:=aM.mp s;have sub:∀y,y∈(b.toList.take nb).drop k->y∈b.toList.take nb:=λy l=>bH l
 refine⟨m.la,bX hk m.lb,?_,?_,?_,?_⟩
 .rw[t];refine bY.trans ?_ m.pm;rw[←ag];refine bY.append_right _ ?_
  conv=>rhs;rw[c]
  rw[ag]
 .rw[t];exact aM.mpr ⟨z,m.so,λx n y l=>m.ub x (sub x n) y (cm.mp l)⟩
 .rw[e];intro x n y l;rcases mAq.mp l with l|l
  .exact m.ua x n y l
  .exact h x n y (cm.mp l)
 .rw[e];intro x n y l;rcases mAq.mp l with l|l
  .exact m.ub x (by rw[c];exact bG _ n) y l
  .exact B x n y (cm.mp l)
noncomputable def Ac{l:List jK}{i:Nat}{x:jK}(h:l[i]?=some x):(l.take (i+1)).drop i=[x]:=by
 rw[dQ,h,jc];have hl:(l.take i).length=i:=by
  have:=(gSq.mp h).1;rw[lTq];lia
 rw[dk (by lia),hl,cw]
 rfl
def MH.pushA{x:jK}(m:MH lt a b out (na+1) nb)(sa:zD lt a.toList)(s:a[na]?=some x)(h:∀y∈b.toList.take nb,lt x y=false):MH lt a b (out.push x) na nb:=by
 have l:a.toList[na]?=some x:=by rw[aH];exact s
 refine(m.moreA sa (k:=na) (cL _) λz t y n=>?_).congr ?_
 .rw[Ac l,mSq]at n;rw[n];exact h z t
 .rw[eO,aL,cY,rG,Ac l];rfl
def MH.pushB{x:jK}(m:MH lt a b out na (nb+1))(sb:zD lt b.toList)(s:b[nb]?=some x)(h:∀y∈a.toList.take na,lt x y=false):MH lt a b (out.push x) na nb:=by
 have l:b.toList[nb]?=some x:=by rw[aH];exact s
 refine(m.moreB sb (k:=nb) (cL _) λz t y n=>?_).congr ?_
 .rw[Ac l,mSq]at n;rw[n];exact h z t
 .rw[eO,aL,cY,rG,Ac l];rfl
def MH.end(m:MH lt a b out na nb)(sa:zD lt a.toList)(sb:zD lt b.toList)(e:na=0∨nb=0):VY lt a b (a.extract 0 na++b.extract 0 nb++out.reverse):=by
 have n:(a.extract 0 na++b.extract 0 nb++out.reverse).toList=(a.toList.take na++b.toList.take nb)++out.toList.reverse:=by
  rw[aL,aL,DG,DG,cY]
 refine⟨by rw[n];exact m.pm,?_⟩
 rw[n];refine aM.mpr ⟨?_,m.so,λx l y s=>?_⟩
 .rcases e with rfl|rfl
  .rw[jv,bA];exact sb.sublist (bj _ _)
  .rw[jv,aNq];exact sa.sublist (bj _ _)
 .rcases mAq.mp l with l|l
  .exact m.ua x l y (cm.mp s)
  .exact m.ub x l y (cm.mp s)
def MH.firstB(m:MH lt a b out na nb)(sa:zD lt a.toList)(sb:zD lt b.toList)(h:∀x∈b.toList.take nb,∀y∈a.toList.take na,lt y x=false):VY lt a b (b.extract 0 nb++a.extract 0 na++out.reverse):=by
 have n:(b.extract 0 nb++a.extract 0 na++out.reverse).toList=(b.toList.take nb++a.toList.take na)++out.toList.reverse:=by
  rw[aL,aL,DG,DG,cY]
 refine⟨?_,?_⟩
 .rw[n];exact(bY.append_right _ bD).trans m.pm
 .rw[n];refine aM.mpr ⟨aM.mpr ⟨sb.sublist (bj _ _),sa.sublist (bj _ _),h⟩,m.so,λx l y s=>?_⟩
  rcases mAq.mp l with l|l
  .exact m.ub x l y (cm.mp s)
  .exact m.ua x l y (cm.mp s)
end
noncomputable def Gj:Array jK->Array jK->StateT SortSt Sem (Array jK):=sortPriv% PySem.Builtin.mergeHi
section
variable (a b:Array jK)
noncomputable abbrev dH(o:Array jK)(i j:Nat):=a.extract 0 i++b.extract 0 j++o.reverse
noncomputable abbrev fH(o:Array jK)(i j:Nat):=b.extract 0 j++a.extract 0 i++o.reverse
noncomputable abbrev SH(α:Type):=ForInStep (Option (Array jK)×Nat×Nat×Array jK×α)
def hiC(o:Array jK)(i j m k l:Nat):StateT SortSt Sem (SH (Nat×Nat×Nat)):=do
 let x ←kr a (i-1)
 if i-1 == 0 then pure (.done (some (dH a b (o.push x) (i-1) j),i-1,j,o.push x,m,k,l))
 else if decide (k<7) && decide (l<7)then pure (.done (none,i-1,j,o.push x,m,k,l))
 else pure (.yield (none,i-1,j,o.push x,m,k,l))
def hiB(o:Array jK)(i j m k q:Nat):StateT SortSt Sem (SH (Nat×Nat×Nat)):=do
 let x ←kr b (j-1)
 if j-1 == 1 then pure (.done (some (fH a b (o.push x) i (j-1)),i,j-1,o.push x,m,k,q))
 else do
  let y ←kr a (i-1)
  match ←yw true y b 0 (j-1) (j-1-1)with
  |some l=>
   if j-1-l>0 then
    if l == 1 then pure (.done (some (fH a b (o.push x++(b.extract l (j-1)).reverse) i l),i,l,o.push x++(b.extract l (j-1)).reverse,m,k,j-1-l))
    else if l == 0 then pure (.done (some (dH a b (o.push x++(b.extract l (j-1)).reverse) i l),i,l,o.push x++(b.extract l (j-1)).reverse,m,k,j-1-l))
    else hiC a b (o.push x++(b.extract l (j-1)).reverse) i l m k (j-1-l)
   else hiC a b (o.push x) i (j-1) m k (j-1-l)
  |_=>pure (.done (some (dH a b (o.push x) i (j-1)),i,j-1,o.push x,m,k,q))
def hiA(o:Array jK)(i j m p q:Nat):StateT SortSt Sem (SH (Nat×Nat×Nat)):=do
 sS m
 let x ←kr b (j-1)
 match ←yw false x a 0 i (i-1)with
 |some k=>
  if i-k>0 then
   if k == 0 then pure (.done (some (dH a b (o++(a.extract k i).reverse) k j),k,j,o++(a.extract k i).reverse,m,i-k,q))
   else hiB a b (o++(a.extract k i).reverse) k j m (i-k) q
  else hiB a b o i j m (i-k) q
 |_=>pure (.done (some (dH a b o i j),i,j,o,m,p,q))
def VT(m:Nat)(o:Array jK)(i j p q:Nat):StateT SortSt Sem (SH (Nat×Nat)):=do
 let y ←kr b (j-1)
 let x ←kr a (i-1)
 match ←lt' y x with
 |some c=>
  if c then do
   let z ←kr a (i-1)
   if i-1 == 0 then pure (.done (some (dH a b (o.push z) (i-1) j),i-1,j,o.push z,p+1,0))
   else if p+1 ≥ m then pure (.done (none,i-1,j,o.push z,p+1,0))
   else pure (.yield (none,i-1,j,o.push z,p+1,0))
  else do
   let z ←kr b (j-1)
   if j-1 == 1 then pure (.done (some (fH a b (o.push z) i (j-1)),i,j-1,o.push z,0,q+1))
   else if q+1 ≥ m then pure (.done (none,i,j-1,o.push z,0,q+1))
   else pure (.yield (none,i,j-1,o.push z,0,q+1))
 |_=>pure (.done (some (dH a b o i j),i,j,o,p,q))
def hi0(o:Array jK)(i j m:Nat):StateT SortSt Sem (SH Nat):=do
 let r ←forIn [0:a.size+b.size] (none,i,j,o,0,0) λ_ s=>VT a b m s.2.2.2.1 s.2.1 s.2.2.1 s.2.2.2.2.1 s.2.2.2.2.2
 Break.runK.match_1 (λ_=>StateT SortSt Sem (SH Nat)) r.1 (λv=>pure (.done (some v,r.2.1,r.2.2.1,r.2.2.2.1,m))) λ_=>do
  rule "list.sort.gallop"
  let r ←forIn [0:a.size+b.size] (none,r.2.1,r.2.2.1,r.2.2.2.1,m+1,r.2.2.2.2.1,r.2.2.2.2.2) λ_ s=>if s.2.2.2.2.1>1 then hiA a b s.2.2.2.1 s.2.1 s.2.2.1 (s.2.2.2.2.1-1) s.2.2.2.2.2.1 s.2.2.2.2.2.2 else hiA a b s.2.2.2.1 s.2.1 s.2.2.1 s.2.2.2.2.1 s.2.2.2.2.2.1 s.2.2.2.2.2.2
  Break.runK.match_1 (λ_=>StateT SortSt Sem (SH Nat)) r.1 (λv=>pure (.done (some v,r.2.1,r.2.2.1,r.2.2.2.1,r.2.2.2.2.1))) λ_=>do
   sS (r.2.2.2.2.1+1)
   pure (.yield (none,r.2.1,r.2.2.1,r.2.2.2.1,r.2.2.2.2.1+1))
def Me:Gj a b=(do
 rule "list.sort.merge-hi"
 let x ←kr a (a.size-1)
 if a.size-1 == 0 then pure (dH a b #[x] (a.size-1) b.size)
 else if b.size == 1 then pure (fH a b #[x] (a.size-1) b.size)
 else do
  let st ←get
  let r ←forIn [0:a.size+b.size] (none,a.size-1,b.size,#[x],kZ st) λ_ s=>hi0 a b s.2.2.2.1 s.2.1 s.2.2.1 s.2.2.2.2
  Break.runK.match_1 (λ_=>StateT SortSt Sem (Array jK)) r.1 (λv=>pure v) λ_=>kR "internal:list.sort.merge-bound"):=rfl
end
section
variable {prog:jS}{w:jU}{A:Around}{E:Value->jJ->Prop}{s:jJ}{κ:km}{P:jK->Prop}{lt:jK->jK->Bool}
def Fi(C:Bm prog w A s κ P lt){a:Array jK}{i:Nat}{x:jK}(ha:∀x,x∈a->P x)(sa:zD lt a.toList)(t:a[i]?=some x):∀y∈a.toList.take (i+1),lt x y=false:=by
 obtain⟨hi,e⟩:=bw.mp t;have n:a.toList[i]?=some x:=by rw[aH];exact t
 have u:zD lt (a.toList.take (i+1)):=sa.sublist (bj _ _);rw[dQ,n]at u ⊢;intro y l;rcases mAq.mp l with l|l
 .exact(aM.mp u).2.2 y l x (by simp)
 .have:y=x:=by simpa using l
  rw[this];exact C.refl (ha _ (by rw[←e];exact aX hi))
noncomputable def xr{a:Array jK}{i:Nat}{y:jK}(h:y∈a.toList.take i):y∈a:=by simpa using bh h
def Bb{a:Array jK}{n:Nat}{x:jK}(h:x∈a.toList.take n):∃j,j<n/\a[0+j]?=some x:=by
 have l:x∈(a.toList.drop 0).take n:=by rw[eT];exact h
 exact yx l
def xM{a:Array jK}{k n:Nat}{x:jK}(h:x∈(a.toList.take n).drop k):∃j,k<=j/\j<n/\a[0+j]?=some x:=by
 obtain⟨j,l,e⟩:=cX.mp h;rw[ax,lTq,au]at l;refine⟨k+j,by lia,by lia,?_⟩
 rw[ft,gA]at e;rw[bw];exact⟨by lia,by simpa using e⟩
structure MG (lt:jK->jK->Bool)(a b:Array jK)(n:Nat)(x:Ls):Prop where
 m:MH lt a b x.o x.i x.j
 p:0<x.i
 q:1<x.j
 r:x.i+x.j+n<=a.size+b.size
noncomputable abbrev H6(x:Ls):=(x.i,x.j,x.o,x.m,x.p,x.q)
noncomputable abbrev H5(x:Ls):=(x.i,x.j,x.o,x.p,x.q)
noncomputable abbrev H4(x:Ls):=(x.i,x.j,x.o,x.m)
variable {a b:Array jK}{st:SortSt}{Q:Array jK->SortSt->Prop}{n:Nat}{x:Ls}{o:Array jK}{u v i j m k l g:Nat}
abbrev Hf(lt:jK->jK->Bool)(a b:Array jK):=∀x∈b.toList.take 1,∀y∈a.toList,lt y x=false
def hiF(H:Lo prog w A s κ P lt a b st Q)(t:Hf lt a b)(m:MH lt a b o i 1):Q (b.extract 0 1++a.extract 0 i++o.reverse) (sg st g):=H.h _ _ (m.firstB H.sa H.sb λx z y B=>t x z y (bh B))
def Sj(H:Lo prog w A s κ P lt a b st Q)(q:MG lt a b n ⟨o,u+1,j,m,k,l,g⟩)(hi:∀z,a[u]?=some z->∀y∈b.toList.take j,lt z y=false) :
  wpS (jN prog w) A E s (hiC a b o (u+1) j m k l) (Lp H6 (λx=>sg st x.g) (MG lt a b n) (MG lt a b n) Q) (sg st g):=by
 dsimp only[hiC,eY];have B:a[u]?=some (a[u]'q.m.la):=ae q.m.la;refine jL (qe B ?_);have G:=q.m.pushA H.sa B (hi _ B)
 by_cases t:u=0
 .rw[pB (by simp[t])]
  exact jM (.r _ _ _ (H.h _ _ (G.end H.sa H.sb (.inl t))))
 rw[oZ (by simpa using t)]
 have R:MG lt a b n ⟨_,_,_,m,k,l,g⟩:=⟨G,gc t,q.q,by have:=q.r;dsimp only at *;lia⟩
 split
 .exact jM (.d _ R)
 .exact jM (.y _ R)
def T8(H:Lo prog w A s κ P lt a b st Q)(Y:Hf lt a b)(q:MG lt a b n ⟨o,u+1,v+1,m,k,l,g⟩)(hi:∀z,b[v]?=some z->∀y∈a.toList.take (u+1),lt z y=false) :
  wpS (jN prog w) A E s (hiB a b o (u+1) (v+1) m k l) (Lp H6 (λx=>sg st x.g) (MG lt a b n) (MG lt a b n) Q) (sg st g):=by
 dsimp only[hiB,eY];have la:u<a.size:=q.m.la;have lb:v<b.size:=q.m.lb;have p2:1<v+1:=q.q;have p3:u+1+(v+1)+n<=a.size+b.size:=q.r;have I:b[v]?=some b[v]:=ae lb;refine jL (qe I ?_);have J:=q.m.pushB H.sb I (hi _ I)
 by_cases L:v=1
 .rw[pB (by simp[L])]
  subst L;exact jM (.r _ _ _ (hiF H Y J))
 rw[oZ (by simpa using L)]
 have M:a[u]?=some a[u]:=ae la;have G:=H.ha _ (aX la);refine jL (qe M (jL (vH H.C (base:=0) (n:=v) (by lia) (by lia) H.hb G H.hk (C8 H.C (by lia) H.hb G (by rw[eT];exact H.sb)) λl l1 l2 l3=>?_)))
 have hB:∀z,a[u]?=some z->∀y∈b.toList.take l,lt z y=false:=λz hz y B=>by
  obtain⟨O,t,R⟩:=Bb B;have q:=l2 O t;rw[uV R,pB rfl]at q;rw[M]at hz;cases hz;exact H.C.asym _ _ (H.hb _ (xr B)) G q
 dsimp only
 by_cases cl:v-l>0
 .rw[pB cl];have S:=J.moreB H.sb (k:=l) l1 λx hx y B=>by
   obtain⟨O,T,t,R⟩:=xM B;have q:=l3 O T t;rw[uV R,pB rfl]at q;exact H.C.trans _ _ _ (H.ha _ (xr hx)) G (H.hb y (bH B |> xr)) (Fi H.C H.ha H.sa M x hx) q
  by_cases U:l=1
  .rw[pB (by simp[U])]
   subst U;exact jM (.r _ _ _ (hiF H Y S))
  rw[oZ (by simpa using U)]
  by_cases X:l=0
  .rw[pB (by simp[X])]
   exact jM (.r _ _ _ (H.h _ _ (S.end H.sa H.sb (.inr X))))
  rw[oZ (by simpa using X)]
  exact Sj H ⟨S,q.p,by dsimp only;lia,by dsimp only;lia⟩ hB
 .rw[oZ cl];have:l=v:=by lia
  subst this;exact Sj H ⟨J,q.p,by dsimp only;lia,by dsimp only;lia⟩ hB
def Sm(H:Lo prog w A s κ P lt a b st Q)(R:Hf lt a b)(q:MG lt a b n x) :
  wpS (jN prog w) A E s (hiA a b x.o x.i x.j x.m x.p x.q) (Lp H6 (λx=>sg st x.g) (MG lt a b n) (MG lt a b n) Q) (sg st x.g):=by
 obtain⟨o,i,j,m,p,q',g⟩:=x;have la:i<=a.size:=q.m.la;have p1:0<i:=q.p;have S:1<j:=q.q;have p3:i+j+n<=a.size+b.size:=q.r;obtain⟨v,rfl⟩:∃v,j=v+1:=⟨j-1,by lia⟩
 have lb:v<b.size:=q.m.lb;dsimp only[hiA,eY];have I:b[v]?=some b[v]:=ae lb;have B:=H.hb _ (aX lb);refine jL (zl (jL (qe I (jL (vH H.C (base:=0) (n:=i) (by lia) (by lia) H.ha B H.hk (C8 H.C (by lia) H.ha B (by rw[eT];exact H.sa)) λk k1 k2 k3=>?_)))))
 have T:∀z,b[v]?=some z->∀y∈a.toList.take k,lt z y=false:=λz U y G=>by
  obtain⟨J,t,L⟩:=Bb G;have q:=k2 J t;rw[uV L,oZ (by decide)]at q
  rw[I]at U;cases U;simpa using q
 dsimp only
 by_cases X:i-k>0
 .rw[pB X];have Y:=q.m.moreA H.sa (k:=k) k1 λx hx y G=>by
   obtain⟨J,M,t,L⟩:=xM G;have q:=k3 J M t;rw[uV L,oZ (by decide)]at q
   have py:=H.ha y (bH G |> xr);exact H.C.trans _ _ _ (H.hb _ (xr hx)) B py (Fi H.C H.hb H.sb I x hx) (H.C.asym _ _ B py (by simpa using q))
  by_cases O:k=0
  .rw[pB (by simp[O])]
   exact jM (.r _ _ _ (H.h _ m (Y.end H.sa H.sb (.inl O))))
  rw[oZ (by simpa using O)]
  obtain⟨u,rfl⟩:∃u,k=u+1:=⟨k-1,by lia⟩
  exact T8 H R (g:=m) ⟨Y,Nat.succ_pos _,S,by dsimp only;lia⟩ T
 .rw[oZ X];have:k=i:=by lia
  subst this;obtain⟨u,rfl⟩:∃u,k=u+1:=⟨k-1,by lia⟩
  exact T8 H R (g:=m) ⟨q.m,p1,S,p3⟩ T
def abG(H:Lo prog w A s κ P lt a b st Q)(M:Hf lt a b)(q:MG lt a b (n+j) x) :
  wpS (jN prog w) A E s (VT a b m x.o x.i x.j x.p x.q) (Lp H5 (λx=>sg st x.g) (MG lt a b (n+(j+1))) (MG lt a b (n+1)) Q) (sg st x.g):=by
 obtain⟨o,i,k,U,p,O,g⟩:=x;have S:0<i:=q.p;have T:1<k:=q.q;have X:i+k+(n+j)<=a.size+b.size:=q.r;obtain⟨u,rfl⟩:∃u,i=u+1:=⟨i-1,by lia⟩
 obtain⟨v,rfl⟩:∃v,k=v+1:=⟨k-1,by lia⟩
 have la:u<a.size:=q.m.la;have lb:v<b.size:=q.m.lb;dsimp only[VT,eY];have G:a[u]?=some a[u]:=ae la;have I:b[v]?=some b[v]:=ae lb;have J:=H.ha _ (aX la);have L:=H.hb _ (aX lb);refine jL (qe I (jL (qe G (jL (H.C.cmp L J H.hk ?_)))));cases e:lt b[v] a[u]with
 |true=>
  dsimp only;rw[pB rfl];refine jL (qe G ?_);have z:=q.m.pushA H.sa G λy B=>H.C.trans _ _ _ (H.hb _ (xr B)) L J (Fi H.C H.hb H.sb I y B) (H.C.asym _ _ L J e)
  by_cases t:u=0
  .rw[pB (by simp[t])]
   exact jM (.r _ _ _ (H.h _ _ (z.end H.sa H.sb (.inl t))))
  rw[oZ (by simpa using t)]
  have R:∀n,u+(v+1)+n<=a.size+b.size->MG lt a b n ⟨_,_,_,0,p+1,0,g⟩:=λn hn=>⟨z,gc t,T,hn⟩
  split
  .exact jM (.d _ (R _ (by lia)))
  .exact jM (.y _ (R _ (by lia)))
 |false=>
  dsimp only;rw[oZ (by decide)]
  refine jL (qe I ?_);have z:=q.m.pushB H.sb I λy B=>H.C.trans _ _ _ (H.ha _ (xr B)) J L (Fi H.C H.ha H.sa G y B) e
  by_cases t:v=1
  .rw[pB (by simp[t])]
   subst t;exact jM (.r _ _ _ (hiF H M z))
  rw[oZ (by simpa using t)]
  have R:∀n,u+1+v+n<=a.size+b.size->MG lt a b n ⟨_,_,_,0,0,O+1,g⟩:=λn hn=>⟨z,S,by dsimp only;lia,hn⟩
  split
  .exact jM (.d _ (R _ (by lia)))
  .exact jM (.y _ (R _ (by lia)))
def aaC(H:Lo prog w A s κ P lt a b st Q)(B:Hf lt a b)(q:MG lt a b n x) :
  wpS (jN prog w) A E s (hi0 a b x.o x.i x.j x.m) (Lp H4 (λx=>sg st x.g) (MG lt a b (n+1)) (λ_=>False) Q) (sg st x.g):=by
 refine zd H5 (λx=>sg st x.g) (λj=>MG lt a b (n+j)) (MG lt a b (n+1)) Q ⟨x.o,x.i,x.j,0,0,0,x.g⟩ ⟨q.m,q.p,q.q,q.r⟩ (λj x q=>abG H B q) (λy h=>⟨h.m,h.p,h.q,by have:=h.r;have:=h.p;have:=h.q;lia⟩) (λy q=>?_) λr y G hr=>jM (.r _ _ _ hr)
 refine jL (yD ?_);refine zd H6 (λx=>sg st x.g) (λ_=>MG lt a b (n+1)) (MG lt a b (n+1)) Q ⟨y.o,y.i,y.j,x.m+1,y.p,y.q,y.g⟩ ⟨q.m,q.p,q.q,q.r⟩ (λj z q=>?_) (λ_ h=>h) (λz q=>?_) λr y G hr=>jM (.r _ _ _ hr)
 .dsimp only;split
  .exact Sm H B (x:=⟨_,_,_,z.m-1,_,_,z.g⟩) ⟨q.m,q.p,q.q,q.r⟩
  .exact Sm H B q
 .refine jL (zl (jM ?_));exact Lp.y (t:=H4) (v:=λx=>sg st x.g) ⟨_,_,_,z.m+1,0,0,z.m+1⟩ ⟨q.m,q.p,q.q,q.r⟩
def K8(C:Bm prog w A s κ P lt)(ha:∀x,x∈a->P x)(hb:∀x,x∈b->P x)(hk:kindOf st=κ)(sa:zD lt a.toList)(sb:zD lt b.toList)
  (L:0<a.size) (M:0<b.size) (J:∀x∈b.toList.take 1,∀y∈a.toList,lt y x=false) (hl:∀x,a[a.size-1]?=some x->∀y∈b.toList,lt x y=false)
  (h:∀r g,VY lt a b r->Q r (sg st g)):wpS (jN prog w) A E s (Gj a b) Q st:=by
 have H:Lo prog w A s κ P lt a b st Q:=⟨C,ha,hb,hk,sa,sb,h⟩;rw[Me];refine jL (yD ?_);have t:a[a.size-1]?=some (a[a.size-1]'(by lia)):=ae (by lia)
 refine jL (qe t ?_);have O:MH lt a b #[] (a.size-1+1) b.size:=⟨by lia,aa _,by
  rw[show a.size-1+1=a.toList.length by simp;lia,aY,←au,aY];simp,by simp[zD],by simp,by simp⟩
 have G:MH lt a b #[a[a.size-1]'(by lia)] (a.size-1) b.size:=O.pushA sa t λy R=>hl _ t y (bh R)
 by_cases B:a.size-1=0
 .rw[pB (by simp[B])]
  exact jM (h _ (kZ st) (G.end sa sb (.inl B)))
 rw[oZ (by simpa using B)]
 by_cases I:b.size=1
 .rw[pB (by simp[I])]
  have z:=G;rw[I]at z ⊢;exact jM (hiF H J (g:=kZ st) z)
 rw[oZ (by simpa using I)]
 refine jL (kL ?_);exact zd H4 (λx=>sg st x.g) (λi=>MG lt a b (i+1)) (λ_=>False) Q ⟨_,a.size-1,b.size,_,0,0,kZ st⟩ ⟨G,gc B,show 1<b.size by lia,show a.size-1+b.size+1<=a.size+b.size by lia⟩ (λi x q=>aaC H J q) (λx h=>by have:=h.p;have:=h.q;have:=h.r;lia) (λx h=>h.elim) λr y S hr=>jM hr
end
def B4(lt:jK->jK->Bool)(xs:Array jK)(i j:Nat):Prop:=∀p q x y,i<=p->p<=q->q<j->xs[p]?=some x->xs[q]?=some y->lt y x=false
def VU(lt:jK->jK->Bool)(xs:Array jK)(i j:Nat):Prop:=∀p q x y,i<=p->p<=q->q<j->xs[p]?=some x->xs[q]?=some y->lt x y=false
def Eqv(lt:jK->jK->Bool)(xs:Array jK)(i j:Nat):Prop:=∀p q x y,i<=p->p<j->i<=q->q<j->xs[p]?=some x->xs[q]?=some y->lt x y=false
section
variable {lt:jK->jK->Bool}{xs:Array jK}{i j lo n:Nat}
def NO(l:j<=xs.size)(h:VU lt xs i j):B4 lt (mirror xs i j ((j-i) / 2)) i j:=by
 intro p q x y t z u ex s;rw[kM l,pB ⟨t,by lia⟩]at ex
 rw[kM l,pB ⟨by lia,u⟩]at s
 exact h _ _ _ _ (by lia) (by lia) (by lia) s ex
def B7(B:j<=xs.size)(hi:lo<=i)(hn:j<=n)(e:Eqv lt xs i j)(h:VU lt xs lo n):VU lt (mirror xs i j ((j-i) / 2)) lo n:=by
 intro p q x y t E u ex l;rw[kM B]at ex l
 by_cases z:i<=p/\p<j
 .rw[pB z]at ex
  by_cases s:i<=q/\q<j
  .rw[pB s]at l;exact e _ _ _ _ (by lia) (by lia) (by lia) (by lia) ex l
  .rw[oZ s]at l;exact h _ _ _ _ (by lia) (by lia) u ex l
 .rw[oZ z]at ex
  by_cases s:i<=q/\q<j
  .rw[pB s]at l;exact h _ _ _ _ t (by lia) (by lia) ex l
  .rw[oZ s]at l;exact h _ _ _ _ t E u ex l
end
section
variable (lo:Nat)
def crA(n:Nat):StateT SortSt Sem (ForInStep (Option (Option Nat)×Nat)):=do
 match ←ltAt' (lo+n) (lo+n-1)with
 |some c=>if c then pure (.done (none,n))else pure (.yield (none,n+1))
 |_=>pure (.done (some none,n))
def crB(n q:Nat):StateT SortSt Sem (ForInStep (Option (Option Nat)×Nat×Nat)):=do
 match ←ltAt' (lo+n) (lo+n-1)with
 |some c=>
  if c then
   if q>0 then do
    let _ ←kT (lo+n-(q+1)) (lo+n)
    pure (.yield (none,n+1,0))
   else pure (.yield (none,n+1,0))
  else do
   match ←ltAt' (lo+n-1) (lo+n)with
   |some c=>if c then pure (.done (none,n,q))else pure (.yield (none,n+1,q+1))
   |_=>pure (.done (some none,n,q))
 |_=>pure (.done (some none,n,q))
def crZ(l n:Nat):StateT SortSt Sem (Option Nat):=do
 kT lo (lo+n)
 let r ←forIn [n:l] (none,n) λ_ s=>crA lo s.2
 Break.runK.match_1 (λ_=>StateT SortSt Sem (Option Nat)) r.1 (λv=>pure v) λ_=>pure (some r.2)
def crD(l n:Nat):StateT SortSt Sem (Option Nat):=do
 rule "list.sort.descending-run"
 let r ←forIn [n+1:l] (none,n+1,0) λ_ s=>crB lo s.2.1 s.2.2
 Break.runK.match_1 (λ_=>StateT SortSt Sem (Option Nat)) r.1 (λv=>pure v) λ_=>
  if r.2.2>0 then do
   let _ ←kT (lo+r.2.1-(r.2.2+1)) (lo+r.2.1)
   crZ lo l r.2.1
  else crZ lo l r.2.1
def aeC(l:Nat):countRun' lo l=(do
 let r ←forIn [1:l] (none,1) λ_ s=>crA lo s.2
 Break.runK.match_1 (λ_=>StateT SortSt Sem (Option Nat)) r.1 (λv=>pure v) λ_=>
  if r.2 == l then pure (some r.2)
  else if r.2>1 then do
   match ←ltAt' lo (lo+r.2-1)with
   |some c=>
    if c then pure (some r.2)
    else do
     let _ ←kT lo (lo+r.2)
     crD lo l r.2
   |_=>pure none
  else crD lo l r.2):=countRun'_eq lo l
end
section
variable {prog:jS}{w:jU}{A:Around}{E:Value->jJ->Prop}{s:jJ}{κ:km}{P:jK->Prop}{lt:jK->jK->Bool}
def Wl(C:Bm prog w A s κ P lt){xs:Array jK}(n:∀x,x∈xs->P x)(lo:Nat):B4 lt xs lo (lo+1):=by
 intro p q x y t u z ex l;have e:p=q:=by lia
 subst e;rw[ex]at l;cases l;exact C.refl (n _ (aQq ex))
def SC(C:Bm prog w A s κ P lt){xs:Array jK}(t:∀x,x∈xs->P x){lo n:Nat}(h:B4 lt xs lo (lo+(n+1)))(B:∀x y,xs[lo+(n+1)]?=some x->xs[lo+n]?=some y->lt x y=false)(hz:lo+(n+1)<xs.size):B4 lt xs lo (lo+(n+2)):=by
 intro p q x y z G J ex l
 by_cases c:q<lo+(n+1)
 .exact h p q x y z G c ex l
 .have H:q=lo+(n+1):=by lia
  subst H
  by_cases I:p=lo+(n+1)
  .subst I;rw[ex]at l;cases l;exact C.refl (t _ (aQq ex))
  .have u:xs[lo+n]?=some (xs[lo+n]'(by lia)):=ae (by lia)
   exact C.trans _ _ _ (t _ (aQq ex)) (t _ (aQq u)) (t _ (aQq l)) (h p (lo+n) _ _ z (by lia) (by lia) ex u) (B _ _ l u)
def L3(C:Bm prog w A s κ P lt){xs:Array jK}(t:∀x,x∈xs->P x){lo n:Nat}(h:VU lt xs lo (lo+(n+1)))(B:∀x y,xs[lo+(n+1)]?=some x->xs[lo+n]?=some y->lt y x=false)(hz:lo+(n+1)<xs.size):VU lt xs lo (lo+(n+2)):=by
 intro p q x y z G J ex l
 by_cases c:q<lo+(n+1)
 .exact h p q x y z G c ex l
 .have H:q=lo+(n+1):=by lia
  subst H
  by_cases I:p=lo+(n+1)
  .subst I;rw[ex]at l;cases l;exact C.refl (t _ (aQq ex))
  .have u:xs[lo+n]?=some (xs[lo+n]'(by lia)):=ae (by lia)
   exact C.trans _ _ _ (t _ (aQq l)) (t _ (aQq u)) (t _ (aQq ex)) (B _ _ l u) (h p (lo+n) _ _ z (by lia) (by lia) ex u)
def LY(C:Bm prog w A s κ P lt){lo l a:Nat}{st:SortSt}(J:∀x,x∈jV st->P x)(hk:kindOf st=κ)(ha:1<=a)(u:a<=l)(hz:lo+l<=(jV st).size)(O:B4 lt (jV st) lo (lo+a)) :
  wpS (jN prog w) A E s (forIn [a:l] ((none,a):Option (Option Nat)×Nat) λ_ s=>crA lo s.2)
   (λc t=>∃n,c=(none,n)/\t=st/\a<=n/\n<=l/\B4 lt (jV st) lo (lo+n)/\(n=l∨∃x y,(jV st)[lo+n]?=some x/\(jV st)[lo+n-1]?=some y/\lt x y=true)) st:=by
 refine ke (I:=λi c t=>c=(none,i)/\t=st/\a<=i/\i<=l/\B4 lt (jV st) lo (lo+i)) ?step ?fin ⟨rfl,rfl,aa _,u,O⟩
 case step=>
  rintro i c t S Q ⟨rfl,rfl,G,L,z⟩;obtain⟨k,rfl⟩:∃k,i=k+1:=⟨i-1,by lia⟩
  have ex:(jV t)[lo+(k+1)]?=some ((jV t)[lo+(k+1)]'(by lia)):=ae (by lia)
  have H:(jV t)[lo+(k+1)-1]?=some ((jV t)[lo+k]'(by lia)):=ae (by lia)
  refine jL (C.at ex H (J _ (aQq ex)) (J _ (aQq H)) hk ?_);cases e:lt ((jV t)[lo+(k+1)]'(by lia)) ((jV t)[lo+k]'(by lia))with
  |true=>exact jM ⟨_,rfl,rfl,G,L,z,.inr ⟨_,_,ex,H,e⟩⟩
  |false=>
   refine jM ⟨rfl,rfl,by lia,Q,SC C J z (λx y M R=>?_) (by lia)⟩
   have B:(jV t)[lo+(k+1)-1]?=some y:=R;rw[ex]at M;rw[H]at B;cases M;cases B;exact e
 case fin=>
  rintro c t ⟨rfl,rfl,G,L,z⟩;have e:max a l=l:=jd u;rw[e]at G L z ⊢;exact⟨l,rfl,rfl,G,aa _,z,.inl rfl⟩
def E7{i j:Nat}{st:SortSt}{Q:Unit->SortSt->Prop}(h:Q () (kf st (mirror (jV st) i j ((j-i) / 2)))):wpS (jN prog w) A E s (kT i j) Q st:=by
 rw[reverseSlice'_eq];exact kG h
structure Ar (xs ys:Array jK)(lo hi:Nat):Prop where
 pm:ys.Perm xs
 out:∀k,(k<lo∨hi<=k)->ys[k]?=xs[k]?
theorem Ar.refl(xs:Array jK)(lo hi:Nat):Ar xs xs lo hi:=⟨jt.refl _,λ_ _=>rfl⟩
theorem Ar.trans{xs ys l:Array jK}{lo hi:Nat}(a:Ar xs ys lo hi)(b:Ar ys l lo hi):Ar xs l lo hi:=⟨b.pm.trans a.pm,λk h=>(b.out k h).trans (a.out k h)⟩
def Ar.mono{xs ys:Array jK}{lo hi l:Nat}(a:Ar xs ys lo hi)(h:hi<=l):Ar xs ys lo l:=⟨a.pm,λk q=>a.out k (by lia)⟩
theorem Ar.size{xs ys:Array jK}{lo hi:Nat}(a:Ar xs ys lo hi):ys.size=xs.size:=a.pm.size_eq
def Ar.mem{xs ys:Array jK}{lo hi:Nat}(a:Ar xs ys lo hi){P:jK->Prop}(h:∀x,x∈xs->P x):∀x,x∈ys->P x:=λx l=>h x (a.pm.mem_iff.mp l)
def zN{xs:Array jK}{lo hi i j:Nat}(l:j<=xs.size)(n:lo<=i)(t:j<=hi):Ar xs (mirror xs i j ((j-i) / 2)) lo hi:=
 ⟨mirror_perm _ _ _ _,λk hk=>by rw[kM l,oZ (by lia)]⟩
structure CR (lt:jK->jK->Bool)(as:Array jK)(lo i q:Nat)(ys:Array jK):Prop where
 b:Ar as ys lo (lo+i)
 d:VU lt ys lo (lo+i)
 e:Eqv lt ys (lo+i-(q+1)) (lo+i)
 p:q+1<=i
def FC(C:Bm prog w A s κ P lt){ys:Array jK}(t:∀x,x∈ys->P x){i j:Nat}(h:j<=i+1):Eqv lt ys i j:=by
 intro p q x y u g2 z B l n;have e:p=q:=by lia
 subst e;rw[l]at n;cases n;exact C.refl (t _ (aQq l))
def aa1(C:Bm prog w A s κ P lt){lo t k l:Nat}{st:SortSt}{ys:Array jK}(Q:∀x,x∈jV st->P x)(hk:kindOf st=κ)(hz:lo+t<=(jV st).size)(hi:k+1<t)(g:CR lt (jV st) lo (k+1) l ys) :
  wpS (jN prog w) A E s (crB lo (k+1) l) (λr Ko=>∃m q R,Ko=kf st R/\m<=t/\CR lt (jV st) lo m q R/\(r = .done (none,m,q)∨r = .yield (none,m,q)/\m=k+1+1)) (kf st ys):=by
 have G:=g.b;have g2:=g.d;have M:=g.e;have g4:=g.p;have n:=G.mem Q;have X:=G.size;have ex:ys[lo+(k+1)]?=some (ys[lo+(k+1)]'(by lia)):=ae (by lia)
 have z:ys[lo+(k+1)-1]?=some (ys[lo+k]'(by lia)):=ae (by lia)
 have B:=n _ (aQq ex);have py:=n _ (aQq z);have H:lt (ys[lo+k]'(by lia)) (ys[lo+(k+1)]'(by lia))=false->VU lt ys lo (lo+(k+1+1)):=λe=>L3 C n g2 (λx y S Y=>by
  have I:ys[lo+(k+1)-1]?=some y:=Y;rw[ex]at S;rw[z]at I;cases S;cases I;exact e) (by lia)
 refine jL (C.at (st:=kf st ys) ex z B py hk ?_);cases e:lt (ys[lo+(k+1)]'(by lia)) (ys[lo+k]'(by lia))with
 |true=>
  have J:=H (C.asym _ _ B py e);dsimp only;rw[pB rfl]
  by_cases cn:l>0
  .rw[pB cn];refine jL (E7 (jM ?_));have T:Ar (jV st) (mirror ys (lo+(k+1)-(l+1)) (lo+(k+1)) ((lo+(k+1)-(lo+(k+1)-(l+1))) / 2)) lo (lo+(k+1)):=G.trans (zN (by lia) (by lia) (aa _))
   exact⟨_,0,_,rfl,hi,⟨T.mono (by lia),B7 (by lia) (by lia) (by lia) M J,FC C (T.mem Q) (by lia),by lia⟩,.inr ⟨rfl,rfl⟩⟩
  .rw[oZ cn];exact jM ⟨_,0,ys,rfl,hi,⟨G.mono (by lia),J,FC C n (by lia),by lia⟩,.inr ⟨rfl,rfl⟩⟩
 |false=>
  dsimp only;rw[oZ (by decide)]
  refine jL (C.at (st:=kf st ys) z ex py B hk ?_);cases U:lt (ys[lo+k]'(by lia)) (ys[lo+(k+1)]'(by lia))with
  |true=>exact jM ⟨_,l,ys,rfl,cC hi,g,.inl rfl⟩
  |false=>
   refine jM ⟨_,l+1,ys,rfl,hi,⟨G.mono (by lia),H U,?_,by lia⟩,.inr ⟨rfl,rfl⟩⟩
   intro p q x y h1 h2 h3 h4 L u;have qx:=n _ (aQq L);have qy:=n _ (aQq u)
   by_cases cp:p=lo+(k+1)
   .subst cp;rw[ex]at L;cases L
    by_cases O:q=lo+(k+1)
    .subst O;rw[ex]at u;cases u;exact C.refl B
    .exact C.trans _ _ _ qy py B (M (lo+(k+1)-1) q _ _ (by lia) (by lia) (by lia) (by lia) z u) e
   .by_cases O:q=lo+(k+1)
    .subst O;rw[ex]at u;cases u;exact C.trans _ _ _ B py qx U (M p (lo+(k+1)-1) _ _ (by lia) (by lia) (by lia) (by lia) L z)
    .exact M p q x y (by lia) (by lia) (by lia) (by lia) L u
abbrev acY(lt:jK->jK->Bool)(st:SortSt)(lo l:Nat)(Q:Option Nat->SortSt->Prop):=∀n xs,1<=n->n<=l->Ar (jV st) xs lo (lo+n)->B4 lt xs lo (lo+n)->Q (some n) (kf st xs)
def SD(C:Bm prog w A s κ P lt){lo l m:Nat}{st:SortSt}{ys:Array jK}{Q:Option Nat->SortSt->Prop}(z:∀x,x∈jV st->P x)(hk:kindOf st=κ)(hz:lo+l<=(jV st).size)(h:acY lt st lo l Q)
  (B:1<=m) (G:m<=l) (b:Ar (jV st) ys lo (lo+m)) (d:VU lt ys lo (lo+m)):wpS (jN prog w) A E s (crZ lo l m) Q (kf st ys):=by
 refine jL (E7 ?_);have H:=b.size;have I:=NO (by lia) d
 have n:=b.trans (zN (i:=lo) (j:=lo+m) (by lia) (aa _) (aa _))
 refine jL (kj (LY (st:=kf st _) C (n.mem z) hk B G (bX hz (fj n.size.symm)) I) ?_);rintro c Ko ⟨J,rfl,rfl,L,t,u,_⟩;exact jM (h J _ (by lia) t (n.mono (by lia)) u)
def Vw(C:Bm prog w A s κ P lt){lo l n:Nat}{st:SortSt}{xs:Array jK}{Q:Option Nat->SortSt->Prop}(z:∀x,x∈jV st->P x)(hk:kindOf st=κ)(hz:lo+l<=(jV st).size)(h:acY lt st lo l Q)
  (hn:n<l) (b:Ar (jV st) xs lo (lo+n)) (d:VU lt xs lo (lo+(n+1))):wpS (jN prog w) A E s (crD lo l n) Q (kf st xs):=by
 refine jL (yD (jL (kj (ke
  (I:=λi c Ko=>∃q t,c=(none,i,q)/\Ko=kf st t/\i<=l/\CR lt (jV st) lo i q t)
  (Q:=λc Ko=>∃m q t,c=(none,m,q)/\Ko=kf st t/\m<=l/\CR lt (jV st) lo m q t)
  ?_ ?_ ⟨0,xs,rfl,rfl,hn,b.mono (by lia),d,FC C (b.mem z) (by lia),by lia⟩) ?_)))
 .rintro i c Ko _ hi ⟨q,t,rfl,rfl,_,g⟩;obtain⟨k,rfl⟩:∃k,i=k+1:=⟨i-1,by have:=g.p;lia⟩
  refine kj (aa1 C z hk hz hi g) λr Ko hr=>?_
  obtain⟨m,q,B,rfl,u,G,rfl|⟨rfl,rfl⟩⟩:=hr
  .exact⟨m,q,B,rfl,rfl,u,G⟩
  .exact⟨q,B,rfl,rfl,u,G⟩
 .rintro c Ko ⟨q,t,rfl,rfl,u,g⟩;exact⟨_,q,t,rfl,rfl,u,g⟩
 .rintro c Ko ⟨m,q,t,rfl,rfl,u,g⟩;have H:=g.b.size;have J:=g.p;dsimp only
  by_cases cn:q>0
  .rw[pB cn];exact jL (E7 (SD (st:=st) (ys:=mirror t (lo+m-(q+1)) (lo+m) ((lo+m-(lo+m-(q+1))) / 2)) C z hk hz h (by lia) u (g.b.trans (zN (by lia) (by lia) (aa _))) (B7 (by lia) (by lia) (aa _) g.e g.d)))
  .rw[oZ cn];exact SD C z hk hz h (by lia) u g.b g.d
def JF(C:Bm prog w A s κ P lt){lo t:Nat}{st:SortSt}{Q:Option Nat->SortSt->Prop}(u:∀x,x∈jV st->P x)(hk:kindOf st=κ)(h1:1<=t)(hz:lo+t<=(jV st).size)
  (h:∀n xs,1<=n->n<=t->Ar (jV st) xs lo (lo+n)->B4 lt xs lo (lo+n)->Q (some n) (kf st xs)):wpS (jN prog w) A E s (countRun' lo t) Q st:=by
 rw[aeC];refine jL (kj (LY C u hk (aa 1) h1 hz (Wl C u lo)) ?_);rintro c l ⟨n,rfl,rfl,n1,n2,G,O⟩;dsimp only;have B:Q (some n) l:=h n (jV l) n1 n2 (Ar.refl _ _ _) G
 by_cases R:n=t
 .rw[pB (by simp[R])]
  exact jM B
 rw[oZ (by simpa using R)]
 obtain⟨xb,yb,J,z,eb⟩:=O.resolve_left R;obtain⟨m,rfl⟩:∃m,n=m+1:=⟨n-1,by lia⟩
 have S:=u _ (aQq J);have H:=u _ (aQq z);have go:Eqv lt (jV l) lo (lo+(m+1))->VU lt (jV l) lo (lo+(m+1+1)):=λe1=>
  L3 C u (λp q x y T g2 U ex ey=>e1 p q x y T (by lia) (by lia) U ex ey) (λx y X hy=>by
   have L:(jV l)[lo+(m+1)-1]?=some y:=hy;rw[J]at X;rw[z]at L;cases X;cases L;exact C.asym _ _ S H eb) (by lia)
 by_cases Y:m+1>1
 .rw[pB Y];have ex:(jV l)[lo]?=some ((jV l)[lo]'(by lia)):=ae (by lia)
  have I:=u _ (aQq ex);refine jL (C.at ex z I H hk ?_);cases e:lt ((jV l)[lo]'(by lia)) yb with
  |true=>exact jM B
  |false=>
   dsimp only;rw[oZ (by decide)]
   have M:Eqv lt (jV l) lo (lo+(m+1)):=by
    intro p q x y T g2 U g4 gx gy;have px:=u _ (aQq gx);have py:=u _ (aQq gy);have q1:=G q (lo+(m+1)-1) _ _ U (by lia) (by lia) gy z
    have q2:=G lo p _ _ (aa _) T g2 ex gx;exact C.trans _ _ _ py I px (C.trans _ _ _ py H I q1 e) q2
   exact jL (E7 (Vw C u hk hz h (by lia) (zN (by lia) (aa _) (aa _)) (B7 (by lia) (aa _) (by lia) M (go M))))
 .rw[oZ Y];exact Vw C u hk hz h (by lia) (Ar.refl _ _ _) (go (FC C u (by lia)))
end
section
variable {prog:jS}{w:jU}{A:Around}{E:Value->jJ->Prop}{s:jJ}{κ:km}{P:jK->Prop}{lt:jK->jK->Bool}
def Xw(C:Bm prog w A s κ P lt){xs:Array jK}(I:∀x,x∈xs->P x){lo k l:Nat}(hz:lo+k<xs.size)(hl:l<=k)(H:B4 lt xs lo (lo+k)){x:jK}(J:xs[lo+k]?=some x)
  (Q:∀j y,j<l->xs[lo+j]?=some y->lt x y=false) (R:∀j y,l<=j->j<k->xs[lo+j]?=some y->lt x y=true):B4 lt (bubble xs (lo+k) (k-l)) lo (lo+(k+1)):=by
 have L:=I _ (aQq J);have g:∀p,(bubble xs (lo+k) (k-l))[p]?=if p=lo+l then some x else if lo+l<p/\p<=lo+k then xs[p-1]? else xs[p]?:=λp=>by
  rw[getElem?_bubble hz (k-l) (by lia) p,show lo+k-(k-l)=lo+l by lia,J]
 intro p q u v M S T t n;rw[g]at t n
 by_cases O:p=lo+l
 .rw[pB O]at t;cases t
  by_cases z:q=lo+l
  .rw[pB z]at n;cases n;exact C.refl L
  .rw[oZ z,pB ⟨by lia,by lia⟩]at n
   have pv:=I _ (aQq n);exact C.asym _ _ L pv (R (q-1-lo) v (by lia) (by lia) (by rw[show lo+(q-1-lo)=q-1 by lia];exact n))
 .rw[oZ O]at t
  by_cases B:lo+l<p/\p<=lo+k
  .rw[pB B]at t;rw[oZ (by lia),pB ⟨by lia,by lia⟩]at n
   exact H (p-1) (q-1) _ _ (by lia) (by lia) (by lia) t n
  .rw[oZ B]at t
   by_cases z:q=lo+l
   .rw[pB z]at n;cases n;exact Q (p-lo) u (by lia) (by rw[show lo+(p-lo)=p by lia];exact t)
   .rw[oZ z]at n
    by_cases G:lo+l<q/\q<=lo+k
    .rw[pB G]at n;exact H p (q-1) _ _ M (by lia) (by lia) t n
    .rw[oZ G]at n;exact H p q _ _ M S (by lia) t n
def Nn{xs:Array jK}{lo k l n:Nat}(hz:lo+k<xs.size)(hl:l<=k)(hn:k<n):Ar xs (bubble xs (lo+k) (k-l)) lo (lo+n):=
 ⟨bubble_perm _ _ _,λp t=>by rw[getElem?_bubble hz (k-l) (by lia) p,oZ (by lia),oZ (by lia)]⟩
def Vs{l n:Nat}{st:SortSt}{Q:Unit->SortSt->Prop}(h:Q () (kf st (bubble (jV st) l (l-n)))):wpS (jN prog w) A E s (moveDown' l n) Q st:=by
 rw[moveDown'_eq];exact kG h
def NP(C:Bm prog w A s κ P lt){lo n ok:Nat}{st:SortSt}{Q:Bool->SortSt->Prop}(Y:∀x,x∈jV st->P x)(hk:kindOf st=κ)(h1:1<=ok)(h2:ok<=n)(hz:lo+n<=(jV st).size)(hs:B4 lt (jV st) lo (lo+ok))
  (h:∀xs,Ar (jV st) xs lo (lo+n)->B4 lt xs lo (lo+n)->Q true (kf st xs)):wpS (jN prog w) A E s (binarySort' lo n ok) Q st:=by
 rw[binarySort'_eq];dsimp only;rw[Nat.max_eq_left h1];refine jL (kj (ke (I:=λk c u=>∃t,c=(none,())/\u=kf st t/\Ar (jV st) t lo (lo+n)/\B4 lt t lo (lo+k)/\k<=n)
  (Q:=λc u=>∃t,c=(none,())/\u=kf st t/\Ar (jV st) t lo (lo+n)/\B4 lt t lo (lo+n)) ?step ?fin ⟨jV st,rfl,rfl,Ar.refl _ _ _,hs,h2⟩) ?post)
 case fin=>
  rintro c u ⟨t,rfl,rfl,b1,B,q⟩;have e:max ok n=n:=by lia
  rw[e]at B;exact⟨t,rfl,rfl,b1,B⟩
 case post=>
  rintro c u ⟨t,rfl,rfl,b1,B⟩;exact jM (h t b1 B)
 case step=>
  rintro k c u hk1 L ⟨t,rfl,rfl,b1,B,q⟩;have z:=b1.mem Y;have hsz:=b1.size;have ex:t[lo+k]?=some (t[lo+k]'(by lia)):=ae (by lia)
  have R:=z _ (aQq ex);refine jL (kj (ke (I:=λi c u=>∃l r,c=(none,l,r)/\u=kf st t/\l<=r/\r<=k/\(∀j y,j<l->t[lo+j]?=some y->lt (t[lo+k]'(by lia)) y=false)/\(∀j y,r<=j->j<k->t[lo+j]?=some y->lt (t[lo+k]'(by lia)) y=true)/\(r-l)+i<=k)
   (Q:=λc u=>∃l r,c=(none,l,r)/\u=kf st t/\l=r/\r<=k/\(∀j y,j<l->t[lo+j]?=some y->lt (t[lo+k]'(by lia)) y=false)/\(∀j y,r<=j->j<k->t[lo+j]?=some y->lt (t[lo+k]'(by lia)) y=true))
   ?step1 ?fin1 ⟨0,k,rfl,rfl,aT _,aa _,λj y hj=>absurd hj (cG _),λj y T g2=>absurd g2 (by lia),by lia⟩) ?post1)
  case fin1=>
   rintro c u ⟨l,r,rfl,rfl,a1,G,H,J,a5⟩;exact⟨l,r,rfl,rfl,by lia,G,H,J⟩
  case step1=>
   rintro i c u _ hi ⟨l,r,rfl,rfl,a1,G,H,J,a5⟩;dsimp only
   by_cases U:l ≥ r
   .rw[pB U];exact jM ⟨l,r,rfl,rfl,by lia,G,H,J⟩
   rw[oZ U];have O:t[lo+(l+r) / 2]?=some (t[lo+(l+r) / 2]'(by lia)):=ae (by lia)
   have pm:=z _ (aQq O);refine jL (C.at (st:=kf st t) ex O R pm hk ?_);cases e:lt (t[lo+k]'(by lia)) (t[lo+(l+r) / 2]'(by lia))with
   |true=>
    dsimp only;rw[pB rfl];refine jM ⟨l,_,rfl,rfl,by lia,by lia,H,λj y T g2 M=>?_,by lia⟩
    have py:=z _ (aQq M);cases e':lt (t[lo+k]'(by lia)) y with
    |true=>rfl
    |false=>
     have q1:=B (lo+(l+r) / 2) (lo+j) _ _ (by lia) (by lia) (by lia) O M
     have X:=C.trans _ _ _ pm py R q1 e';rw[e]at X;cases X
   |false=>
    dsimp only;rw[oZ (by decide)]
    refine jM ⟨_,r,rfl,rfl,by lia,G,λj y T M=>?_,J,by lia⟩
    have py:=z _ (aQq M);exact C.trans _ _ _ py pm R (B (lo+j) (lo+(l+r) / 2) _ _ (by lia) (by lia) (by lia) M O) e
  case post1=>
   rintro c u ⟨l,r,rfl,rfl,rfl,G,H,J⟩;dsimp only;refine jL (Vs (jM ?_));have e:lo+k-(lo+l)=k-l:=by lia
   show ∃S,_/\kf st (bubble t (lo+k) (lo+k-(lo+l)))=kf st S/\_;rw[e];exact⟨_,rfl,rfl,b1.trans (Nn (by lia) G L),Xw C z (by lia) G B ex H J,L⟩
end
def tL(lt:jK->jK->Bool)(xs:Array jK):Nat->List (Nat×Nat×Nat)->Nat->Prop
 |s,[],e=>s=e
 |s,p::r,e=>p.1=s/\0<p.2.1/\B4 lt xs s (s+p.2.1)/\tL lt xs (s+p.2.1) r e
theorem uU{lt:jK->jK->Bool}{xs:Array jK}:∀{q r:List (Nat×Nat×Nat)}{s e:Nat},tL lt xs s (q++r) e↔∃m,tL lt xs s q m/\tL lt xs m r e
 | [],r,s,e=>by
  constructor
  .intro h;exact⟨s,rfl,h⟩
  .rintro⟨m,rfl,h⟩;exact h
 |p::q,r,s,e=>by
  constructor
  .rintro⟨l,n,t,u⟩;obtain⟨m,a,b⟩:=uU.mp u;exact⟨m,⟨l,n,t,a⟩,b⟩
  .rintro⟨m,⟨l,n,t,a⟩,b⟩;exact⟨l,n,t,uU.mpr ⟨m,a,b⟩⟩
theorem AU{lt:jK->jK->Bool}{xs:Array jK}:∀{q:List (Nat×Nat×Nat)}{s e:Nat},tL lt xs s q e->s+q.length<=e
 | [],s,e,h=>by have:s=e:=h;simp[this]
 |p::q,s,e,hz=>by
  obtain⟨_,n,_,l⟩:=hz;have:=AU l;rw[lCq];lia
theorem xV{lt:jK->jK->Bool}{xs ys:Array jK}:∀{q:List (Nat×Nat×Nat)}{s e:Nat},(∀k,s<=k->k<e->ys[k]?=xs[k]?)->tL lt xs s q e->tL lt ys s q e
 | [],s,e,_,h=>h
 |p::q,s,e,g,hz=>by
  obtain⟨u,z,B,n⟩:=hz;have l:=AU n;refine⟨u,z,λa b x y t E G ex H=>B a b x y t E G ?_ ?_,xV (λk J I=>g k (by lia) I) n⟩
  .rw[←g a t (by lia)];exact ex
  .rw[←g b (by lia) (by lia)];exact H
theorem C7{lt:jK->jK->Bool}{xs:Array jK}:∀{q l:List (Nat×Nat×Nat)}{s e:Nat},l.map (λp=>(p.1,p.2.1))=q.map (λp=>(p.1,p.2.1))->tL lt xs s q e->tL lt xs s l e
 | [],l,s,e,g,h=>by
  have:l=[]:=by simpa using g
  subst this;exact h
 |p::q,[],s,e,g,h=>by simp at g
 |p::q,p'::l,s,e,g,hz=>by
  obtain⟨x,n,t,u⟩:=hz;simp only[ai,dA.injEq,Prod.mk.injEq]at g;obtain⟨⟨z,g2⟩,B⟩:=g;rw[←g2]at n t u;exact⟨z.trans x,n,t,C7 B u⟩
theorem IL(o:Nat):∀(M:List jK) (n:Nat) (xs:Array jK),o+n+M.length<=xs.size ->
  ((M.zipIdx n).foldl (λa x=>a.setIfInBounds (o+x.2) x.1) xs).toList=xs.toList.take (o+n)++M++xs.toList.drop (o+n+M.length)
 | [],n,xs,h=>by simp
 |y::r,n,xs,h=>by
  rw[List.zipIdx_cons,cJ];rw[lCq]at h;rw[IL o r (n+1) _ (by rw[Array.size_setIfInBounds];lia),gh]
  have hl:o+n<xs.toList.length:=by rw[au];lia
  have l:(xs.toList.set (o+n) y).take (o+(n+1))=xs.toList.take (o+n)++[y]:=by
   rw[←fG,dQ,aS hl,List.take_set_of_le (aa _)];rfl
  have s:(xs.toList.set (o+n) y).drop (o+(n+1)+r.length)=xs.toList.drop (o+n+(r.length+1)):=by
   rw[List.drop_set_of_lt (by lia)]
   congr 1;lia
  rw[l,s,lCq,ag,ag,ag];rfl
section
variable {prog:jS}{w:jU}{A:Around}{E:Value->jJ->Prop}{s:jJ}{κ:km}{P:jK->Prop}{lt:jK->jK->Bool}
def Om(C:Bm prog w A s κ P lt){left:Bool}{key:jK}{arr:Array jK}{base n:Nat}(hb:base+n<=arr.size)(ha:∀x,x∈arr->P x)(l:P key)(so:B4 lt arr base (base+n)) :
  ∀i j,i<=j->j<n->zC lt left key arr base j=true->zC lt left key arr base i=true:=by
 intro i j G I h;have t:arr[base+i]?=some (arr[base+i]'(by lia)):=ae (by lia)
 have u:arr[base+j]?=some (arr[base+j]'(by lia)):=ae (by lia)
 have z:=ha _ (aQq t);have B:=ha _ (aQq u);have le:=so (base+i) (base+j) _ _ (by lia) (by lia) (by lia) t u
 rw[uV u]at h;rw[uV t];cases left with
 |true=>
  rw[pB rfl]at h ⊢;cases q:lt (arr[base+i]'(by lia)) key with
  |true=>rfl
  |false=>
   have:=C.trans _ _ _ l z B q le;rw[h]at this;cases this
 |false=>
  rw[oZ (by decide)]at h ⊢
  have H:lt key (arr[base+j]'(by lia))=false:=by simpa using h
  have:=C.trans _ _ _ z B l le H;simp[this]
def uP{a:Array jK}{i j:Nat}{x:jK}(h:x∈(a.extract i j).toList):∃k,i<=k/\k<j/\a[k]?=some x:=by
 rw[rG]at h;obtain⟨k,l,n,e⟩:=xM h;rw[bC]at e;exact⟨k,l,n,e⟩
def En{a:Array jK}{i j:Nat}(h:B4 lt a i j):zD lt (a.extract i j).toList:=by
 rw[rG];refine cO.mpr λp q l n t=>?_
 rw[ax,lTq,au]at l n;have e:∀k (hk:k<((a.toList.take j).drop i).length),a[i+k]?=some ((a.toList.take j).drop i)[k]:=λk hk=>by
  rw[ax,lTq,au]at hk;rw[ft,gA,bw];exact⟨by lia,by simp⟩
 exact h (i+p) (i+q) _ _ (by lia) (by lia) (by lia) (e p _) (e q _)
def LP(i:Nat):mergeAt' i=(do
 let s ←get
 let (some (sa,l,n),some (sb,nb,_)):=((kE s)[i]?,(kE s)[i+1]?)|kR "internal:list.sort.pending"
 set (setPending s (((kE s).setIfInBounds i (sa,l+nb,n)).eraseIdxIfInBounds (i+1)))
 let some k ←yw false (←kr (jV s) sb) (jV s) sa l 0|return false
 let (sa,l):=(sa+k,l-k)
 if l == 0 then return true
 let some nb ←yw true (←kr (jV s) (sa+l-1)) (jV s) sb nb (nb-1)|return false
 if nb == 0 then return true
 let x:=(jV s).extract sa sb
 let y:=(jV s).extract sb (sb+nb)
 let merged ←if l<=nb then Gf x y else Gj x y
 modify λs=>kf s (merged.toList.zipIdx.foldl (λa (p,j)=>a.setIfInBounds (sa+j) p) (jV s))
 return (failedOf (←get)).isNone):=rfl
def QT{st l:SortSt}{Q:PUnit->SortSt->Prop}(h:Q ⟨⟩ l):wpS (jN prog w) A E s (set l:StateT SortSt Sem PUnit) Q st:=by
 unfold wpS;rw[StateT.run_set];exact jW ⟨rfl,h⟩
def SG(C:Bm prog w A s κ P lt){xs Q M:Array jK}{sa n nb k l:Nat}(B:∀x,x∈xs->P x)(hz:sa+n+nb<=xs.size)(hk:k<=n)(hl:l<=nb)(U:B4 lt xs sa (sa+n))(R:B4 lt xs (sa+n) (sa+n+nb)){key last:jK}
  (X:xs[sa+n]?=some key) (el:xs[sa+n-1]?=some last)
  (k2:∀j y,j<k->xs[sa+j]?=some y->lt key y=false) (l3:∀j y,l<=j->j<nb->xs[sa+n+j]?=some y->lt y last=false) (hna:0<n) (hnb:0<nb)
  (m:VY lt (xs.extract (sa+k) (sa+n)) (xs.extract (sa+n) (sa+n+l)) M)
  (I:Q.toList=xs.toList.take (sa+k)++M.toList++xs.toList.drop (sa+k+M.toList.length)):Ar xs Q sa (sa+n+nb)/\B4 lt Q sa (sa+n+nb):=by
 have lM:M.toList.length=(n-k)+l:=by
  have:=m.pm.length_eq;simp only[lAq,au,ff]at this ⊢;lia
 have hlx:xs.toList.length=xs.size:=au;have gz:∀p,Q[p]?=if p<sa+k then xs[p]? else if p<sa+n+l then M[p-(sa+k)]? else xs[p]?:=λp=>by
  rw[←aH,I]
  by_cases H:p<sa+k
  .rw[pB H,ag,gZq (by rw[lTq];lia),dX H,aH]
  .rw[oZ H,ag,gYq (by rw[lTq];lia),lTq,show min (sa+k) xs.toList.length=sa+k by lia]
   by_cases c2:p<sa+n+l
   .rw[pB c2,gZq (by lia),aH]
   .rw[oZ c2,gYq (by lia),dB,aH]
    congr 1;lia
 have pk:=B _ (aQq X);have pl:=B _ (aQq el);have z:∀q v,M[q]?=some v->(∃j,k<=j/\j<n/\xs[sa+j]?=some v)∨∃j,j<l/\xs[sa+n+j]?=some v:=λq v e=>by
  have J:v∈M.toList:=by simpa using aQq e
  rcases mAq.mp (m.pm.mem_iff.mp J)with J|J
  .obtain⟨j,G,S,u⟩:=uP J;exact .inl ⟨j-sa,by lia,by lia,by rw[show sa+(j-sa)=j by lia];exact u⟩
  .obtain⟨j,G,S,u⟩:=uP J;exact .inr ⟨j-(sa+n),by lia,by rw[show sa+n+(j-(sa+n))=j by lia];exact u⟩
 refine⟨⟨?_,λp hp'=>?_⟩,?_⟩
 .rw[Array.perm_iff_toList_perm,I];have c:xs.toList=xs.toList.take (sa+k)++((xs.extract (sa+k) (sa+n)).toList++(xs.extract (sa+n) (sa+n+l)).toList)++xs.toList.drop (sa+k+M.toList.length):=by
   rw[rG,rG,lM];have T:=CZ xs.toList (sa+k) (sa+n) (by lia)
   have L:=CZ xs.toList (sa+n) (sa+n+l) (by lia)
   have a3:sa+k+(n-k+l)=sa+n+l:=by lia
   rw[a3,←ag,←T,←L,aR]
  conv=>rhs;rw[c]
  exact bY.append_right _ (bY.append_left _ m.pm)
 .rw[gz]
  by_cases H:p<sa+k
  .rw[pB H]
  .rw[oZ H,oZ (by lia)]
 .intro p q x y T L a3 ex t;rw[gz]at ex t
  by_cases p1:p<sa+k
  .rw[pB p1]at ex;have px:=B _ (aQq ex);have lx:lt key x=false:=k2 (p-sa) x (by lia) (by rw[show sa+(p-sa)=p by lia];exact ex)
   by_cases q1:q<sa+k
   .rw[pB q1]at t;exact U p q _ _ T L (by lia) ex t
   .rw[oZ q1]at t
    by_cases O:q<sa+n+l
    .rw[pB O]at t;rcases z _ _ t with⟨j,G,S,u⟩|⟨j,G,u⟩
     .exact U p (sa+j) _ _ T (by lia) (by lia) ex u
     .exact C.trans _ _ _ px pk (B _ (aQq u)) lx (R (sa+n) (sa+n+j) _ _ (aa _) (by lia) (by lia) X u)
    .rw[oZ O]at t;exact C.trans _ _ _ px pk (B _ (aQq t)) lx (R (sa+n) q _ _ (aa _) (by lia) (by lia) X t)
  .rw[oZ p1]at ex;rw[oZ (by lia)]at t
   by_cases p2:p<sa+n+l
   .rw[pB p2]at ex
    by_cases O:q<sa+n+l
    .rw[pB O]at t;rcases fe L with c|c
     .have Y:M.toList[p-(sa+k)]?=some x:=by rw[aH];exact ex
      have ey':M.toList[q-(sa+k)]?=some y:=by rw[aH];exact t
      obtain⟨hx,e1⟩:=gSq.mp Y;obtain⟨hy,e2⟩:=gSq.mp ey';have:=cO.mp m.so (p-(sa+k)) (q-(sa+k)) hx hy (by lia)
      rw[e1,e2]at this;exact this
     .subst c;rw[ex]at t;cases t;rcases z _ _ ex with⟨j,G,S,u⟩|⟨j,G,u⟩
      .exact C.refl (B _ (aQq u))
      .exact C.refl (B _ (aQq u))
    .rw[oZ O]at t;have py:=B _ (aQq t);rcases z _ _ ex with⟨j,G,S,u⟩|⟨j,G,u⟩
     .exact C.trans _ _ _ (B _ (aQq u)) pl py (U (sa+j) (sa+n-1) _ _ (by lia) (by lia) (by lia) u el) (l3 (q-(sa+n)) y (by lia) (by lia) (by rw[show sa+n+(q-(sa+n))=q by lia];exact t))
     .exact R (sa+n+j) q _ _ (by lia) (by lia) (by lia) u t
   .rw[oZ p2]at ex;rw[oZ (by lia)]at t
    exact R p q _ _ (by lia) L (by lia) ex t
end
section
variable {prog:jS}{w:jU}{A:Around}{E:Value->jJ->Prop}{s:jJ}{κ:km}{P:jK->Prop}{lt:jK->jK->Bool}
noncomputable def R7{α:Type}{l:List α}{i:Nat}{a b:α}(n:l[i]?=some a)(t:l[i+1]?=some b):l=l.take i++a::b::l.drop (i+2):=by
 obtain⟨u,x⟩:=gSq.mp n;obtain⟨z,B⟩:=gSq.mp t
 conv=>lhs;rw[←aR i l]
 rw[aK u,aK z,x,B]
noncomputable def Qt{α:Type}{q r:List α}{a b c:α}:((q++a::b::r).set q.length c).eraseIdx (q.length+1)=q++c::r:=by
 rw[gZ _ _ (aa _),cw,dC,List.eraseIdx_append_of_length_le (by lia),gP]
 rfl
def Ex(C:Bm prog w A s κ P lt){i lo:Nat}{st:SortSt}{Q:Bool->SortSt->Prop}(G:∀x,x∈jV st->P x)(hk:kindOf st=κ)(hf:failedOf st=none)(hlo:lo<=(jV st).size)(L:tL lt (jV st) 0 (kE st).toList lo)
  (hi:i+1<(kE st).size) (h:∀xs p g,Ar (jV st) xs 0 lo->p.size+1=(kE st).size->tL lt xs 0 p.toList lo->Q true (SortSt.mk' κ xs p g none)):wpS (jN prog w) A E s (mergeAt' i) Q st:=by
 obtain⟨J,n,z,g0,fl⟩:=st;have hk:J=κ:=hk;have hf:fl=none:=hf;subst hk hf;have G:∀x,x∈n->P x:=G;have hlo:lo<=n.size:=hlo;have L:tL lt n 0 z.toList lo:=L;have hi:i+1<z.size:=hi;have e1:z[i]?=some (z[i]'(by lia)):=ae (by lia)
 have e2:z[i+1]?=some (z[i+1]'(by lia)):=ae (by lia)
 generalize z[i]'(by lia)=a at e1
 generalize z[i+1]'(by lia)=b at e2
 obtain⟨sa,u,Y⟩:=a;obtain⟨sb,nb,pb⟩:=b;have e1':z.toList[i]?=some (sa,u,Y):=by rw[aH];exact e1
 have e2':z.toList[i+1]?=some (sb,nb,pb):=by rw[aH];exact e2
 have ep:=R7 e1' e2';have lq:(z.toList.take i).length=i:=by rw[lTq,au];lia
 generalize z.toList.take i=q at ep lq;generalize z.toList.drop (i+2)=r at ep;rw[ep]at L;obtain⟨S,c1,c2⟩:=uU.mp L;obtain⟨x1,x2,x3,x4,x5,x6,x7⟩:=c2;have d1:sa=S:=x1;have d2:0<u:=x2;have d3:B4 lt n S (S+u):=x3;have f1:sb=S+u:=x4;have f2:0<nb:=x5;have f3:B4 lt n (S+u) (S+u+nb):=x6;have f4:tL lt n (S+u+nb) r lo:=x7
 clear x1 x2 x3 x4 x5 x6 x7
 subst d1 f1;have hrl:sa+u+nb+r.length<=lo:=AU f4;have hql:0+q.length<=sa:=AU c1;have hz:sa+u+nb<=n.size:=by lia
 have np:((z.setIfInBounds i (sa,u+nb,Y)).eraseIdxIfInBounds (i+1)).toList=q++(sa,u+nb,Y)::r:=by
  rw[Array.toList_eraseIdxIfInBounds,gh,ep,←lq];exact Qt
 have ns:((z.setIfInBounds i (sa,u+nb,Y)).eraseIdxIfInBounds (i+1)).size+1=z.size:=by
  rw[←au,np,←au,ep];simp only[lAq,lCq];lia
 have fin:∀T g,Ar n T sa (sa+u+nb)->B4 lt T sa (sa+u+nb)->Q true (SortSt.mk' J T ((z.setIfInBounds i (sa,u+nb,Y)).eraseIdxIfInBounds (i+1)) g none):=λT g b1 s1=>by
  refine h T _ g ⟨b1.pm,λk hk=>b1.out k (by lia)⟩ ns ?_
  rw[np];refine uU.mpr ⟨sa,xV (λk _ k2=>b1.out k (.inl k2)) c1,rfl,by show 0<u+nb;lia,?_,?_⟩
  .show B4 lt T sa (sa+(u+nb));rw[←fG];exact s1
  .show tL lt T (sa+(u+nb)) r lo;rw[←fG];exact xV (λk k1 _=>b1.out k (.inr k1)) f4
 rw[LP];refine jL (kL ?_);dsimp only;rw[e1,e2];dsimp only;refine jL (QT ?_);have ek:n[sa+u]?=some (n[sa+u]'(by lia)):=ae (by lia)
 have el:n[sa+u-1]?=some (n[sa+u-1]'(by lia)):=ae (by lia)
 have pk:=G _ (aQq ek);have pl:=G _ (aQq el);refine jL (qe ek ?_);refine jL (vH C d2 (by lia) G pk rfl (Om C (by lia) G pk d3) λk k1 k2 k3=>?_)
 dsimp only;have kl:∀j y,j<k->n[sa+j]?=some y->lt (n[sa+u]'(by lia)) y=false:=λj y hj B=>by
  have:=k2 j hj;rw[uV B,oZ (by decide)]at this
  simpa using this
 have kh:∀j y,k<=j->j<u->n[sa+j]?=some y->lt (n[sa+u]'(by lia)) y=true:=λj y h1 h2 B=>by
  have:=k3 j h1 h2;rw[uV B,oZ (by decide)]at this
  simpa using this
 by_cases c1':u-k=0
 .rw[pB (by simp[c1'])]
  refine jM (fin n g0 (Ar.refl _ _ _) λp q x y U O X ex B=>?_)
  have px:=G _ (aQq ex);have py:=G _ (aQq B)
  by_cases q1:q<sa+u
  .exact d3 p q _ _ U O q1 ex B
  .by_cases p1:p<sa+u
   .exact C.trans _ _ _ px pk py (kl (p-sa) x (by lia) (by rw[show sa+(p-sa)=p by lia];exact ex)) (f3 (sa+u) q _ _ (aa _) (by lia) X ek B)
   .exact f3 p q _ _ (by lia) O X ex B
 rw[oZ (by simpa using c1')]
 have ea:sa+k+(u-k)-1=sa+u-1:=by lia
 rw[ea];refine jL (qe el ?_);refine jL (vH C (by lia) (by lia) G pl rfl (Om C (by lia) G pl f3) λl l1 l2 l3=>?_)
 dsimp only;have ll:∀j y,j<l->n[sa+u+j]?=some y->lt y (n[sa+u-1]'(by lia))=true:=λj y hj B=>by
  have:=l2 j hj;rw[uV B,pB rfl]at this;exact this
 have lh:∀j y,l<=j->j<nb->n[sa+u+j]?=some y->lt y (n[sa+u-1]'(by lia))=false:=λj y h1 h2 B=>by
  have:=l3 j h1 h2;rw[uV B,pB rfl]at this;exact this
 by_cases c2':l=0
 .rw[pB (by simp[c2'])]
  refine jM (fin n g0 (Ar.refl _ _ _) λp q x y U O X ex B=>?_)
  have px:=G _ (aQq ex);have py:=G _ (aQq B)
  by_cases q1:q<sa+u
  .exact d3 p q _ _ U O q1 ex B
  .by_cases p1:p<sa+u
   .exact C.trans _ _ _ px pl py (d3 p (sa+u-1) _ _ U (by lia) (by lia) ex el) (lh (q-(sa+u)) y (by lia) (by lia) (by rw[show sa+u+(q-(sa+u))=q by lia];exact B))
   .exact f3 p q _ _ (by lia) O X ex B
 rw[oZ (by simpa using c2')]
 have sx:zD lt (n.extract (sa+k) (sa+u)).toList:=En λp q x y U O X ex B=>d3 p q x y (by lia) O X ex B
 have sy:zD lt (n.extract (sa+u) (sa+u+l)).toList:=En λp q x y U O X ex B=>f3 p q x y U O (by lia) ex B
 have H:∀x,x∈n.extract (sa+k) (sa+u)->P x:=λx H=>by
  obtain⟨j,_,_,e⟩:=uP (fQ.mpr H);exact G _ (aQq e)
 have I:∀x,x∈n.extract (sa+u) (sa+u+l)->P x:=λx H=>by
  obtain⟨j,_,_,e⟩:=uP (fQ.mpr H);exact G _ (aQq e)
 have zx:(n.extract (sa+k) (sa+u)).size=u-k:=by rw[ff];lia
 have zy:(n.extract (sa+u) (sa+u+l)).size=l:=by rw[ff];lia
 have g0':(n.extract (sa+u) (sa+u+l))[0]?=some (n[sa+u]'(by lia)):=by
  rw[gV,pB (by lia),iN]
  exact ek
 have gl':(n.extract (sa+k) (sa+u))[u-k-1]?=some (n[sa+u-1]'(by lia)):=by
  rw[gV,pB (by lia),show sa+k+(u-k-1)=sa+u-1 by lia]
  exact el
 have low:∀y∈(n.extract (sa+k) (sa+u)).toList,lt y (n[sa+u]'(by lia))=false:=λy I=>by
  obtain⟨j,j1,j2,ej⟩:=uP I;exact C.asym _ _ pk (G _ (aQq ej)) (kh (j-sa) y (by lia) (by lia) (by rw[show sa+(j-sa)=j by lia];exact ej))
 have R:∀x∈(n.extract (sa+u) (sa+u+l)).toList,lt (n[sa+u-1]'(by lia)) x=false:=λx H=>by
  obtain⟨j,j1,j2,ej⟩:=uP H;exact C.asym _ _ (G _ (aQq ej)) pl (ll (j-(sa+u)) x (by lia) (by rw[show sa+u+(j-(sa+u))=j by lia];exact ej))
 have done:∀M g,VY lt (n.extract (sa+k) (sa+u)) (n.extract (sa+u) (sa+u+l)) M ->
   Q true (SortSt.mk' J (M.toList.zipIdx.foldl (λa x=>a.setIfInBounds (sa+k+x.snd) x.fst) n) ((z.setIfInBounds i (sa,u+nb,Y)).eraseIdxIfInBounds (i+1)) g none):=λM g mg=>by
  have lM:M.toList.length=(u-k)+l:=by
   have:=mg.pm.length_eq;simp only[lAq,au,ff]at this ⊢;lia
  have wb:=IL (sa+k) M.toList 0 n (by lia)
  obtain⟨b1,s1⟩:=SG C G hz k1 l1 d3 f3 ek el kl lh d2 f2 mg wb;exact fin _ g b1 s1
 by_cases c3:u-k<=l
 .rw[pB c3];refine jL (LF (κ:=J) (a:=n.extract (sa+k) (sa+u)) (b:=n.extract (sa+u) (sa+u+l)) C H I rfl sx sy (by rw[zx];lia) (by rw[zy];lia) (λx ex y I=>?_) (λj hj x H y I=>?_) λM g mg=>?_)
  .rw[g0']at ex;cases ex;exact low y I
  .have hj':j=u-k-1:=by lia
   subst hj';have:y=n[sa+u-1]'(by lia):=by
    obtain⟨t,t1,t2⟩:=AG I;rw[zx]at t1;have t0:t=0:=by lia
    subst t0;rw[iN,gl']at t2;exact(aw.inj t2).symm
   rw[this];exact R x H
  .refine jL (kG ?_);refine jL (kL ?_);exact jM (done M g mg)
 .rw[oZ c3];refine jL (K8 (κ:=J) (a:=n.extract (sa+k) (sa+u)) (b:=n.extract (sa+u) (sa+u+l)) C H I rfl sx sy (by rw[zx];lia) (by rw[zy];lia) (λx H y I=>?_) (λx ex y I=>?_) λM g mg=>?_)
  .have:x=n[sa+u]'(by lia):=by
    obtain⟨t,t1,t2⟩:=Bb H;have t0:t=0:=by lia
    subst t0;rw[bC,g0']at t2;exact(aw.inj t2).symm
   rw[this];exact low y I
  .rw[zx,gl']at ex;cases ex;exact R y I
  .refine jL (kG ?_);refine jL (kL ?_);exact jM (done M g mg)
end
section
variable {prog:jS}{w:jU}{A:Around}{E:Value->jJ->Prop}{s:jJ}{κ:km}{P:jK->Prop}{lt:jK->jK->Bool}
abbrev zu(κ:km)(xs:Array jK)(p:Array (Nat×Nat×Nat))(g:Nat):SortSt:=SortSt.mk' κ xs p g none
def Ge{xs:Array jK}{p:Array (Nat×Nat×Nat)}{lo n:Nat}(h:tL lt xs 0 p.toList lo)(hn:0<n)(l:B4 lt xs lo (lo+n)):tL lt xs 0 (p.push (lo,n,0)).toList (lo+n):=by
 rw[eO];exact uU.mpr ⟨lo,h,rfl,hn,l,rfl⟩
noncomputable def Hm(p:Array (Nat×Nat×Nat))(i pw:Nat):(p.modify i λx=>(x.fst,x.2.fst,pw)).toList.map (λp=>(p.1,p.2.1))=p.toList.map (λp=>(p.1,p.2.1)):=by
 apply eP;intro k;rw[gMq,gMq,aH,aH,Array.getElem?_modify];split
 .cases p[k]? <;> rfl
 .rfl
def J3(C:Bm prog w A s κ P lt){arr:Array jK}{g:Nat}{Q:Unit->SortSt->Prop}(hp:∀x,x∈arr->P x)(h2:2<=arr.size)
    (h:∀xs p g',xs.Perm arr->B4 lt xs 0 arr.size->Q () (zu κ xs p g')):wpS (jN prog w) A E s sortRuns' Q (zu κ arr #[] g):=by
  rw[sortRuns'_eq];refine jL (kL ?_);dsimp only;have e0:jV (zu κ arr #[] g)=arr:=rfl;rw[e0];generalize minRun' arr.size arr.size 0=O;refine jL (kj (ke
    (I:=λi c l=>∃lo xs p g',c=(none,lo)/\l=zu κ xs p g'/\xs.Perm arr/\lo<=arr.size/\tL lt xs 0 p.toList lo/\i<=lo)
    (Q:=λc l=>∃xs p g',c=(none,arr.size)/\l=zu κ xs p g'/\xs.Perm arr/\tL lt xs 0 p.toList arr.size)
    ?step ?fin ⟨0,arr,#[],g,rfl,rfl,jt.refl _,aT _,rfl,aa _⟩) ?post)
  case fin=>
    rintro c l ⟨lo,xs,p,g',rfl,rfl,L,q2,R,q4⟩;have e:lo=arr.size:=by lia
    subst e;exact⟨xs,p,g',rfl,rfl,L,R⟩
  case step=>
    rintro i c l _ hi ⟨lo,xs,p,g',rfl,rfl,L,q2,R,q4⟩;dsimp only;have S:∀x,x∈xs->P x:=λx hx=>hp x (L.mem_iff.mp hx)
    have hzx:xs.size=arr.size:=L.size_eq
    by_cases c1:lo ≥ arr.size
    . rw[pB c1]
      have e:lo=arr.size:=by lia
      subst e;exact jM ⟨xs,p,g',rfl,rfl,L,R⟩
    rw[oZ c1];refine jL (JF (st:=zu κ xs p g') C S rfl (by lia) (by show lo+(arr.size-lo)<=xs.size;lia) λn u n1 n2 b1 s1=>?_)
    dsimp only;have hb:Ar xs u lo (lo+n):=b1;show wpS _ _ _ _ _ _ (zu κ u p g')
    by_cases c2:n<O
    all_goals
      first
        | (rw[pB c2]
           refine jL (yD ?_);refine jL (NP (st:=zu κ u p g') (n:=min (arr.size-lo) O) C (hb.mem S) rfl n1 (by lia) (by show lo+min (arr.size-lo) O<=u.size;have:=hb.size;lia) s1 λH b2 X=>?_)
           rw[oZ (by decide)]
           have z:Ar xs H lo (lo+min (arr.size-lo) O):=(hb.mono (by lia)).trans b2
           have nn:1<=min (arr.size-lo) O:=by lia
           have nl:lo+min (arr.size-lo) O<=arr.size:=by lia
           show wpS _ _ _ _ _ _ (zu κ H p g')
           clear b1 s1 hb b2
           generalize min (arr.size-lo) O=nN at z nn nl X ⊢)
        | (rw[oZ c2]
           have z:=hb;have X:=s1;have nn:=n1;have nl:lo+n<=arr.size:=by lia
           clear b1 s1 hb
           generalize hnN:n=nN at z nn nl X ⊢;generalize hzs:u=H at z X ⊢)
      have hpz:=z.mem S;have hzz:=z.size;have hcz:tL lt H 0 p.toList lo:=xV (λk _ k2=>z.out k (.inl k2)) R
      have pz:H.Perm arr:=z.pm.trans L;refine jL (kL ?_);have ep:kE (zu κ H p g')=p:=rfl;rw[ep];cases eb:p.back? with
      |none=>
        dsimp only;refine jL (kG (jM ?_));exact⟨lo+nN,H,p.push (lo,nN,0),g',rfl,rfl,pz,nl,Ge hcz nn X,by lia⟩
      |some t=>
        obtain⟨s1',n1',pw0⟩:=t;dsimp only;refine jL (kj (ke
          (I:=λi c l=>∃u q g2,c=(none,())/\l=zu κ u q g2/\Ar H u 0 lo/\tL lt u 0 q.toList lo)
          (Q:=λc l=>∃u q g2,c=(none,())/\l=zu κ u q g2/\Ar H u 0 lo/\tL lt u 0 q.toList lo)
          ?step1 (λc l hh=>hh) ⟨H,p,g',rfl,rfl,Ar.refl _ _ _,hcz⟩) ?post1)
        case step1=>
          rintro j c l _ hj ⟨B,q,g2,rfl,rfl,b3,G⟩;refine jL (kL ?_);have Y:kE (zu κ B q g2)=q:=rfl;rw[Y]
          by_cases d1:q.size>1
          . rw[pB d1]
            have eo:q[q.size-2]?=some (q[q.size-2]'(by lia)):=ae (by lia)
            rw[eo];generalize q[q.size-2]'(by lia)=o
            obtain⟨o1,o2,older⟩:=o;dsimp only;split
            . exact jM ⟨B,q,g2,rfl,rfl,b3,G⟩
            . refine jL (Ex (st:=zu κ B q g2) C (b3.mem hpz) rfl rfl (by show lo<=B.size;have:=b3.size;lia) G (by show q.size-2+1<q.size;lia) λT p3 g3 b4 _ U=>?_)
              rw[oZ (by decide)]
              exact jM ⟨T,p3,g3,rfl,rfl,b3.trans b4,U⟩
          . rw[oZ d1]
            exact jM ⟨B,q,g2,rfl,rfl,b3,G⟩
        case post1=>
          rintro c l ⟨B,q,g2,rfl,rfl,b3,G⟩;dsimp only;refine jL (kG (jL (kG (jM ?_))));have s3:B4 lt B lo (lo+nN):=λa b x y a1 a2 a3 ex ey=>X a b x y a1 a2 a3 (by rw[←b3.out a (.inr a1)];exact ex) (by rw[←b3.out b (.inr (by lia))];exact ey)
          exact⟨lo+nN,B,_,g2,rfl,rfl,b3.pm.trans pz,nl,Ge (C7 (Hm q _ _) G) nn s3,by lia⟩
  case post=>
    rintro c l ⟨xs,p,g',rfl,rfl,L,R⟩;dsimp only;refine jL (kj (ke
      (I:=λi c l=>∃u q g2,c=(none,())/\l=zu κ u q g2/\u.Perm arr/\tL lt u 0 q.toList arr.size/\q.size+i<=arr.size)
      (Q:=λc l=>∃u q g2,c=(none,())/\l=zu κ u q g2/\u.Perm arr/\tL lt u 0 q.toList arr.size/\q.size<=1)
      ?step2 ?fin2 ⟨xs,p,g',rfl,rfl,L,R,by have:=AU R;rw[au]at this;lia⟩) ?post2)
    case fin2=>
      rintro c l ⟨u,q,g2,rfl,rfl,M,J,r3⟩;exact⟨u,q,g2,rfl,rfl,M,J,by lia⟩
    case step2=>
      rintro j c l _ hj ⟨u,q,g2,rfl,rfl,M,J,r3⟩;refine jL (kL ?_);have Y:kE (zu κ u q g2)=q:=rfl;rw[Y]
      by_cases d1:q.size<=1
      . rw[pB d1]
        exact jM ⟨u,q,g2,rfl,rfl,M,J,d1⟩
      rw[oZ d1];have hi':∀(b:Prop) [Decidable b],(if b then q.size-2-1 else q.size-2)+1<q.size:=λb _=>by split <;> lia
      refine jL (Ex (st:=zu κ u q g2) C (λx hx=>hp x (M.mem_iff.mp hx)) rfl rfl (by show arr.size<=u.size;have:=M.size_eq;lia) J (hi' _) λT p3 g3 b4 ns U=>?_)
      rw[oZ (by decide)]
      have ns':p3.size+1=q.size:=ns;exact jM ⟨T,p3,g3,rfl,rfl,b4.pm.trans M,U,by lia⟩
    case post2=>
      rintro c l ⟨u,q,g2,rfl,rfl,M,J,r3⟩;refine jM (h u q g2 M ?_);rw[←au]at r3;cases Y:q.toList with
      |nil=>
        rw[Y]at J;have r2':0=arr.size:=J;lia
      |cons a r=>
        rw[Y]at J r3;have er:r=[]:=by
          rw[lCq]at r3;exact bN.mp (by lia)
        subst er;obtain⟨_,_,s3,e3⟩:=J;have e3':0+a.2.1=arr.size:=e3;rw[e3']at s3;exact s3
end
end MrS
namespace Xe
open PySem
noncomputable abbrev VEm:Ξ:=[.type "ValueError", .type "Exception", .type "BaseException", .type "object"]
end Xe
namespace Mr
abbrev St:=L2.St
open PySem PySem.Spec PyProof.Rows L2
section
variable {X:Cx}{oh:Φ}{σ:List (Option V)}{H H':Hp}{s:jJ}{h':Heap}
def Mb{t':Nat}{fp:Δ}{T:Addr}{o:HO}(I:Inv X oh σ H s)(k:∀b u,b∉fp->s.heap.get? b=some u->h'.get? b=some u)
  (t:∀b∈fp,EU X oh H b) (x:s.heap.objs.size<=T) (new:rO X.prog X.w (qC H T o) h' T o):Inv X oh σ (qC H T o) { s with heap:=h',toks:=t' }:=by
 have hn:H T=none:=I.hok.fresh x;have B:∀b u,H b=some u->b∉fp:=λb u e z=>by rw[(t b z).1]at e;cases e
 refine I.step (g':=s.gens) (d':=s.drawn) (ch:=fp) (λb hb=>?_) (λb u _ _ l e _=>k b u l e) (λb u _ _ l e _=>⟨u.slots,k b u l e⟩)
  (λb u _ e n=>by rw[oQ (aN (aU (ar e) x))];exact n) (λb u l e=>⟨u,k b u l e⟩)
  (λb E e=>by rw[oQ (qH e hn)];exact e) (λb u E e=>by rw[oQ (qH e hn)];exact e) (λb S e=>⟨#[],by rw[oQ (qH e hn),e];simp⟩) (λm G=>?_) (λb u e=>?_) I.bare
 .obtain⟨_,J,_,L,M,O⟩:=t b hb;exact⟨L,J,M,O⟩
 .obtain⟨u,P,Q,R,r⟩:=G;exact⟨u,P,Q,k _ u (λz=>(t _ z).2.1 rfl) R,r⟩
 .by_cases hb:b=T
  .subst hb;rw[oS]at e;cases e;exact new
  .rw[oQ hb]at e;refine(I.hok b u e).stay (λc v l q=>k c v ?_ q) (λc q=>by rw[oQ (qH q hn)];exact q) λc E q=>by rw[oQ (qH q hn)];exact q
   rcases l with rfl|l
   .exact B _ u e
   .exact B c _ l
def Ov{t':Nat}{fp:Δ}(I:Inv X oh σ H s)(k:∀b u,b∉fp->s.heap.get? b=some u->h'.get? b=some u)
  (t:∀b∈fp,EU X oh H b):Inv X oh σ H { s with heap:=h',toks:=t' }:=by
 have x:∀b u,H b=some u->b∉fp:=λb u e z=>by rw[(t b z).1]at e;cases e
 refine I.step (g':=s.gens) (d':=s.drawn) (ch:=fp) (λb hb=>?_) (λb u _ _ l e _=>k b u l e) (λb u _ _ l e _=>⟨u.slots,k b u l e⟩)
  (λ_ _ _ _ n=>n) (λb u l e=>⟨u,k b u l e⟩) (λ_ _ e=>e) (λ_ _ _ e=>e) (λb Q e=>⟨#[],by rw[e];simp⟩) (λm B=>?_) (λb u e=>?_) I.bare
 .obtain⟨_,E,_,G,J,L⟩:=t b hb;exact⟨G,E,J,L⟩
 .obtain⟨u,M,O,P,r⟩:=B;exact⟨u,M,O,k _ u (λz=>(t _ z).2.1 rfl) P,r⟩
 .refine(I.hok b u e).stay (λc v l q=>k c v ?_ q) (λ_ q=>q) λ_ _ q=>q
  rcases l with rfl|l
  .exact x _ u e
  .exact x c _ l
def JI{a b:Addr}{xs:List V}(I:Inv X oh σ H s)(h:rz X.K H a xs)(f:EU X oh H b):a≠b:=by
 intro e;subst e;obtain⟨l,_,_,t,_⟩:=f;rcases h with(h|⟨o,h⟩)|⟨o,u,n,hk,_⟩
 .rw[l]at h;cases h
 .rw[l]at h;cases h
 .have hb:=I.mod.kin a o hk;rcases t with z|z
  .exact I.ok.noex a o hb z
  .exact absurd (aU (ar (I.ok.bs a o hb).1) z) (dN _)
end
def Ite(K:Ζ)(a:Addr):It:=
  ⟨λi H=>∃xs x,rz K H a xs/\xs[i]?=some x,
   λi H v l=>∃T x,H T=none/\v = .ref T/\l=qC H T (.tup [.int i,x])/\∀xs,rz K H a xs->xs[i]?=some x,
   λi H=>∃xs,rz K H a xs/\xs.length<=i⟩
def Rr{P:jS}{w:jU}{K:Ζ}{G:List Expr}{k:Nat}{pos:Pos}(a e t:Addr)(J:e≠t) :
  NG P w K (.Tuple G k pos) (Ite K a) [e,t] e (λi h=>(∃old,IsEnum h e t i old)/\h.IsListIter t a i) where
 mem:=by simp
 obj:=λi h st b hb=>by
  obtain⟨⟨old,B⟩,o,ho,_,d⟩:=st;rcases ab.mp hb with rfl|hb
  .exact⟨_,B,λv z=>by
    have z':Data.fields _=Data.cell v:=z;cases z'⟩
  .have e:b=t:=by simpa using hb
   subst e;exact⟨o,ho,λv z=>by rw[d]at z;cases z⟩
 keep:=λi h h' st kp=>by
  obtain⟨⟨old,B⟩,l⟩:=st;exact⟨⟨old,kp e (by simp) _ B⟩,l.at λo q=>kp t (by simp) o q⟩
 item:=by
  intro X R hw S hc i oh s σ H E I O st T;subst R hw S;obtain⟨xs,x,Q,U⟩:=T;obtain⟨Y,rv,p,hz⟩:=I.list Q;obtain⟨u,hu,ru⟩:=rv.get U;obtain⟨⟨old,B⟩,l⟩:=st;have hil:t<s.heap.objs.size:=by obtain⟨_,q,_⟩:=l;exact ar q
  have L:e<s.heap.objs.size:=ar B;refine wpAny_pyNext_enum_item B l p.isList (x:=u) (by simpa using hu) J λh1 he1 M ht1 hz1 hk1=>⟨_,rfl,?_⟩
  refine wpAny_letOwnedTupleGo_enum he1 λh2 he2 n=>?_
  replace n:fh e h1 h2:=n;have hn:H s.heap.objs.size=none:=I.hok.fresh (aa _);refine⟨.ref s.heap.objs.size,qC H s.heap.objs.size (.tup [.int i,x]),?_,rfl,⟨_,x,hn,rfl,rfl,λys hy=>by rw[I.list_inj hy Q];exact U⟩,⟨⟨_,by simpa using he2⟩,M.extBut n.extBut (Ne.symm J)⟩,λb hb=>?_⟩
  .show L2.Inv X oh σ _ { s with heap:=h2,toks:=s.toks+1 }
   refine Mb (s:=s) (fp:=[e,t]) I (λb o hb q=>?_) O (aa _) ⟨by simp only[lCq,cF];rw[ka];decide,[.int i s.toks,u],.cons ⟨_,rfl⟩ (.cons ru .nil),_,n.extBut _ _ (fi L) ht1,rfl,_,rfl⟩
   have b1:b≠e:=λz=>hb (by simp[z])
   exact n.extBut b o b1 (hk1 b o b1 (λz=>hb (by simp[z])) q)
  .have hb2:b<s.heap.objs.size:=by
    rcases ab.mp hb with rfl|hb
    .exact L
    .have e:b=t:=by simpa using hb
     subst e;exact hil
   rw[oQ (aN hb2)];exact(O b hb).1
 done:=by
  intro X R hw S hc i oh s σ H E I O st T;subst R hw S;obtain⟨xs,Q,U⟩:=T;obtain⟨Y,rv,p,hz⟩:=I.list Q;obtain⟨⟨old,B⟩,l⟩:=st;have hl:=rv.length;exact wpAny_pyNext_enum_end (I.ok.hd hc) B l p.isList (by simp;lia) λh1 eb=>⟨rfl,Ov (t':=s.toks) (fp:=[e,t]) I (λb o hb q=>eb b o (λz=>hb (by simp[z])) q) O⟩
 self:=λ_ _ _ _ _ st h=>by
  obtain⟨⟨old,B⟩,_⟩:=st;exact wpAny_pyIter_enum B h
def Itz(K:Ζ)(a b:Addr):It:=
  ⟨λi H=>∃xs ys x y,rz K H a xs/\rz K H b ys/\xs[i]?=some x/\ys[i]?=some y,
   λi H v l=>∃T x y,H T=none/\v = .ref T/\l=qC H T (.tup [x,y])/\(∀xs,rz K H a xs->xs[i]?=some x)/\∀ys,rz K H b ys->ys[i]?=some y,
   λi H=>∃xs ys,rz K H a xs/\rz K H b ys/\(xs.length<=i∨ys.length<=i)⟩
structure Z5 (z TI TO i1 i2:Addr):Prop where
 a:TI≠z
 b:TO≠z
 c:i1≠z
 d:i2≠z
 e:TI≠TO
 f:TI≠i1
 g:TI≠i2
 h:TO≠i1
 i:TO≠i2
 j:i1≠i2
noncomputable def adj(n:Nat):Z5 (n+4) (n+2) (n+3) n (n+1) where
 a:=λ(q:n+2=n+4)=>by lia
 b:=λ(q:n+3=n+4)=>by lia
 c:=λ(q:n=n+4)=>by lia
 d:=λ(q:n+1=n+4)=>by lia
 e:=λ(q:n+2=n+3)=>by lia
 f:=λ(q:n+2=n)=>by lia
 g:=λ(q:n+2=n+1)=>by lia
 h:=λ(q:n+3=n)=>by lia
 i:=λ(q:n+3=n+1)=>by lia
 j:=λ(q:n=n+1)=>by lia
def UQ{P:jS}{w:jU}{K:Ζ}{Y:List Expr}{k:Nat}{pos:Pos}(Q R z TI TO n t:Addr)(d:Z5 z TI TO n t) :
  NG P w K (.Tuple Y k pos) (Itz K Q R) [z,TI,TO,n,t] z
   (λi h=>IsZip h z TI TO .none/\IsPair h TI (.ref n) (.ref t)/\(∃a b,IsPair h TO a b)/\h.IsListIter n Q i/\h.IsListIter t R i) where
 mem:=by simp
 obj:=λi h st b hb=>by
  obtain⟨hz,l,⟨a,c,u⟩,⟨o1,q1,_,d1⟩,⟨o2,q2,_,d2⟩⟩:=st;simp only[ab,dr,or_false]at hb;rcases hb with rfl|rfl|rfl|rfl|rfl
  .exact⟨_,hz,λv x=>by
    have x':Data.fields _=Data.cell v:=x;cases x'⟩
  .exact⟨_,l,λv x=>by
    have x':Data.seq _ _=Data.cell v:=x;cases x'⟩
  .exact⟨_,u,λv x=>by
    have x':Data.seq _ _=Data.cell v:=x;cases x'⟩
  .exact⟨o1,q1,λv x=>by rw[d1]at x;cases x⟩
  .exact⟨o2,q2,λv x=>by rw[d2]at x;cases x⟩
 keep:=λi h h' st kp=>by
  obtain⟨hz,l,⟨a,c,u⟩,S,T⟩:=st;exact⟨kp z (by simp) _ hz,kp TI (by simp) _ l,⟨a,c,kp TO (by simp) _ u⟩,S.at λo q=>kp n (by simp) o q,T.at λo q=>kp t (by simp) o q⟩
 item:=by
  intro X hP hw hK hc i oh s σ H E I L st hg;subst hP hw hK;obtain⟨xs,ys,x,y,G,J,U,hy⟩:=hg;obtain⟨its1,M,p1,_⟩:=I.list G;obtain⟨its2,O,p2,_⟩:=I.list J;obtain⟨u1,hu1,ru1⟩:=M.get U;obtain⟨u2,hu2,ru2⟩:=O.get hy;obtain⟨hz,l,⟨a,c,u⟩,S,T⟩:=st;have n1:∀b∈[z,TI,TO,n,t],Q≠b:=λb hb=>JI I G (L b hb)
  have n2:∀b∈[z,TI,TO,n,t],R≠b:=λb hb=>JI I J (L b hb)
  have D:ZipApart z TI TO n t Q R:=⟨d.a,d.b,d.c,d.d,d.e,d.f,d.g,d.h,d.i,d.j,n1 z (by simp),n1 TO (by simp),n1 n (by simp),n1 t (by simp),n2 z (by simp),n2 TO (by simp),n2 n (by simp),n2 t (by simp)⟩
  have hzl:z<s.heap.objs.size:=ar hz;refine wpAny_pyNext_zip_item D hz l u S T p1.isList p2.isList (x:=u1) (y:=u2) (by simpa using hu1) (by simpa using hu2) λg1 hz1 hTO1 g11 g12 hT1 hsz1 hk1=>⟨_,rfl,?_⟩
  refine wpAny_letOwnedTupleGo_zip hz1 λg2 hz2 B=>?_
  replace B:fh z g1 g2:=B;have hn:H s.heap.objs.size=none:=I.hok.fresh (aa _);refine⟨.ref s.heap.objs.size,qC H s.heap.objs.size (.tup [x,y]),?_,rfl,⟨_,x,y,hn,rfl,rfl,λws hw=>by rw[I.list_inj hw G];exact U,λws hw=>by rw[I.list_inj hw J];exact hy⟩,
   ⟨hz2,B.extBut _ _ d.a (hk1 _ _ d.a d.e d.f d.g l),⟨_,_,B.extBut _ _ d.b hTO1⟩,g11.extBut B.extBut d.c,g12.extBut B.extBut d.d⟩,λb hb=>?_⟩
  .show L2.Inv X oh σ _ { s with heap:=g2,toks:=s.toks }
   refine Mb (s:=s) (fp:=[z,TI,TO,n,t]) I (λb o hb q=>?_) L (aa _) ⟨by simp only[lCq,cF];rw[ka];decide,[u1,u2],.cons ru1 (.cons ru2 .nil),_,B.extBut _ _ (fi hzl) hT1,rfl,_,rfl⟩
   have b1:b≠z:=λe=>hb (by simp[e])
   exact B.extBut b o b1 (hk1 b o b1 (λe=>hb (by simp[e])) (λe=>hb (by simp[e])) (λe=>hb (by simp[e])) q)
  .have hb2:b<s.heap.objs.size:=by
    have hb':=hb;simp only[ab,dr,or_false]at hb';rcases hb' with rfl|rfl|rfl|rfl|rfl
    .exact hzl
    .exact ar l
    .exact ar u
    .obtain⟨_,q,_⟩:=S;exact ar q
    .obtain⟨_,q,_⟩:=T;exact ar q
   rw[oQ (aN hb2)];exact(L b hb).1
 done:=by
  intro X hP hw hK hc i oh s σ H E I L st hg;subst hP hw hK;obtain⟨xs,ys,G,J,U⟩:=hg;obtain⟨its1,M,p1,_⟩:=I.list G;obtain⟨its2,O,p2,_⟩:=I.list J;obtain⟨hz,l,⟨a,c,u⟩,S,T⟩:=st;have n1:∀b∈[z,TI,TO,n,t],Q≠b:=λb hb=>JI I G (L b hb)
  have n2:∀b∈[z,TI,TO,n,t],R≠b:=λb hb=>JI I J (L b hb)
  have D:ZipApart z TI TO n t Q R:=⟨d.a,d.b,d.c,d.d,d.e,d.f,d.g,d.h,d.i,d.j,n1 z (by simp),n1 TO (by simp),n1 n (by simp),n1 t (by simp),n2 z (by simp),n2 TO (by simp),n2 n (by simp),n2 t (by simp)⟩
  have e1:=M.length;have e2:=O.length;refine wpAny_pyNext_zip_end (I.ok.hd hc) D hz l u S T p1.isList p2.isList ?_ λg1 eb=>⟨rfl,Ov (t':=s.toks) (fp:=[z,TI,TO,n,t]) I (λb o hb q=>eb b o (λe=>hb (by simp[e])) (λe=>hb (by simp[e])) (λe=>hb (by simp[e])) (λe=>hb (by simp[e])) q) L⟩
  rcases U with U|U
  .exact .inl (by simp;lia)
  .exact .inr (by simp;lia)
 self:=λ_ _ _ _ _ st h=>wpAny_pyIter_zip st.1 h
section
variable {X:Cx}{elts:List Expr}{kk:Nat}{tpos:Pos}
def Zd(K:Ζ)(n:TA):TI:=λσ H R=>n σ H λvs l=>∃a,vs=[.ref a]/\(∃xs,rz K l a xs)/\R (Ite K a) l
def Wq{e:Expr}{B:TA}{p pos:Pos}(G:Gl X "enumerate")(J:X.mg "enumerate" = none)(ha:PA X [e] B)(L:jT [e] X.env=[(false,eval e X.env)]:=by rfl) :
  PI X (.Tuple elts kk tpos) (.Call (.Name "enumerate" p) [e] [] pos) (Zd X.K B):=by
 intro M s σ H R I h;refine Call_ (Eh I G J boot_enumerate (dw (rQ (ha pos M s σ H _ I h) λus l x=>?_) L rfl))
 obtain⟨vs,O,t,P,Q⟩:=x;obtain⟨a,S,⟨xs,T⟩,q⟩:=Q;subst S;obtain⟨u,rfl,U⟩:=Ai P;cases U;obtain⟨Y,rv,p1,hz⟩:=t.list T;refine call_enumerate_list p1.isList λg E z hsz hk=>wpAny_pyIter_enum E ?_
 refine⟨l.heap.objs.size+1,[l.heap.objs.size+1,l.heap.objs.size],_,_,O,rfl,t.kept (t':=l.toks) hk,Rr a _ _ (Nat.succ_ne_self _),⟨⟨_,E⟩,z⟩,λb hb=>?_,q⟩
 have n:l.heap.objs.size<=b:=by
  simp only[ab,dr,or_false]at hb;rcases hb with rfl|rfl
  .exact cL _
  .exact aa _
 exact t.fpOk n (t.hok.fresh n)
def ac4(K:Ζ)(n:TA):TI:=λσ H R=>n σ H λvs l=>∃a b,vs=[.ref a,.ref b]/\(∃xs,rz K l a xs)/\(∃ys,rz K l b ys)/\R (Itz K a b) l
def aaR{e f:Expr}{J:TA}{p pos:Pos}(Q:Gl X "zip")(S:X.mg "zip" = none)(ha:PA X [e,f] J)(T:jT [e,f] X.env=[(false,eval e X.env),(false,eval f X.env)]:=by rfl)(n:jT [f] X.env=[(false,eval f X.env)]:=by rfl) :
  PI X (.Tuple elts kk tpos) (.Call (.Name "zip" p) [e,f] [] pos) (ac4 X.K J):=by
 intro U s σ H R I h;refine Call_ (Eh I Q S boot_zip (dw (rQ (ha pos U s σ H _ I h) λus l ⟨vs,Y,t,r1,q1⟩=>?_) (by rw[T,n]) (by rw[n];rfl)))
 obtain⟨a,b,e1,⟨xs,z⟩,⟨ys,B⟩,q⟩:=q1;subst e1;obtain⟨u,v,rfl,ru,rv⟩:=Oh r1;cases ru;cases rv;obtain⟨L,_,p1,_⟩:=t.list z;obtain⟨M,_,p2,_⟩:=t.list B;refine call_zip_2 p1.isList p2.isList λg O E G h1 h2 hsz hk=>wpAny_pyIter_zip O ?_
 refine⟨l.heap.objs.size+4,[l.heap.objs.size+4,l.heap.objs.size+2,l.heap.objs.size+3,l.heap.objs.size,l.heap.objs.size+1],_,_,Y,rfl,t.kept (t':=l.toks) hk,
  UQ a b _ _ _ _ _ (adj l.heap.objs.size),⟨O,E,⟨_,_,G⟩,h1,h2⟩,λc P=>?_,q⟩
 have x:l.heap.objs.size<=c:=by
  simp only[ab,dr,or_false]at P;rcases P with rfl|rfl|rfl|rfl|rfl
  .exact ef _ _
  .exact ef _ _
  .exact ef _ _
  .exact aa _
  .exact ef _ _
 exact t.fpOk x (t.hok.fresh x)
end
def Vk{K:Ζ}{a:Addr}{xs:List V}{z B:Nat}{E:TS}{D:AN}{σ:St}{H:Hp}(l:Nat->St->Hp->Prop)(I:l 0 σ H)(hl:∀i σ H,i<=xs.length->l i σ H->rz K H a xs)
  (J:∀i x σ H T,xs[i]?=some x->l i σ H->H T=none->E { D with nx:=l (i+1),ct:=l (i+1),bk:=D.nx } ((σ.set z (some (.int i))).set B (some x)) (qC H T (.tup [.int i,x]))) (hd:∀σ H,l xs.length σ H->D.nx σ H) :
  ∃W:Nat->Nat->St->Hp->Prop,(∃m,W 0 m σ H)/\∀i m σ H,W i m σ H ->
   ((Ite K a).stop i H/\D.nx σ H)∨((Ite K a).go i H/\∃N:St->Hp->Prop,(∀n s,N n s->∃G,G<m/\W (i+1) G n s)/\∀x s,(Ite K a).yld i H x s->Mo K 2 (Aj (rS z) (Aj (rS B) Mx)) x σ s λu L=>E { D with nx:=N,ct:=N,bk:=D.nx } u L):=by
 refine⟨λi m σ H=>m=xs.length-i/\i<=xs.length/\l i σ H,⟨xs.length,by simp,aT _,I⟩,?_⟩
 rintro i m σ H ⟨rfl,hi,p⟩;have q:=hl i σ H hi p
 by_cases t:i<xs.length
 .refine .inr ⟨⟨xs,xs[i],q,by simp[t]⟩,l (i+1),λn s M=>⟨xs.length-(i+1),by lia,rfl,t,M⟩,λv s y=>?_⟩
  obtain⟨T,x,O,rfl,rfl,P⟩:=y;exact⟨T,_,rfl,Ej.of oS,rfl,_,_,rfl,_,_,rfl,rfl,J i x σ H T (P xs q) p O⟩
 .have e:i=xs.length:=by lia
  subst e;exact .inl ⟨⟨xs,q,aa _⟩,hd σ H p⟩
def WD{K:Ζ}{a b:Addr}{xs ys:List V}{G I:Nat}{J:TS}{D:AN}{σ:St}{H:Hp}(l:Nat->St->Hp->Prop)(M:l 0 σ H)(u:xs.length=ys.length)
  (hl:∀i σ H,i<=xs.length->l i σ H->rz K H a xs/\rz K H b ys)
  (O:∀i x y σ H T,xs[i]?=some x->ys[i]?=some y->l i σ H->H T=none->J { D with nx:=l (i+1),ct:=l (i+1),bk:=D.nx } ((σ.set G (some x)).set I (some y)) (qC H T (.tup [x,y]))) (hd:∀σ H,l xs.length σ H->D.nx σ H) :
  ∃W:Nat->Nat->St->Hp->Prop,(∃m,W 0 m σ H)/\∀i m σ H,W i m σ H ->
   ((Itz K a b).stop i H/\D.nx σ H)∨((Itz K a b).go i H/\∃N:St->Hp->Prop,(∀n s,N n s->∃L,L<m/\W (i+1) L n s)/\∀x s,(Itz K a b).yld i H x s->Mo K 2 (Aj (rS G) (Aj (rS I) Mx)) x σ s λz P=>J { D with nx:=N,ct:=N,bk:=D.nx } z P):=by
 refine⟨λi m σ H=>m=xs.length-i/\i<=xs.length/\l i σ H,⟨xs.length,by simp,aT _,M⟩,?_⟩
 rintro i m σ H ⟨rfl,hi,p⟩;obtain⟨B,E⟩:=hl i σ H hi p
 by_cases t:i<xs.length
 .refine .inr ⟨⟨xs,ys,xs[i],ys[i],B,E,by simp[t],by simp[u ▸ t]⟩,l (i+1),λn s Q=>⟨xs.length-(i+1),by lia,rfl,t,Q⟩,λv s y=>?_⟩
  obtain⟨T,x,y,R,rfl,rfl,S,U⟩:=y;exact⟨T,_,rfl,Ej.of oS,rfl,_,_,rfl,_,_,rfl,rfl,O i x y σ H T (S xs B) (U ys E) p R⟩
 .have e:i=xs.length:=by lia
  subst e;exact .inl ⟨⟨xs,ys,B,E,.inl (aa _)⟩,hd σ H p⟩
section
variable {X:Cx}
def xB{n:Φ}{σ:St}{H:Hp}{s:jJ}{a:Addr}{ns:Ϝ}(I:Inv X n σ H s)(h:rz X.K H a (ns.map V.int)) :
  ∃vs:Ξ,s.heap.IsList a vs.toArray/\ki vs ns/\ns.length<=jP:=by
 obtain⟨l,r,p,z⟩:=I.list h;rw[lMq]at z;exact⟨l,p.isList,CC r,z⟩
def IC(G:X.calm=true):si X (.builtin "min") (λxs H Q=>∃(a:Addr) (ns:Ϝ),xs=[.ref a]/\rz X.K H a (ns.map V.int)/\0<ns.length/\∀M,M∈ns->(∀x,x∈ns->M<=x)->Q (.int M) H):=by
 intro S s σ H xs us Q I r h;obtain⟨a,ns,rfl,J,n,q⟩:=h;obtain⟨u,rfl,L⟩:=Ai r;cases L;obtain⟨T,hl,hi,_⟩:=xB I J;obtain⟨xs,e⟩:=hi.allInts.items;have l:ns=xs.toList.map (·.1):=by
  rw[←hi.numsOf,←nums_intItems,←e]
 have z:0<xs.size:=by
  have B:=n;rw[l,lMq,au]at B;exact B
 rw[e]at hl;refine min_intList (I.ok.hd G) hl z λv U Y O hk=>?_
 obtain⟨t,rfl⟩:=intItems_at O;obtain⟨h1,P⟩:=argBest_lt (numAt xs) (xs.size-1);refine⟨.int _,H,I.kept hk,⟨t,rfl⟩,q _ ?_ λx E=>?_⟩
 .rw[l,numAt_eq];exact PySem.getD_mem (by rw[lMq,au];lia)
 .rw[l]at E;obtain⟨j,R,rfl⟩:=PySem.mem_getD E;rw[lMq,au]at R;rw[←numAt_eq];exact P j (by lia)
def Vr(K:Ζ):V->List V->Hp->VK->Prop:=λx vs H Q=>∃(a:Addr) (ns:Ϝ) (k:Int),x = .ref a/\vs=[.int k]/\rz K H a (ns.map V.int)/\k∈ns/\Q (.int (ns.idxOf k:Nat)) H
def FG:MtR X "list.index" (Vr X.K):=by
 intro oh s σ H x xs v us Q I P r h;obtain⟨a,ns,k,rfl,rfl,R,hk,q⟩:=h;cases P;obtain⟨u,rfl,t,rfl⟩:=Ai r;obtain⟨l,S,⟨o,n,L,M,z,hd⟩,T⟩:=I.list R;have hi:=CC S;obtain⟨cls,dd,O,U⟩:=o;simp only at M z hd;subst M z hd;have B:=hi.length;have E:ns.idxOf k<ns.length:=cA.mpr hk;have hs:jP=16777216:=ka;rw[lMq]at T;refine kC cD ⟨_,L,rfl⟩ gJ (gB _ _)
  (SeqAt.list_indexAt a l.toArray n none U (.int k t) (isInt k) (ns.idxOf k) (by simpa[B]using E) (by lia) ?_ ?_) ⟨L,λy Y=>(eq_isInt k t hi y (by simpa using Y)).at _ _,?_⟩
 .show isInt k l[ns.idxOf k]=true;rw[isInt_at k hi _ (by lia) E]
  simpa using eD E
 .intro j G J;show isInt k l[j]=false;rw[isInt_at k hi j (by simpa using G) (by lia)]
  exact ne_of_lt_idxOf J _
 .exact⟨.int _,H,I.tok _,⟨_,rfl⟩,q⟩
def ab0(K:Ζ)(x:V)(H:Hp)(T:String)(b:Bool):Prop:=
 match x with
 | .int _=>(T = "int" /\ b=true)∨(T = "bool" /\ b=false)
 | .bl _=>(T = "bool" /\ b=true)∨(T = "int" /\ b=true)
 | .str _=>T = "str" /\ b=true
 | .ref p=>(T = "list" /\ b=true/\∃xs,rz K H p xs)∨(T = "dict" /\ b=true/\∃kvs,H p=some (.dK kvs))∨(T = "tuple" /\ b=true/\∃xs,Ej K H p xs)
 |_=>False
def uy:si X (.builtin "isinstance") (λxs H Q=>∃x T b,xs=[x,.ty T]/\ab0 X.K x H T b/\Q (.bl b) H):=by
 intro E s σ H xs us Q I r h;obtain⟨x,T,b,rfl,e,q⟩:=h;obtain⟨u,v,rfl,l,G⟩:=Oh r;cases G;cases x with
 |int i=>
  obtain⟨t,rfl⟩:=l;rcases e with⟨rfl,rfl⟩|⟨rfl,rfl⟩
  .exact jY (kz (Tx:= "int") F.isi_meta_int F.sub_int_int) ⟨(show s.TypeIs (.int i t) "int" from rfl),⟨.bl true,H,I,rfl,q⟩⟩
  .exact jY (kF (by trivial) F.isi_meta_bool F.sub_int_bool) (show EP X E σ Q (.bool false) { s with toks:=s.toks+1 } from ⟨.bl false,H,I.tok _,rfl,q⟩)
 |bl i=>
  cases l;rcases e with⟨rfl,rfl⟩|⟨rfl,rfl⟩
  .exact jY (kz (Tx:= "bool") F.isi_meta_bool F.sub_bool_bool) ⟨(show s.TypeIs (.bool i) "bool" from rfl),⟨.bl true,H,I,rfl,q⟩⟩
  .exact jY (kz (Tx:= "bool") F.isi_meta_int F.sub_bool_int) ⟨(show s.TypeIs (.bool i) "bool" from rfl),⟨.bl true,H,I,rfl,q⟩⟩
 |str i=>
  obtain⟨t,rfl⟩:=l;obtain⟨rfl,rfl⟩:=e;exact jY (kz (Tx:= "str") F.isi_meta_str F.sub_str_str) ⟨(show s.TypeIs (.str i t) "str" from rfl),⟨.bl true,H,I,rfl,q⟩⟩
 |ref p=>
  cases l;rcases e with⟨rfl,rfl,xs,n⟩|⟨rfl,rfl,z,J⟩|⟨rfl,rfl,xs,n⟩
  .obtain⟨B,L,M,O⟩:=I.list n;exact jY (kz (Tx:= "list") F.isi_meta_list (by rw[mG];kernel_rfl)) ⟨M.isList.typeIs,⟨.bl true,H,I,rfl,q⟩⟩
  .have ty:s.TypeIs (.ref p) "dict" := (abn I (.inl ⟨z,.inl J⟩)).1;exact jY (kz (Tx:= "dict") F.isi_meta_dict (by rw[mG];kernel_rfl)) ⟨ty,⟨.bl true,H,I,rfl,q⟩⟩
  .obtain⟨B,L,⟨o,P,R,_⟩,O⟩:=I.tuple n;exact jY (kz (Tx:= "tuple") F.isi_meta_tuple (by rw[mG];kernel_rfl)) ⟨⟨o,P,R⟩,⟨.bl true,H,I,rfl,q⟩⟩
 |_=>exact(show False from e).elim
end
end Mr
namespace Mr
open PySem L2
structure xC (K:Ζ)(mg:Str->Υ)(x:Str)(st:Stmt)(ps:List Str)(f:Addr)(fd:jX):Prop where
 F:JN K x x st f fd
 m:mg x=some (.ref f)
 b:rR K fd ps []
def vf{H:Hp}{p:Addr}{o:HO}(h:H p=none):Same H (qC H p o):=λb u e=>by
 rw[oQ (qH e h)];exact e
end Mr
namespace Mr
open PySem PySem.Spec PyProof.Rows L2
def Mf{prog:jS}{w:jU}{A:Around}{R:Result->jJ->Prop}{s:jJ}{M l wo:Expr}{O:List Expr}{scope:kJ}{pos:Pos}{X P:Value}{env:Env}(I:Nat->jJ->Prop)
  (turn:∀n s,I n s->jR (jN prog w) A (pyNext X) (λr t=>match r with
   |none=>R (.ok .next) t
   |some v=>jR (jN prog w) A (lB l X v) (λ_ B=>jR (jN prog w) A (mK l env v) (λ_ E=>
     jR (jN prog w) A (forIn O true λc r=>if r=true then do let ok ←mJ c env (eval c env);pure (ForInStep.yield ok)else pure (ForInStep.yield r)) (λok u=>
      if ok=true then jR (jN prog w) A (eval M env) (λx G=>
       jR (jN prog w) A (call (.builtin "list.append") [P,x]) (λ_ H=>∃m,m<n/\I m H) (λ_ _=>False) G) (λ_ _=>False) u
      else ∃m,m<n/\I m u) (λ_ _=>False) E) (λ_ _=>False) B) (λ_ _=>False) t) (λ_ _=>False) s)
  (n:Nat) (h:I n s):lj (jN prog w) A (.compLoop (.ListComp M [⟨l,wo,O,0⟩] scope pos) 0 X P env) R s:=by
 refine codeAny_loop rfl I (λn s Y=>?_) n h
 show jR _ A ((compTurn (.ListComp M [⟨l,wo,O,0⟩] scope pos) 0 X P env).onRaise (λx=>do noteFrame x env;theTreesLotGoes x)) _ _ s
 refine wpAny_noted ?_;rw[compTurn_list];refine jO (wpAny_standAt (jO (kc (turn n s Y) (λr t J=>?_) λ_ _ z=>z.elim)))
 cases r with
 |none=>exact jW J
 |some v=>
  refine jO (kc J (λ_ B Q=>?_) λ_ _ z=>z.elim)
  refine jO (kc Q (λ_ E S=>?_) λ_ _ z=>z.elim)
  refine jO (kc S (λok u L=>?_) λ_ _ z=>z.elim)
  cases ok with
  |false=>exact jW ⟨rfl,L⟩
  |true=>exact jO (jO (kc L (λx G T=>jO (kc T (λ_ H U=>jW (jW ⟨rfl,U⟩)) λ_ _ z=>z.elim)) λ_ _ z=>z.elim))
abbrev uh(X:Cx)(scope:kJ)(cl:List (Str×Addr))(N:List Str)(C:Addr)(s:jJ)(H:Hp)(fp:Δ):Cx where
 prog:=X.prog
 w:=X.w
 K:=X.K
 mg:=X.mg
 base:=X.base
 A:=X.A
 N:=N
 s₀:=s
 H₀:=H
 env:=compEnvC scope cl C X.env
 outer:=X.stack
 stack:=X.stack
 ex:=fp
 fn:=λ_=>false
 calm:=X.calm
 pn:=[]
 xe:=λ_ _=>False
def PF(X:Cx)(l:List Expr)(t:TT):Prop:=
 ∀(n:Φ) (s:jJ) (σ:St) (H:Hp) (Q:Bool->Hp->Prop),Inv X n σ H s->t σ H Q ->
  jR (jN X.prog X.w) X.A (forIn l true λc r=>if r=true then do let ok ←mJ c X.env (eval c X.env);pure (ForInStep.yield ok)else pure (ForInStep.yield r)) (TP X n σ Q) X.xe s
noncomputable def aeK:TT:=λ_ H Q=>Q true H
def yy{X:Cx}:PF X [] aeK:=λ_ _ _ H _ I h=>wpAny_tests_nil ⟨H,I,h⟩
noncomputable def FV{X:Cx}{c:Expr}{t:TT}(h:PT X c t):PF X [c] t:=λl s σ H Q I q=>wpAny_tests_one (h l s σ H Q I q)
structure ue (X:Cx)(scope:kJ)(cl:List (Str×Addr))(x:Str)(N:List Str)(fr:Θ):Prop where
 names:N.Nodup
 own:N[0]?=some x
 len:N.length=fr.length+1
 sub:∀y c,cl.lookup y=some c->X.env.cells.lookup y=some c
 has:∀y,((lH scope X.env).names.lookup y=some .cell∨(lH scope X.env).names.lookup y=some .free)->∃c,cl.lookup y=some c
 get:∀(k j:Nat) (y:Str),fr[k]?=some j->N[k+1]?=some y->X.N[j]?=some y/\X.env.scope.names.lookup y=some .cell/\(lH scope X.env).names.lookup y=some .cell
def ue.none{X:Cx}{scope:kJ}{x:Str}(h:∀p∈scope.names,p.2 ≠ .cell/\p.2 ≠ .free):ue X scope [] x [x] [] where
 names:=by simp
 own:=rfl
 len:=rfl
 sub:=λy c e=>by cases e
 has:=λy e=>by
  exfalso;have key:∀p∈(lH scope X.env).names,p.2 ≠ .cell/\p.2 ≠ .free:=by
   intro p s;obtain⟨q,t,rfl⟩:=mMq.mp s;obtain⟨n,k⟩:=q;obtain⟨u,l⟩:=h _ t;have hk:(k == NameKind.free)=false:=by simpa using l
   simp only[hk,ju];exact⟨u,l⟩
  rcases e with e|e
  .exact(key _ (PySem.mem_of_lookup e)).1 rfl
  .exact(key _ (PySem.mem_of_lookup e)).2 rfl
 get:=λk j y e _=>by cases e
noncomputable def slots(σ:St)(fr:Θ):St:=fr.map λj=>(σ[j]?).join
def PQ(B:TI)(fr:Θ)(tf:TT)(te:TE):TE:=λσ H Q=>B σ H λJ s=>∀l,s l=none->∃W:Nat->Nat->Hp->Prop,(∃m,W 0 m (qC s l (.lst [])))/\∀i m H,W i m H ->
 (J.stop i H/\Q (.ref l) H) ∨
 (J.go i H/\∃N:Hp->Prop,(∀n,N n->∃t,t<m/\W (i+1) t n)/\∀x n,J.yld i H x n->tf (some x::slots σ fr) n λb u=>
  if b=true then te (some x::slots σ fr) u λy z=>∃ys,z l=some (.lst ys)/\ys.length<jP/\N (qC z l (.lst (ys++[y])))else N u)
section
variable {X:Cx}{scope:kJ}{cl:List (Str×Addr)}{N:List Str}{fr:Θ}{x:Str}{px pos:Pos}{elt wo:Expr}{ifs:List Expr}{tf:TT}{te:TE}
def GX{oh:Φ}{σ:St}{H:Hp}{s:jJ}{E:Value->jJ->Prop}{J:It}{fp:Δ}{it:Addr}{tn:Nat->Heap->Prop}{RR:Value->Addr->Result->jJ->Prop}{Q:VK}
  (hc:X.calm=true) (hcell:∀y∈scope.names,y.2 ≠ .cell) (hkind:scope.kind = .function) (hx:scope.names.lookup x=some .local) (U:ue X scope cl x N fr)
  (hf:∀C s H fp,PF (uh X scope cl N C s H fp) ifs tf) (he:∀C s H fp,PE (uh X scope cl N C s H fp) elt te)
  (I:Inv X oh σ H s) (T:NG X.prog X.w X.K (.Name x px) J fp it tn) (st:tn 0 s.heap) (O:∀b∈fp,EU X oh H b)
  (h:∀L,H L=none->∃W:Nat->Nat->Hp->Prop,(∃m,W 0 m (qC H L (.lst [])))/\∀i m H,W i m H ->
   (J.stop i H/\Q (.ref L) H) ∨
   (J.go i H/\∃N:Hp->Prop,(∀R,N R->∃m',m'<m/\W (i+1) m' R)/\∀x R,J.yld i H x R->tf (some x::slots σ fr) R λb H2=>
    if b=true then te (some x::slots σ fr) H2 λy H3=>∃ys,H3 L=some (.lst ys)/\ys.length<jP/\N (qC H3 L (.lst (ys++[y])))else N H2))
  (fin:∀L C s' Hf m,Inv X oh σ Hf s'->s'.heap.Ns C m->EU X oh Hf C->Q (.ref L) Hf->RR (.ref L) C (.ok .next) s') :
  jR (jN X.prog X.w) X.A (newList []) (λL S=>jR (jN X.prog X.w) X.A (newFunctionEnv scope X.env.globals cl [] X.env.qual none .none (some X.env)) (λcenv s₄=>
   lj (jN X.prog X.w) X.A (.compStart (.ListComp elt [⟨.Name x px,wo,ifs,0⟩] scope pos) 0 (.ref it) L { cenv with scope:=lH scope X.env }) (RR L cenv.locals) s₄) E S) E s:=by
 refine wpAny_newObj_type (wpAny_newFunctionEnv hcell (by intro y hy;simp at hy) (λM P B=>?_) hkind)
 dsimp only at P B ⊢;generalize hG:s.heap.push { cls:=.type "list", dict:=none,data:=.seq ([]:Ξ).toArray }=G at P B ⊢;have hC:G.objs.size=s.heap.objs.size+1:=by rw[←hG,ik]
 have hCle:s.heap.objs.size<=G.objs.size:=by rw[hC];exact cL _
 have hDC:s.heap.objs.size≠G.objs.size:=by rw[hC];exact aN (ee _)
 have below:∀b,b<s.heap.objs.size->b≠G.objs.size:=λb hb=>by rw[hC];exact aN (dP hb)
 have old:∀b o,s.heap.get? b=some o->M.get? b=some o:=λb o e=>B.extBut b o (below b (ar e)) (ak _ (hG ▸ ak _ e))
 have hacc:M.get? s.heap.objs.size=some { cls:=.type "list", data:=.seq ([]:Ξ).toArray }:=B.extBut _ _ hDC (ak _ (hG ▸ bu _ rfl));have hn:H s.heap.objs.size=none:=I.hok.fresh (aa _);have hnC:H G.objs.size=none:=I.hok.fresh hCle;have fpl:∀b∈fp,b<s.heap.objs.size:=λb hb=>by
  obtain⟨o,q,_⟩:=T.obj 0 _ st b hb;exact ar q
 obtain⟨W,⟨m0,w0⟩,turn⟩:=h _ hn;have ok':(uh X scope cl N G.objs.size s H fp).Ok:=by
  refine⟨I.ok.mod,by show(lH scope X.env).kind = .function;exact hkind,I.ok.glob,I.ok.blt,hCle,λy z c h1 h2=>I.ok.inj y z c (U.sub y c h1) (U.sub z c h2),U.has,λ_ _ z _=>(by cases z),I.ok.hd,I.ok.frames,.inl rfl,
   λb hb=>⟨below b (fpl b hb),λy c e=>(O b hb).2.2.2.2.1 y c (U.sub y c e)⟩,λb o e=>⟨(I.bs b o e).1,(I.bs b o e).2⟩,bX I.ok.bsz I.sz,λb o e hb=>?_,λb hb z=>?_,I.stack,I.stkFree⟩
  .rcases(O b hb).2.2.2.1 with q|q
   .exact I.ok.noex b o e q
   .exact absurd (aU (ar (I.ok.bs b o e).1) q) (dN _)
  .rcases ab.mp (I.stkSub b z)with q|q
   .exact(O b hb).2.1 q
   .exact(O b hb).2.2.1 q
 have I0:Inv (uh X scope cl N G.objs.size s H fp) [] (none::slots σ fr) (qC H s.heap.objs.size (.lst [])) { s with heap:=M,toks:=s.toks+([]:List (Str×Value)).length }:=by
  have hok1:CJ X.prog X.w (qC H s.heap.objs.size (.lst [])) M:=I.hok.laid old (aa _) ⟨aT _,[],0,.nil,hacc⟩;refine⟨ok',rfl,I.bare,Un.laid old (aa _) hn,⟨_,P,λk y v e1 e2 e3=>?_⟩,λy c e=>?_,?_,λy c e=>?_,λp hp=>absurd (show p∈([]:Φ)from hp) (by simp),hok1,?_⟩
  .cases k with
   |zero=>cases e2
   |succ k=>
    have Y:(slots σ fr)[k]?=some (some v):=e2;unfold slots at Y;rw[gMq]at Y;cases ej:fr[k]? with
    |none=>rw[ej]at Y;cases Y
    |some j=>
     rw[ej]at Y;have e2j:(σ[j]?).join=some v:=aw.inj Y;have e2s:σ[j]?=some (some v):=by
      cases q:σ[j]? with
      |none=>rw[q]at e2j;cases e2j
      |some z=>rw[q]at e2j;exact congrArg some e2j
     obtain⟨g1,g2,g3⟩:=U.get k j y ej e1;obtain⟨m,_,hl⟩:=I.loc;obtain⟨u,r,l⟩:=hl j y v g1 e2s (.inr (.inl g2));refine⟨u,r,.inr ⟨.inl g3,?_⟩⟩;obtain⟨c,e⟩:=U.has y (.inl g3);have e':=U.sub y c e;rcases l with⟨l1,_⟩|⟨_,c',ec,hcell'⟩
     .have l1':X.env.scope.names.lookup y=some .local:=l1;rw[g2]at l1';cases l1'
     .rw[e']at ec;cases ec;obtain⟨o,ho,hd⟩:=hcell';exact⟨c,e,o,old c o ho,hd⟩
  .obtain⟨v,o,ho,hd⟩:=I.cell y c (U.sub y c e);exact⟨v,o,old c o ho,hd⟩
  .show qC H s.heap.objs.size (.lst []) G.objs.size=none;rw[oQ (Ne.symm hDC)];exact hnC
  .obtain⟨v,o,ho,hd⟩:=I.cell y c (U.sub y c e);rw[oQ (aN (ar ho))];exact I.freeC y c (U.sub y c e)
  .show(none::slots σ fr).length=N.length;rw[U.len,lCq];unfold slots;rw[lMq]
 have st1:tn 0 M:=T.keep 0 _ _ st λb _ o e=>old b o e
 have nd:N.Nodup:=U.names;have nf0:∀b∈fp,qC H s.heap.objs.size (.lst []) b=none:=λb hb=>by
  rw[oQ (aN (fpl b hb))];exact(O b hb).1
 have stat:∀{R:Hp},(∀b∈fp,R b=none)->∀b∈fp,EU (uh X scope cl N G.objs.size s H fp) [] R b:=λhn' b hb=>
  ⟨hn' b hb,below b (fpl b hb),ok'.exfs b hb,.inl hb,λy c e=>(ok'.exf b hb).2 y c e,λp hp=>absurd (show p∈([]:Φ)from hp) (by simp)⟩
 have loop:∀S:jJ,S={ s with heap:=M,toks:=s.toks+([]:List (Str×Value)).length } ->
   lj (jN X.prog X.w) X.A (.compLoop (.ListComp elt [⟨.Name x px,wo,ifs,0⟩] scope pos) 0 (.ref it) (.ref s.heap.objs.size) (compEnvC scope cl G.objs.size X.env)) (RR (.ref s.heap.objs.size) G.objs.size) S:=by
  rintro S rfl;refine Mf (λn s'=>∃i v0 R,Inv (uh X scope cl N G.objs.size s H fp) [] (v0::slots σ fr) R s'/\tn i s'.heap/\(∀b∈fp,R b=none)/\W i n R) ?_ m0 ⟨0,none,_,I0,st1,nf0,w0⟩
  rintro n s4 ⟨i,v0,H4,I4,st4,nf4,w4⟩;rcases turn i n H4 w4 with⟨stop,q⟩|⟨go,Nx,hNx,step⟩
  .refine rQ (T.done (uh X scope cl N G.objs.size s H fp) rfl rfl rfl hc i [] s4 (v0::slots σ fr) H4 (λ_ _=>False) I4 (stat nf4) st4 stop) λr s5 t=>?_
   obtain⟨hr,I5⟩:=t;subst hr;obtain⟨m,hm,_⟩:=I5.loc;have I6:Inv X oh σ H4 s5:=I.call' (ch:=fp) I5.os I5.base I5.hok I5.bare λb hb=>⟨(O b hb).2.2.2.1,(O b hb).2.1,(O b hb).2.2.2.2.1,(O b hb).2.2.2.2.2⟩
   exact fin _ _ s5 H4 m I6 hm (I.fpOk hCle I5.free) q
  .refine rQ (T.item (uh X scope cl N G.objs.size s H fp) rfl rfl rfl hc i [] s4 (v0::slots σ fr) H4 (λ_ _=>False) I4 (stat nf4) st4 go) λr s5 t=>?_
   obtain⟨u,hr,h5⟩:=t;subst hr;refine rQ h5 λ_ s6 t=>?_
   obtain⟨y,H6,I6,r6,y6,st6,nf6⟩:=t;have I6':=I6.pinned (stat nf6) (T.obj _ _ st6);have pg:PG (uh X scope cl N G.objs.size s H fp) (.Name x px) (rS 0):=Jm nd U.own (.inl (mL hx)) (.inr (mL hx));refine rQ (pg _ s6 (v0::slots σ fr) H6 y u (λσ2 H2=>σ2=some y::slots σ fr/\H2=H6) I6' r6 ⟨rfl,rfl⟩) λ_ s7 t=>?_
   obtain⟨σ7,H7,I7,e7,e8⟩:=t;subst e7 e8;refine rQ (hf _ _ _ _ _ s7 _ _ _ I7 (step y _ y6)) λb s8 t=>?_
   obtain⟨H8,I8,q8⟩:=t;have again:∀{s9:jJ}{H9:Hp},Inv (uh X scope cl N G.objs.size s H fp) ([]++FX fp s6.heap) (some y::slots σ fr) H9 s9->Nx H9->∃m,m<n/\∃i v0 R,Inv (uh X scope cl N G.objs.size s H fp) [] (v0::slots σ fr) R s9/\tn i s9.heap/\(∀b∈fp,R b=none)/\W i m R:=λ{s9 H9} I9 n9=>by
    obtain⟨m',hm,w9⟩:=hNx H9 n9;refine⟨m',hm,i+1,some y,H9,I9.unpinned,T.keep _ _ _ st6 λb hb o e=>(I9.pin (b,o) (aq _ (aq _ (zG hb e)))).1,λb hb=>?_,w9⟩
    obtain⟨o,e,d⟩:=T.obj _ _ st6 b hb;exact(I9.pin (b,o) (aq _ (aq _ (zG hb e)))).2.1
   cases b with
   |false=>exact again I8 q8
   |true=>
    refine rQ (he _ _ _ _ _ s8 _ _ _ I8 q8) λz s9 t=>?_
    obtain⟨zv,H9,I9,r9,ys,a9,l9,n9⟩:=t;refine rQ (qk (X:=uh X scope cl N G.objs.size s H fp) _ s9 _ H9 (.ref s.heap.objs.size) [zv] (.ref s.heap.objs.size) [z] (λ_ R=>R=qC H9 s.heap.objs.size (.lst (ys++[zv]))) I9 rfl (.cons r9 .nil) ⟨_,ys,zv,rfl,rfl,a9,l9,rfl⟩) λ_ s10 t=>?_
    obtain⟨_,H10,I10,_,e10⟩:=t;subst e10;exact again I10 n9
 exact codeAny_compStart_list (loop _ rfl) (T.self X.A 0 _ _ _ st1 (loop _ rfl))
def ud{E:TI}(L:X.calm=true)(t:closureFor scope X.env=pure cl)(u:∀y∈scope.names,y.2 ≠ .cell)(l:scope.kind = .function)(n:∀y∈scope.names,y.2 = .local->scope.names.lookup y.1=some .local)
  (M:scope.names.lookup x=some .local) (O:ue X scope cl x N fr) (hi:PI X (.Name x px) wo E) (P:∀C s H fp,PF (uh X scope cl N C s H fp) ifs tf) (R:∀C s H fp,PE (uh X scope cl N C s H fp) elt te)
  (S:∀x,lQ wo X.env x=pure x:=by intro _;rfl):PE X (.ListComp elt [⟨.Name x px,wo,ifs,0⟩] scope pos) (PQ E fr tf te):=by
 intro G s σ H Q I h;rw[eval_ListComp];refine mh (use:=none) rfl S t l n (rQ (hi G s σ H _ I h) λv s1 U=>rQ U λY s2 h2=>?_)
 obtain⟨it,fp,tn,J,H2,e,I2,T,Ko,f2,q2⟩:=h2;subst e;refine GX (RR:=λz C=>compPost (jN X.prog X.w) X.A X.xe none (EP X G σ Q) z C) L u l M O P R I2 T Ko f2 q2 ?_
 intro z C s' Hf m I' hm B q;refine⟨m,hm,λh' sb=>⟨.ref z,Hf,?_,rfl,q⟩⟩
 exact I'.turned (t':=s'.toks) (λb o hb e=>(sb.2 b hb).trans e) B.1 B.2.1 B.2.2.2.1 B.2.2.2.2.1 B.2.2.2.2.2
def Pb{wi:TI}{y:Str}{i:Nat}{py B:Pos}(hc:X.calm=true)(hN:X.N.Nodup)(hi0:X.N[i]?=some y)(hy:Loc X.env.scope y)(E:closureFor scope X.env=pure cl)(G:∀y∈scope.names,y.2 ≠ .cell)(l:scope.kind = .function)
  (n:∀y∈scope.names,y.2 = .local->scope.names.lookup y.1=some .local)
  (hx:scope.names.lookup x=some .local) (hF:ue X scope cl x N fr) (hi:PI X (.Name x px) wo wi) (hf:∀C s H fp,PF (uh X scope cl N C s H fp) ifs tf) (he:∀C s H fp,PE (uh X scope cl N C s H fp) elt te)
  (R:lJ (.ListComp elt [⟨.Name x px,wo,ifs,0⟩] scope pos) (some (.Name y py)) B.line X.env=pure true:=by rfl) (hs:∀x,lQ wo X.env x=pure x:=by intro _;rfl)
  (S:X.fn y=true∨X.env.scope.names.lookup y=some .local:=by trivial) :
  PS X (.Assign [.Name y py] (.ListComp elt [⟨.Name x px,wo,ifs,0⟩] scope pos) B) (HD (PQ wi fr tf te) (rS i)):=by
 intro O s σ H D I h;rw[exec_Assign_Name_used _ _ _ _ R];refine jO (wpAny_standAt (jO ?_));show jR _ X.A (do let _ ←comprehension (.ListComp elt [⟨.Name x px,wo,ifs,0⟩] scope pos) scope X.env _ (newList []) false (eval wo X.env) (some (mK (.Name y py) X.env))) _ _ s
 refine jO (kc (mh (use:=some (mK (.Name y py) X.env)) (Q:=λ_ L=>SP X O D .next L) rfl hs E l n
  (rQ (hi O s σ H _ I h) λv s1 h1=>rQ h1 λitv s2 h2=>?_)) (λ_ L hq=>jW (jW hq)) λ_ _ e=>e)
 obtain⟨it,fp,tn,J,H2,e,P,T,Ko,f2,U⟩:=h2;subst e;refine GX (RR:=λt C=>compPost (jN X.prog X.w) X.A X.xe (some (mK (.Name y py) X.env)) (λ_ L=>SP X O D .next L) t C) (Q:=λv H'=>D.nx (σ.set i (some v)) H') hc G l hx hF hf he P T Ko f2 U ?_
 intro t C L Hf m I' hm M q;obtain⟨o,es,ep,ho,hd,r⟩:=id hm;have I1:Inv X (O++[(C,o)]) σ Hf L:=I'.pins_of λp hp=>(mAq.mp hp).elim (λz=>I'.pin p (aq _ z)) λz=>by
  have e:p=(C,o):=by simpa using z
  subst e;exact⟨ho,M.1,M.2.1,M.2.2.1,λv z=>by rw[hd]at z;cases z⟩
 refine rQ (Jm (X:=X) (i:=i) (pos:=py) hN hi0 hy S _ L σ Hf (.ref t) (.ref t) _ I1 rfl q) λ_ s2 Y=>?_
 obtain⟨σ2,H2,P,U⟩:=Y;have pC:=P.pin (C,o) (aq _ (aq _ (by simp)))
 refine⟨m,⟨o,es,ep,pC.1,hd,r⟩,λh' sb=>⟨σ2,H2,?_,U⟩⟩
 exact P.unpinned.turned (t':=s2.toks) (λb u hb e=>(sb.2 b hb).trans e) pC.2.1 M.2.1 M.2.2.2.1 M.2.2.2.2.1 M.2.2.2.2.2
end
end Mr
namespace MrS
open PySem PyProof.Rows
section
variable {prog:jS}{w:jU}{A:Around}{E:Value->jJ->Prop}{s:jJ}{Pk:jK->Prop}{lt:jK->jK->Bool}
noncomputable abbrev vW(h:Heap)(a:Addr)(vs:Ξ):Heap:=((h.update a (Obj.mapSeq λ_=>#[])).push (jZ "tuple" vs.toArray 0)).push (jZ "list" #[] 0)
def BX{a:Addr}{vs:Ξ}{n:Nat}{P:PySem.Fin->jJ->Prop}(B:s.heap.get? a=some (jZ "list" vs.toArray n))(R:vs.length<=jP)
  (I:2<=vs.length->∀Q:km->jJ->Prop,Q kH { s with heap:=vW s.heap a vs }->jR (jN prog w) A (keyKind' vs.toArray) Q E { s with heap:=vW s.heap a vs })
  (C:Bm prog w A { s with heap:=vW s.heap a vs } kH Pk lt) (M:∀x,x∈kA vs->Pk x)
  (h:∀xs:Array jK,xs.Perm (kA vs)->B4 lt xs 0 (kA vs).size->P (.done (.ret .none)) { s with heap:=lR s.heap a vs (xs.map (·.2)) }) :
  jR (jN prog w) A (Builtin.«list.sort» ⟨[.ref a],[]⟩) P E s:=by
 rw[list_sort_plain];have ha:a<s.heap.objs.size:=ar B;refine jO (listItems_at B rfl ?_);refine jO (mP B rfl ?_ (hsz:=by simpa using R))
 obtain⟨J,t⟩:∃J,(s.heap.update a (Obj.mapSeq λ_=>#[])).get? a=some (jZ "list" #[] J):=⟨_,mq B (λ_=>#[])⟩
 refine jO (mR t rfl ?_);refine jO (wpAny_newTuple ?_);refine jO (lN ?_);refine mN ?_;have l:(vW s.heap a vs).get? a=some (jZ "list" #[] J):=by
  rw[fu _ _ _ (by rw[size_push',eW];exact aN (dP ha)),fu _ _ _ (by rw[eW];exact aN ha)]
  exact t
 show jR (jN prog w) A _ P E { s with heap:=vW s.heap a vs }
 dsimp only;have S:vs.toArray.size=vs.length:=by simp
 have T:jP=16777216:=ka
 by_cases G:vs.toArray.size<2
 .rw[pB G,pB G];refine jO (jW ?_);rw[StateT.run_pure];refine jO (jW ?_);dsimp only;refine jO (mR l rfl ?_);refine jO (mP l rfl ?_ (hsz2:=by rw[jw];show(kA vs).size<=_;rw[lC,ka];lia))
  simp only[bne_self_eq_false,eE,if_false];refine jW (h _ (jt.refl _) ?_);intro i j x y _ U X ex O;have:i=j:=by rw[lC]at X;lia
  subst this;rw[ex]at O;cases O;exact C.refl (M x (aQq ex))
 .rw[oZ G,oZ G];refine jO (I (by lia) _ ?_)
  refine jO (kc (J3 C (arr:=kA vs) (g:=7) (E:=E)
   (Q:=λ_ u=>∃xs p H,u=zu kH xs p H/\xs.Perm (kA vs)/\B4 lt xs 0 (kA vs).size) M (by rw[lC];lia) λxs p H Y a2=>⟨xs,p,H,rfl,Y,a2⟩) ?_ λ_ _ e=>e)
  rintro⟨⟨⟩,u⟩ s' ⟨rfl,xs,p,H,rfl,z,L⟩;dsimp only;refine jO (mR l rfl ?_);refine jO (mP l rfl ?_ (hsz2:=by refine bX (fj ((jw ..).trans (z.size_eq.trans (lC _)))) ?_;lia))
  simp only[bne_self_eq_false,eE,if_false];exact jW (h xs z L)
def OP{h:Heap}{a:Addr}{xs:Ω}{n:Nat}(vs:Ξ)(u:h.get? a=some (jZ "list" xs n)):∃l,(vW h a vs).get? a=some (jZ "list" #[] l):=by
 have ha:a<h.objs.size:=ar u;obtain⟨l,t⟩:∃l,(h.update a (Obj.mapSeq λ_=>#[])).get? a=some (jZ "list" #[] l):=⟨_,mq u (λ_=>#[])⟩
 refine⟨l,?_⟩;rw[fu _ _ _ (by rw[size_push',eW];exact aN (dP ha)),fu _ _ _ (by rw[eW];exact aN ha)]
 exact t
noncomputable def Pr{h:Heap}{a:Addr}{xs:Ω}{n:Nat}(ys:Ω)(l:h.get? a=some (jZ "list" xs n)):∃n1,(h.update a (Obj.mapSeq λ_=>ys)).get? a=some (jZ "list" ys n1):=⟨_,mq l (λ_=>ys)⟩
def yd{vs:Ξ}{x:jK}(h:x∈kA vs):x.1∈vs/\x.2=x.1:=by
 obtain⟨i,hi,e⟩:=Array.mem_iff_getElem.mp h;have l:i<vs.length:=by rw[lC]at hi;exact hi
 have:x=(vs[i],vs[i]):=by
  rw[←e];simp[kA]
 rw[this];exact⟨gRq l,rfl⟩
def ER{vs:Ξ}{xs:Array jK}(t:xs.Perm (kA vs))(B:B4 lt xs 0 (kA vs).size) :
  (xs.map (·.2)).toList.Perm vs/\(xs.map (·.2)).toList.Pairwise (λx y=>lt (y,y) (x,x)=false):=by
 constructor
 .have:=t.toList.map (·.2);have e:(kA vs).toList.map (·.2)=vs:=by
   have:(kA vs).toList=vs.zip vs:=by simp[kA]
   rw[this];apply List.ext_getElem
   .simp
   .intro i M O;simp
  rw[e]at this;rw[Array.toList_map];exact this
 .rw[cO];intro i j hi G u;have n:i<xs.size:=by simpa using hi
  have l:j<xs.size:=by simpa using G
  have z:=B i j xs[i] xs[j] (aT _) (cC u) (by rw[←t.size_eq];exact l) (by simp[n]) (by simp[l])
  have H:=yd (t.mem_iff.mp (aX n));have I:=yd (t.mem_iff.mp (aX l));have J:xs[i]=(xs[i].2,xs[i].2):=jk H.2.symm rfl;have L:xs[j]=(xs[j].2,xs[j].2):=jk I.2.symm rfl;rw[J,L]at z;simpa using z
def FF{l:Addr}{vs:Ξ}{Q:Value->jJ->Prop}(hl:s.heap.IsList l vs.toArray)(H:vs.length<=jP)
  (J:∀u:jJ,(∀b o,s.heap.get? b=some o->u.heap.get? b=some o)->(2<=vs.length->∀Q:km->jJ->Prop,Q kH u->jR (jN prog w) A.in1.in1 (keyKind' vs.toArray) Q E u)/\Bm prog w A.in1.in1 u kH Pk lt)
  (L:∀v∈vs,Pk (v,v))
  (h:∀(out:Ξ) (h':Heap) (M:Nat),out.Perm vs->out.Pairwise (λx y=>lt (y,y) (x,x)=false)->(∀b o,s.heap.get? b=some o->h'.get? b=some o) ->
   h'.get? (s.heap.objs.size+1)=some (jZ "list" out.toArray M)->Q (.ref (s.heap.objs.size+1)) { s with heap:=h' }) :
  jR (jN prog w) A (call (.builtin "sorted") [.ref l]) Q E s:=by
 refine Calls.call_function_entry kind_sorted plain_sorted entry_sorted (args_sorted1 _) ?_;unfold Builtin.«sorted»;refine jO (m:=checkCount "sorted" 1 1 _) (jW ?_);refine jO (collect_list hl ?_ H);refine jO (lN ?_);have t:((s.heap.push (jZ "list" #[] 0)).update s.heap.objs.size (Obj.mapSeq (· ++ vs.toArray))).objs.size=s.heap.objs.size+1:=by
  rw[eW,size_push']
 have n:(((s.heap.push (jZ "list" #[] 0)).update s.heap.objs.size (Obj.mapSeq (· ++ vs.toArray))).push (jZ "list" vs.toArray 0)).get? (s.heap.objs.size+1)=some (jZ "list" vs.toArray 0):=by
  rw[←t];exact bu _ rfl
 show jR _ _ _ _ _ { s with heap:=((s.heap.push (jZ "list" #[] 0)).update s.heap.objs.size (Obj.mapSeq (· ++ vs.toArray))).push (jZ "list" vs.toArray 0) }
 rw[t];generalize O:((s.heap.push (jZ "list" #[] 0)).update s.heap.objs.size (Obj.mapSeq (· ++ vs.toArray))).push (jZ "list" vs.toArray 0)=G at n ⊢;have P:∀b o,s.heap.get? b=some o->G.get? b=some o:=λb o e=>by
  rw[←O];refine ak _ ?_;rw[eh _ _ _ _ (aN (ar e))];exact ak _ e
 have I:∀b o,s.heap.get? b=some o->(vW G (s.heap.objs.size+1) vs).get? b=some o:=λb o e=>by
  refine ak _ (ak _ ?_);rw[eh _ _ _ _ (aN (dP (ar e)))];exact P b o e
 obtain⟨R,S⟩:=J { s with heap:=vW G (s.heap.objs.size+1) vs } I
 refine jO (mN (wpAny_call_entry slot_list_sort ⟨_,n,rfl⟩ entry_list_sort (BX (Pk:=Pk) (lt:=lt) n H R S (λx T=>?_) λz U X=>⟨_,rfl,?_⟩) (args_list_sort _)))
 .obtain⟨Y,m2⟩:=yd T;have:x=(x.1,x.1):=jk rfl m2;rw[this];exact L _ Y
 .obtain⟨v1,v2⟩:=ER U X;obtain⟨e1,B⟩:=OP vs n;obtain⟨n1,g1⟩:=Pr (z.map (·.2)) B;refine jW ⟨_,rfl,h _ (lR G (s.heap.objs.size+1) vs (z.map (·.2))) n1 v1 v2 (λb o e=>?_) ?_⟩
  .unfold lR;rw[eh _ _ _ _ (aN (dP (ar e)))];exact I b o e
  .rw[show(z.map (·.2)).toList.toArray=z.map (·.2)from iu]
   exact g1
end
end MrS
namespace HT
open PySem PyProof.Rows
section
open PySem.SeqAt
open PySem.AutoSeq1 (wpAny_loadPart')
open PySem.MeetsSeq PySem.MeetsSeq2 PySem.MeetsSeq3 PySem.SeqRoads2
def La{vs:Ξ}{ns:Ϝ}(h:ki vs ns):∀{i:Nat}(hi:i<vs.length),∃(z:Int) (t:Tok),vs[i] = .int z t/\ns.drop i=z::ns.drop (i+1):=by
 induction h with
 |nil=>intro i hi;exact absurd hi (cG _)
 |cons a t _ l=>
  intro i hi;cases i with
  |zero=>exact⟨a,t,rfl,rfl⟩
  |succ i=>exact l (i:=i) (by simpa using hi)
def JR(l b:Addr)(B z:Ω)(n n2:Nat)(dd J:Option Addr)(T L:Array Υ)(ns ms:Ϝ)(hi:ki B.toList ns)(Q:ki z.toList ms)(k:Nat) :
  ∀i:Nat,min B.size z.size-i=k->i<=B.size->i<=z.size->Meets (Builtin.«list.__eq__.loop» ⟨[.ref l,.ref b,rawInt i,rawInt 0],[]⟩)
   (λ_ R s=>s.heap.get? l=some { cls:=.type "list", dict:=dd,data:=.seq B n,slots:=T }/\s.heap.get? b=some { cls:=.type "list", dict:=J,data:=.seq z n2,slots:=L } /\
    R (.ok (.ret (.bool (tG (ns.drop i) (ms.drop i))))) s):=by
 have z1:ns.length=B.size:=by rw[←hi.length];simp
 have z2:ms.length=z.size:=by rw[←Q.length];simp
 induction k with
 |zero=>
  intro i hk U X prog w A R s h;obtain⟨M,g,d,O,os⟩:=s;obtain⟨hl,hb,h⟩:=h
  wp_walk using wpAny_loadPart' hl,wpAny_loadPart' hb
  have fin:tG (ns.drop i) (ms.drop i)=decide (B.size<z.size):=by
   by_cases c:i=B.size
   .have Y:ns.drop i=[]:=cI (by lia)
    rw[Y]
    by_cases S:i<z.size
    .rw[aK (by lia:i<ms.length),GT]
     exact(d4 (by lia)).symm
    .rw[cI (by lia:ms.length<=i),HE]
     exact(d6 (by lia)).symm
   .have S:i=z.size:=by lia
    rw[aK (by lia:i<ns.length),cI (by lia:ms.length<=i),FE]
    exact(d6 (by lia)).symm
  rw[fin]at h
  by_cases c:i=B.size
  .have VT:B[((i:Nat):Int).toNat]?=none:=by simp;lia
   rw[VT]
   wp_walk using wpAny_loadPart' hl,wpAny_loadPart' hb
   exact h
  .have S:i=z.size:=by lia
   have VT:B[((i:Nat):Int).toNat]?=some (B[i]'(by lia)):=by simp
   have E:z[((i:Nat):Int).toNat]?=none:=by simp;lia
   rw[VT,E]
   wp_walk using wpAny_loadPart' hl,wpAny_loadPart' hb
   exact h
 |succ k ih=>
  intro i hk U X prog w A R s h;obtain⟨M,g,d,O,os⟩:=s;obtain⟨hl,hb,h⟩:=h
  wp_walk using wpAny_loadPart' hl,wpAny_loadPart' hb
  have I:i<B.size:=by lia
  have G:i<z.size:=by lia
  obtain⟨x,t,ex,dx⟩:=La hi (i:=i) (by simpa using I)
  obtain⟨y,u,ey,dy⟩:=La Q (i:=i) (by simpa using G)
  have VT:B[((i:Nat):Int).toNat]?=some (.int x t):=by
   rw[←ex];simp[I]
  have E:z[((i:Nat):Int).toNat]?=some (.int y u):=by
   rw[←ey];simp[G]
  have hc:((i:Int)+1)=((i+1:Nat):Int):=by push_cast;rfl
  rw[dx,dy,zH]at h;rw[VT,E];obtain⟨e,he,H⟩:=Tq A.in1 ⟨M,g,d,O,os⟩ x t y u;refine jO (he prog w _ _ ?_);cases e with
  |true=>
   rw[pB (H.mp rfl)]at h
   wp_walk
   rw[hc];exact⟨lO plain_eq_loop _,kB entry_eq_loop (by
    rw[Around.under_plainId plain_eq_loop _];exact ih (i+1) (by lia) (by lia) (by lia) prog w A R _ ⟨hl,hb,h⟩)⟩
  |false=>
   rw[oZ (λq=>absurd (H.mpr q) aB)]at h
   have P:=VH A.in1 ⟨M,g,d,O,os⟩ x t y u prog w
   wp_walk using wpAny_loadPart' hl,wpAny_loadPart' hb
   rw[VT,E]
   wp_walk using P
   exact h
def Kf(l b:Addr)(u t:Ω)(n n2:Nat)(dd x:Option Addr)(B z:Array Υ)(ns ms:Ϝ)(hi:ki u.toList ns)(E:ki t.toList ms) :
  Meets (Builtin.«list.__lt__» ⟨[.ref l,.ref b],[]⟩)
   (λ_ R s=>s.heap.get? l=some { cls:=.type "list", dict:=dd,data:=.seq u n,slots:=B }/\s.heap.get? b=some { cls:=.type "list", dict:=x,data:=.seq t n2,slots:=z } /\
    R (.ok (.ret (.bool (tG ns ms)))) s):=by
 intro prog w A R s h;obtain⟨G,g,d,H,os⟩:=s;obtain⟨hl,hb,h⟩:=h;have I:=AutoSeq1.sub_list_list
 wp_walk using wpAny_loadPart' hl,wpAny_loadPart' hb
 exact⟨lO plain_eq_loop _,kB entry_eq_loop (by
  rw[Around.under_plainId plain_eq_loop _];exact JR l b u t n n2 dd x B z ns ms hi E _ 0 rfl (aT _) (aT _) prog w A R _ ⟨hl,hb,h⟩)⟩
end
end HT
namespace Mr
open PySem PySem.Spec PyProof.Rows L2
section
open HT
theorem Gr:∀xs ys:Ϝ,tG xs ys=true->tG ys xs=false
 | [],[],_=>rfl
 | [],_::_,_=>rfl
 |_::_,[],h=>by cases h
 |x::xs,y::ys,h=>by
  rw[zH]at h ⊢
  by_cases e:x=y
  .rw[pB e]at h;rw[pB e.symm];exact Gr xs ys h
  .rw[oZ e]at h;rw[oZ (Ne.symm e)];have l:x<y:=of_decide_eq_true h;exact d6 (by lia)
theorem D9:∀xs ys l:Ϝ,tG ys xs=false->tG l ys=false->tG l xs=false
 | [],[],[],_,_=>rfl
 | [],[],_::_,_,h=>by exact h
 | [],_::_,[],_,h=>by cases h
 | [],_::_,_::_,_,_=>rfl
 |_::_,[],_,h,_=>by cases h
 |_::_,_::_,[],_,h=>by cases h
 |x::xs,y::ys,z::l,h1,h2=>by
  rw[zH]at h1 h2 ⊢
  by_cases s:y=x
  .rw[pB s]at h1;subst s
   by_cases n:z=y
   .rw[pB n]at h2 ⊢;exact D9 xs ys l h1 h2
   .rw[oZ n]at h2 ⊢;exact h2
  .rw[oZ s]at h1;have t:¬ y<x:=of_decide_eq_false h1
   by_cases n:z=y
   .rw[oZ (by lia)]
    exact d6 (by lia)
   .rw[oZ n]at h2;have u:¬ z<y:=of_decide_eq_false h2;rw[oZ (by lia)]
    exact d6 (by lia)
theorem LJ:∀xs ys:Ϝ,tG xs ys=false->tG ys xs=false->xs=ys
 | [],[],_,_=>rfl
 | [],_::_,h,_=>by cases h
 |_::_,[],_,h=>by cases h
 |x::xs,y::ys,h1,h2=>by
  rw[zH]at h1 h2
  by_cases e:x=y
  .rw[pB e]at h1;rw[pB e.symm]at h2;rw[e,LJ xs ys h1 h2]
  .rw[oZ e]at h1;rw[oZ (Ne.symm e)]at h2;have l:¬ x<y:=of_decide_eq_false h1;have n:¬ y<x:=of_decide_eq_false h2;lia
def XG(x y:Ϝ):Bool:=!HT.tG y x
def Qv(x y z:Ϝ)(l:XG x y=true)(n:XG y z=true):XG x z=true:=by
 unfold XG at *;simp only[iU]at *;exact D9 x y z l n
def Qa(x y:Ϝ):(XG x y || XG y x)=true:=by
 unfold XG;cases h:HT.tG y x with
 |false=>rfl
 |true=>rw[Gr y x h];rfl
def rY(rs:Λ):Λ:=rs.mergeSort XG
def pJ(rs:Λ):(rY rs).Perm rs:=iB _ _
def Cj(rs:Λ):(rY rs).Pairwise (λx y=>HT.tG y x=false):=by
 refine(gQ Qv Qa rs).imp λ{a b} h=>?_
 unfold XG at h;simpa using h
def HC:∀{xs ys:Λ},xs.Perm ys->xs.Pairwise (λx y=>HT.tG y x=false)->ys.Pairwise (λx y=>HT.tG y x=false)->xs=ys
 |xs,ys,l,n,s=>bY.eq_of_pairwise (λa b _ _ t u=>(LJ b a t u).symm) n s l
def Mu{xs rs:Λ}(l:xs.Perm rs)(h:xs.Pairwise (λx y=>HT.tG y x=false)):xs=rY rs:=
 HC (l.trans (pJ rs).symm) h (Cj rs)
def BK{rs l:Λ}(n:rs.Perm l):rY rs=rY l:=Mu ((pJ rs).trans n) (Cj rs)
def sH(rs:Λ):(rY rs).length=rs.length:=(pJ rs).length_eq
noncomputable def uk(ns:Ϝ):Ϝ:=ns.mergeSort (λx y=>decide (x<=y))
def vG(ns:Ϝ):(uk ns).Perm ns:=iB _ _
def EH(ns:Ϝ):(uk ns).Pairwise (·<=·):=by
 refine(gQ (le:=λx y=>decide (x<=y)) (λa b c l n=>?_) (λa b=>?_) ns).imp λ{a b} h=>by simpa using h
 .simp only[decide_eq_true_eq]at *;lia
 .simp only[jm,decide_eq_true_eq];lia
def PK{xs ns:Ϝ}(l:xs.Perm ns)(h:xs.Pairwise (·<=·)):xs=uk ns:=
 bY.eq_of_pairwise (λa b _ _ n s=>Int.le_antisymm n s) h (EH ns) (l.trans (vG ns).symm)
end
def qU(H:Hp)(ps:Δ)(rs:Λ):Prop:=ps.map H=rs.map (λr=>some (HO.lst (r.map V.int)))
noncomputable def qU.nil{H:Hp}:qU H [] []:=rfl
theorem qU.length{H:Hp}{ps:Δ}{rs:Λ}(h:qU H ps rs):ps.length=rs.length:=by
 have:=congrArg bV h;simpa using this
noncomputable def qU.cons_iff{H:Hp}{ps:Δ}{rs:Λ}{p:Addr}{r:Ϝ}:qU H (p::ps) (r::rs)↔H p=some (.lst (r.map V.int))/\qU H ps rs:=by
 unfold qU;rw[ai,ai,dA.injEq]
def qU.get{H:Hp}{ps:Δ}{rs:Λ}(h:qU H ps rs){i:Nat}{p:Addr}(e:ps[i]?=some p):∃r,rs[i]?=some r/\H p=some (.lst (r.map V.int)):=by
 have:=congrArg (λl=>l[i]?) h
 simp only[gMq,e,cK]at this;cases n:rs[i]? with
 |none=>rw[n]at this;cases this
 |some r=>rw[n]at this;exact⟨r,rfl,aw.inj this⟩
def qU.mem{H:Hp}{ps:Δ}{rs:Λ}(h:qU H ps rs){p:Addr}(l:p∈ps):∃r,r∈rs/\H p=some (.lst (r.map V.int)):=by
 obtain⟨i,hi⟩:=List.getElem?_of_mem l;obtain⟨r,n,e⟩:=h.get hi;exact⟨r,mGq n,e⟩
def qU.keep{H l:Hp}{ps:Δ}{rs:Λ}(h:qU H ps rs)(k:∀p∈ps,l p=H p):qU l ps rs:=by
 unfold qU at *;rw[←h];exact mCq k
def qU.same{H l:Hp}{ps:Δ}{rs:Λ}(h:qU H ps rs)(s:Same H l):qU l ps rs:=
 h.keep λp n=>by
  obtain⟨r,_,e⟩:=h.mem n;rw[s _ _ e,e]
noncomputable def toI:V->Int
 | .int i=>i
 |_=>0
def rW(H:Hp)(p:Addr):Ϝ:=match H p with
 |some (.lst xs)=>xs.map toI
 |_=>[]
def KA{H:Hp}{p:Addr}{r:Ϝ}(h:H p=some (.lst (r.map V.int))):rW H p=r:=by
 unfold rW;rw[h];simp only[mPq];exact List.map_id'' (λ_=>rfl) r
def qU.fn{H:Hp}{ps:Δ}{rs:Λ}(h:qU H ps rs):rs=ps.map (rW H):=by
 induction rs generalizing ps with
 |nil=>
  have:=h.length;have:ps=[]:=bN.mp this;rw[this];rfl
 |cons r rs l=>
  cases ps with
  |nil=>have:=h.length;simp at this
  |cons p ps=>
   obtain⟨n,s⟩:=qU.cons_iff.mp h;rw[ai,←l s,KA n]
def qU.fn_row{H:Hp}{ps:Δ}{rs:Λ}(h:qU H ps rs){p:Addr}(l:p∈ps):H p=some (.lst ((rW H p).map V.int)):=by
 obtain⟨r,_,e⟩:=h.mem l;rw[KA e];exact e
def qU.of_fn{H:Hp}{ps:Δ}(h:∀p∈ps,H p=some (.lst ((rW H p).map V.int))):qU H ps (ps.map (rW H)):=by
 unfold qU;rw[mPq];exact mCq h
def qU.perm{H:Hp}{ps l:Δ}{rs:Λ}(h:qU H ps rs)(s:l.Perm ps):∃n,qU H l n/\n.Perm rs/\n=l.map (rW H):=
 ⟨_,qU.of_fn λp m=>h.fn_row (s.mem_iff.mp m),by rw[h.fn];exact s.map _,rfl⟩
def qU.free{H l:Hp}{ps:Δ}{rs:Λ}(h:qU l ps rs){q:Addr}(n:l q=none):q∉ps:=λm=>by
 obtain⟨r,_,e⟩:=h.mem m;rw[n]at e;cases e
theorem xk:∀{ps:Δ}{vs:Ξ},pU (ps.map V.ref) vs->vs=ps.map aW
 | [],vs,r=>by cases r;rfl
 |p::ps,vs,r=>by
  rw[ai]at r;cases r with
  |cons l n=>
   have e:_=aW p:=l;rw[e,xk n];rfl
theorem IS:∀(ps:Δ),pU (ps.map V.ref) (ps.map aW)
 | []=>.nil
 |p::ps=>.cons rfl (IS ps)
noncomputable def wB:Value->Addr
 | .ref p=>p
 |_=>0
noncomputable def intOf:Value->Int
 | .int i _=>i
 |_=>0
def Kj{vs:Ξ}{ns:Ϝ}(h:ki vs ns):ns=vs.map intOf/\∀v∈vs,∃a t,v = .int a t:=by
 induction h with
 |nil=>exact⟨rfl,λv l=>by cases l⟩
 |cons a t _ n=>
  refine⟨by rw[ai,←n.1];rfl,λv l=>?_⟩
  rcases ab.mp l with rfl|l
  .exact⟨a,t,rfl⟩
  .exact n.2 v l
theorem vals_ints:∀{vs:Ξ},(∀v∈vs,∃a t,v = .int a t)->pU ((vs.map intOf).map V.int) vs
 | [],_=>.nil
 |v::vs,h=>by
  obtain⟨a,t,rfl⟩:=h _ (ao ..);exact .cons ⟨t,rfl⟩ (vals_ints λv l=>h v (mCo _ l))
noncomputable def V8{M:Model}{A:Around}{E:Value->jJ->Prop}{s:jJ}{vs:Ξ}{T:String}{Q:km->jJ->Prop}(t:2<=vs.length)(u:∀v∈vs,W.Looks M s.heap (typeOf v) (.type T))(l:(fY T != fY "tuple")=true)(n:(fY T == fY T)=true)(h:Q kH s) :
  jR M A (keyKind' vs.toArray) Q E s:=W.kas_kind t u l n h
noncomputable def ltI(x y:jK):Bool:=match x.1,y.1 with
 | .int a _,.int b _=>decide (a<b)
 |_,_=>false
def adg(prog:jS)(w:jU)(A:Around)(s:jJ):MrS.Bm prog w A s kH (λx=>∃a t,x.1 = .int a t) ltI where
 ask:=by
  rintro⟨_,x⟩ ⟨_,y⟩ ⟨a,t,l⟩ ⟨b,u,n⟩ E Q q;dsimp only at l n;subst l n;rw[keyLt'_oneType];exact oneLt_int q
 asym:=by
  rintro⟨_,x⟩ ⟨_,y⟩ ⟨a,t,l⟩ ⟨b,u,n⟩ h;dsimp only at l n;subst l n;have h':a<b:=of_decide_eq_true h;exact d6 (by lia)
 trans:=by
  rintro⟨_,x⟩ ⟨_,y⟩ ⟨_,z⟩ ⟨a,t,l⟩ ⟨b,u,n⟩ ⟨c,v,B⟩ G H;dsimp only at l n B;subst l n B;have I:¬ b<a:=of_decide_eq_false G;have J:¬ c<b:=of_decide_eq_false H;exact d6 (by lia)
def ltR(r:Addr->Ϝ)(x y:jK):Bool:=match x.1,y.1 with
 | .ref p,.ref q=>HT.tG (r p) (r q)
 |_,_=>false
def af0{prog:jS}{w:jU}{A:Around}{s:jJ}{ps:Δ}{r:Addr->Ϝ}(R:A.units<ku)
  (h:∀p∈ps,∃vs:Ξ,PlainL s.heap p vs.toArray/\ki vs (r p)):MrS.Bm prog w A s kH (λx=>∃p,x.1 = .ref p/\p∈ps) (ltR r) where
 ask:=by
  rintro⟨_,x⟩ ⟨_,y⟩ ⟨p,l,S⟩ ⟨q,t,T⟩ E Q k;dsimp only at l t;subst l t;obtain⟨vs,⟨o,n,I,M,B,hd⟩,hi⟩:=h p S;obtain⟨ws,⟨U,n2,J,G,u,H⟩,X⟩:=h q T;obtain⟨cls,dd,data,Y⟩:=o;obtain⟨O,dd2,data2,L⟩:=U;simp only at M B hd G u H;subst M B hd G u H;rw[keyLt'_oneType,oneLt'_eq];simp only[if_true];refine jO (wpAny_cRoomFor R ?_);refine jO (wpAny_callSpecialIfBound?_slot ⟨_,I,rfl⟩ F.slot_list_lt (kC F.slot_list_lt ⟨_,I,rfl⟩ F.entry_list_lt (F.args_list_lt_2 _ _)
   (HT.Kf p q vs.toArray ws.toArray n n2 none none Y L (r p) (r q) (by simpa using hi) (by simpa using X)) ⟨I,J,?_⟩))
  exact kq k
 asym:=by
  rintro⟨_,x⟩ ⟨_,y⟩ ⟨a,l,_⟩ ⟨b,t,_⟩ h;dsimp only at l t;subst l t;exact Gr _ _ h
 trans:=by
  rintro⟨_,x⟩ ⟨_,y⟩ ⟨_,z⟩ ⟨a,l,_⟩ ⟨b,t,_⟩ ⟨c,P,_⟩ h1 h2;dsimp only at l t P;subst l t P;exact D9 _ _ _ h1 h2
section
variable {X:Cx}
def Km:si X (.builtin "sorted") (λxs H Q=>∃(a:Addr) (ns:Ϝ),xs=[.ref a]/\rz X.K H a (ns.map V.int)/\∀p,H p=none->Q (.ref p) (qC H p (.lst ((uk ns).map V.int)))):=by
 intro oh s σ H xs us Q I r h;obtain⟨a,ns,rfl,J,q⟩:=h;obtain⟨u,rfl,L⟩:=Ai r;cases L;obtain⟨M,hl,hi,O⟩:=xB I J;obtain⟨P,z⟩:=Kj hi;have B:=hi.length;refine MrS.FF (Pk:=λx=>∃a t,x.1 = .int a t) (lt:=ltI) hl (by lia) (λs' _=>⟨λl Q q=>?_,adg _ _ _ _⟩) (λv m=>z v m) λout E R G S T U=>?_
 .match M,hi,l with
  | [],_,l=>simp at l
  | [_],_,l=>simp at l
  |v₁::v₂::rest,hi,_=>
   rw[keyKind_ints hi];exact jW q
 .have n:∀v∈out,∃a t,v = .int a t:=λv m=>z v (G.mem_iff.mp m)
  have e:out.map intOf=uk ns:=by
   refine PK (by rw[P];exact G.map _) ?_
   rw[bf];refine S.imp_of_mem λ{x y} mx my h=>?_
   obtain⟨a,t,rfl⟩:=n x mx;obtain⟨b,u,rfl⟩:=n y my;have E:¬ b<a:=of_decide_eq_false h;show a<=b;lia
  have Y:H (s.heap.objs.size+1)=none:=I.hok.fresh (cL _);refine⟨.ref (s.heap.objs.size+1),_,I.laid (t':=s.toks) T (cL _) (show rO X.prog X.w _ E _ (.lst ((uk ns).map V.int))from ⟨?_,out,R,?_,U⟩),rfl,q _ Y⟩
  .rw[lMq,(vG ns).length_eq];exact O
  .rw[←e];exact vals_ints n
def CO(hu:X.A.units+64<ku):si X (.builtin "sorted") (λxs H Q=>∃(a:Addr) (ps:Δ) (rs:Λ),xs=[.ref a]/\rz X.K H a (ps.map V.ref)/\qU H ps rs /\
  ∀p B,H p=none->B.Perm ps->qU (qC H p (.lst (B.map V.ref))) B (rY rs)->Q (.ref p) (qC H p (.lst (B.map V.ref)))):=by
 intro oh s σ H xs us Q I r h;obtain⟨a,ps,rs,rfl,hS,hE,q⟩:=h;obtain⟨u,rfl,ru⟩:=Ai r;cases ru;obtain⟨L,R,hl,hz⟩:=I.list hS;have ei:=xk R;subst ei;have M:∀p∈ps,∃G:Ξ,PlainL s.heap p G.toArray/\ki G (rW H p):=λp t=>by
  obtain⟨L,R,S,_⟩:=I.list (rz.of (hE.fn_row t));exact⟨L,S,CC R⟩
 have z:∀(J:jJ),(∀b o,s.heap.get? b=some o->J.heap.get? b=some o)->∀p∈ps,∃G:Ξ,PlainL J.heap p G.toArray/\ki G (rW H p):=λJ k p t=>by
  obtain⟨G,⟨o,n,O,rest⟩,hi⟩:=M p t;exact⟨G,⟨o,n,k _ _ O,rest⟩,hi⟩
 refine MrS.FF (Pk:=λx=>∃p,x.1 = .ref p/\p∈ps) (lt:=ltR (rW H)) hl.isList (by simpa using hz) (λJ k=>⟨λh2 Q q=>?_,af0 (by show X.A.units+1+1<ku;lia) (z J k)⟩) (λv m=>?_) λout h' n' o1 o2 o3 o4=>?_
 .refine V8 (T:= "list") h2 (λv U=>?_) (by rfl) (by rfl) q
  obtain⟨p,t,rfl⟩:=mMq.mp U;obtain⟨G,S,_⟩:=z J k p t;intro A Q E s2 k2 q2;obtain⟨o,O,hc,_⟩:=S.isList;exact wpAny_typeOf (T:= "list") ⟨o,k2 _ _ O,hc⟩ q2
 .obtain⟨p,t,rfl⟩:=mMq.mp m;exact⟨p,rfl,t⟩
 .have O:∀v∈out,∃p∈ps,v = .ref p:=λv m=>by
   obtain⟨p,t,rfl⟩:=mMq.mp (o1.mem_iff.mp m);exact⟨p,t,rfl⟩
  have Y:out=(out.map wB).map aW:=by
   rw[mPq];have e:=mCq (l:=out) (f:=id) (g:=aW∘wB) λv U=>by
    obtain⟨p,_,rfl⟩:=O v U;rfl
   rw[←e,de]
  have P:(out.map wB).Perm ps:=by
   have:=o1.map wB;rw[mPq,show wB∘aW=id from rfl,de]at this
   exact this
  have t:H (s.heap.objs.size+1)=none:=I.hok.fresh (cL _);generalize out.map wB=B at Y P;obtain⟨ts,e1,e2,e3⟩:=hE.perm P;have es:ts=rY rs:=by
   refine Mu e2 ?_;rw[e3,bf];rw[Y,bf]at o2;exact o2
  refine⟨.ref (s.heap.objs.size+1),_,I.laid (t':=s.toks) o3 (cL _) (show rO X.prog X.w _ h' _ (.lst (B.map V.ref))from ⟨?_,out,n',?_,o4⟩),rfl,q _ B t P (by rw[←es];exact e1.same (vf t))⟩
  .rw[lMq,P.length_eq];simpa using hz
  .rw[Y];exact IS B
def xP(r:Ϝ):PyData:=.list (r.map PyData.int)
def DM(rs:Λ):PyData:=.list (rs.map xP)
def QZ{l:Φ}{σ:St}{H:Hp}{s:jJ}{p:Addr}{r:Ϝ}(I:Inv X l σ H s)(h:H p=some (.lst (r.map V.int))):Reads s.heap (.ref p) (xP r) [p]:=by
 obtain⟨n,hl,hi,_⟩:=xB I (rz.of h);exact W.reads_of_ints hl hi
theorem EM:∀rs:Λ,PyData.canLayAll0 (rs.map xP)=true
 | []=>by simp[PyData.canLayAll0]
 |r::rs=>by simp[PyData.canLayAll0,xP,PyData.canLay0,W.canLayAll0_ints r,EM rs]
theorem GQ:∀rs:Λ,PyData.depthAll (rs.map xP)<=3
 | []=>by simp[PyData.depthAll]
 |r::rs=>by
  have l:=GQ rs;have n:=W.depthAll_ints r;simp only[ai,PyData.depthAll,xP,PyData.depth];lia
def EI(rs:Λ):SeqAt.shaped (DM rs)=true:=by
 have n:=GQ rs;have l:PyData.depth (DM rs)<=64:=by simp only[DM,PyData.depth];lia
 show(PyData.canLay0 (DM rs) && decide (PyData.depth (DM rs)<=64))=true;rw[eV];exact⟨by simp only[DM,PyData.canLay0];exact EM rs,d4 l⟩
theorem Ga:∀rs l:Λ,SeqAt.noMixAll (rs.map xP) (l.map xP)=true
 | [],[]=>by simp[SeqAt.noMixAll]
 | [],_::_=>by simp[SeqAt.noMixAll]
 |_::_,[]=>by simp[SeqAt.noMixAll]
 |r::rs,t::l=>by simp[SeqAt.noMixAll,xP,SeqAt.noMix,W.noMix_ints r t,Ga rs l]
theorem ID:∀rs l:Λ,PySem.Spec.sameAll (rs.map xP) (l.map xP)=decide (rs=l)
 | [],[]=>by simp[PySem.Spec.sameAll]
 | [],_::_=>by simp[PySem.Spec.sameAll]
 |_::_,[]=>by simp[PySem.Spec.sameAll]
 |r::rs,t::l=>by
  simp only[ai,PySem.Spec.sameAll,xP,PySem.Spec.same,W.same_ints r t];rw[ID rs l]
  by_cases h:r=t <;> simp[h]
def TZ:V->List V->Hp->VK->Prop:=λx vs H Q=>∃(a b:Addr) (ps:Δ) (rs:Λ) (r:Ϝ),x = .ref a/\vs=[.ref b]/\H a=some (.lst (ps.map V.ref))/\qU H ps rs/\H b=some (.lst (r.map V.int))/\b∉ps/\Q (.int (rs.countP (·=r):Nat)) H
def TN(hu:X.A.units+65<ku):MtR X "list.count" TZ:=by
 intro oh s σ H x xs v us Q I R r h;obtain⟨a,b,t,S,row,rfl,rfl,T,G,J,nb,q⟩:=h;cases R;obtain⟨u,rfl,U⟩:=Ai r;cases U;obtain⟨Y,rv,⟨o,n,L,M,l,hd⟩,hz⟩:=I.list (rz.of T);have ei:=xk rv;subst ei;obtain⟨cls,dd,O,sl⟩:=o;simp only at M l hd;subst M l hd;have hr:=QZ I J;refine kC gR ⟨_,L,rfl⟩ PySem.F.entry_list_count (PySem.F.args_list_count_2 _ _)
  (SeqAt.list_countAt a (t.map aW).toArray n none sl (.ref b) (λy=>decide (rW H (wB y)=row))) ⟨L,λy hy=>?_,?_⟩
 .obtain⟨p,P,rfl⟩:=mMq.mp (show y∈t.map aW by simpa using hy)
  refine SeqAt.EqAt.of_refs (λe=>nb (e ▸ P)) λprog w E Q hq=>?_
  obtain⟨vs,hl,hi,_⟩:=xB I (rz.of (G.fn_row P));obtain⟨ws,z,B,_⟩:=xB I (rz.of J);exact W.eq_intsK (prog:=prog) (w:=w) (A:=X.A.in1) hl hi z B (by show X.A.units+1+64<ku;lia) hq
 .refine⟨.int _,H,I.tok _,⟨_,rfl⟩,?_⟩;have e:(t.map aW).toArray.toList.countP (λy=>decide (rW H (wB y)=row))=S.countP (·=row):=by
   rw[List.toList_toArray,G.fn,gW,gW];rfl
  rw[e];exact q
end
end Mr
namespace Mr
open PySem L2
structure Bt (mg:Str->Υ):Prop where
 len:mg "len" = none
 min:mg "min" = none
 max:mg "max" = none
 abs:mg "abs" = none
 all:mg "all" = none
 sorted:mg "sorted" = none
 isi:mg "isinstance" = none
 list:mg "list" = none
 int:mg "int" = none
 bool:mg "bool" = none
 str:mg "str" = none
 dict:mg "dict" = none
 zip:mg "zip" = none
 enum:mg "enumerate" = none
 range:mg "range" = none
 reversed:mg "reversed" = none
structure Fn (P:jS)(w:jU)(K:Ζ)(mg:Str->Υ)(base:Heap)(k:Nat)(x:Str)(st:Stmt)(ps:List Str)(sp:Sp)(f:Addr)(fd:jX):Prop where
 D:xC K mg x st ps f fd
 ok:Aw P w K mg base VS k f fd ps sp
def tV.units65{k:Nat}{A:Around}(r:tV k A):A.units+65<ku:=by have:=r.un;lia
section
variable {X:Cx}{k:Nat}{f:Addr}{fd:jX}{ps:List Str}{sp:Sp}{x:Str}{p pos:Pos}{e:Expr}{es:List Expr}{t:TA}{st:Stmt}
def ZI(G:Fn X.prog X.w X.K X.mg X.base k x st ps sp f fd)(hr:tV k X.A)(ha:PA X (e::es) t)(s:Gl X x:=by rfl)(l:(x == ("__debug__" : Str))=false:=by decide)
  (u:jT (e::es) X.env=(false,eval e X.env)::jT es X.env:=by rfl) (n:(ko pos (jT es X.env)).any (·.1)=false:=by rfl) :
  PE X (.Call (.Name x p) (e::es) [] pos) (GR sp [] E0 t):=V1 G.ok hr s G.D.m G.D.F.kp G.D.b .nil OQ ha l u n
end
section
variable (K:Ζ)
noncomputable def Pl:Sp:=λvs H Q _=>∃(a:Addr) (ns:Ϝ),vs=[.ref a]/\rz K H a (ns.map V.int)/\ns.length<=63/\∀l,Q (.bl true) l
end
noncomputable def ql{α:Type}{l:List α}{i:Nat}{x:α}(h:l[i]?=some x):l.take (i+1)=l.take i++[x]:=by
 rw[dQ,h];rfl
end Mr
namespace Xe
open PySem PySem.Spec PySem.W PyProof.Rows L2 Mr
abbrev St:=L2.St
abbrev lk0(K:Frag)(C:Addr):Bool:=findIn K (.ref C) "__setattr__" == some (some (.builtin "object.__setattr__")) && findIn K (.ref C) "__getattribute__" == some (some (.builtin "BaseException.__getattribute__")) &&
 findIn K (.ref C) "__getattr__" == some none && findIn K (.ref C) "__class__" == some (some (.builtin "object.__class__"))
def abU(K:Frag)(c:Str)(C:Addr)(s:Ξ):Bool:=match K.lookup C with
 |some ⟨.type "type", _,.cls l,t⟩=>(match t.toList with
  | [_,_,_,_,some (.builtin n),_]=>l.name == c && l.mro == .ref C::s && n == "ValueError.__new__" && !l.hasDel && l.hasDict && tailIn K VEm s
  |_=>false)
 |_=>false
structure Ref (K:Frag)(c:Str)(C M:Addr):Prop where
 nm:nsIn K jQ c=some (some (.ref C))
 nmM:nsIn K jQ "MapError" = some (some (.ref M))
 xc:abU K c C (.ref M::VEm)=true
 xm:abU K "MapError" M VEm=true
 lk:lk0 K C=true
def IsC(K:Frag)(c:Str)(C:Addr):Prop:=nsIn K jQ c=some (some (.ref C))/\((∃M,Ref K c C M)∨(c = "MapError" /\ abU K "MapError" C VEm=true))
def ExA(e C:Addr)(l:Option Addr):HO:=.ext λh=>∃o vs,h.get? e=some o/\o.cls = .ref C/\o.dict=l/\o.data = .fields vs
abbrev XH:=Addr->Addr->Option Addr->AN->St->Hp->Prop
section
variable {X:Cx}
def kv_get{kvs:List (pE×V)}{vs:List (pE×Value)}(r:KV kvs vs):∀{i:Nat}{p:pE×V},kvs[i]?=some p->∃u,vs[i]?=some (p.1,u)/\qA p.2 u:=by
 induction r with
 |nil=>intro i p h;simp at h
 | @cons a b _ _ r t l=>
  intro i p h;cases i with
  |zero=>simp at h;subst h;exact⟨b.2,by simp[r.1],r.2⟩
  |succ i=>obtain⟨u,n,g2⟩:=l (by simpa using h);exact⟨u,by simpa using n,g2⟩
end
section
variable {X:Cx}{c:Str}{C M:Addr}{p pos:Pos}
noncomputable def adi(K:Frag)(neg:Bool):R2:=λx y H Q=>∃(a b:Addr) (u v:Str) (i j:Int),x = .ref a/\y = .ref b/\Ej K H a [.str u,.int i]/\Ej K H b [.str v,.int j]/\Q (.bl (if neg then !decide (u=v/\i=j)else decide (u=v/\i=j))) H
def KR{u:Str}{i:Int}{l:Ξ}(r:pU [.str u,.int i] l):∃n s,l=[.str u n,.int i s]:=by
 cases r with
 |cons t x=>
  cases x with
  |cons z B=>
   cases B;obtain⟨n,rfl⟩:=t;obtain⟨s,rfl⟩:=z;exact⟨n,s,rfl⟩
noncomputable def aaa{A:Around}{s:jJ}{u v:Str}{i j:Int}{l n t x:Tok}:∀k (z:k < #[dJ u l,.int i n].size) (B:k < #[dJ v t,.int j x].size),SeqAt.EqAt A s #[dJ u l,.int i n][k] #[dJ v t,.int j x][k] (if k=0 then u == v else i == j)
 |0,_,_=>SeqAt.EqAt.str_str u l v t
 |1,_,_=>SeqAt.EqAt.int_int i n j x
 |k+2,h,_=>absurd h (by show ¬ k+2<2;lia)
def aeL{u v:Str}{i j:Int}{l n s t:Tok}:((bI (min #[dJ u l,.int i n].size #[dJ v s,.int j t].size)).all (λk=>if k=0 then u == v else i == j) && #[dJ u l,.int i n].size == #[dJ v s,.int j t].size)=decide (u=v/\i=j):=by
 show((u == v) && ((i == j) && true) && true)=_
 by_cases x:u=v
 .by_cases z:i=j
  .simp[x,z]
  .simp[z]
 .simp[x]
def SY(l:X.A.units<ku):G1 X (kg .Eq) (adi X.K false):=by
 intro T s σ H x y v u Q I n t h;obtain⟨a,b,z,B,i,j,rfl,rfl,E,G,q⟩:=h;cases n;cases t;obtain⟨J,L,O,_⟩:=I.tuple E;obtain⟨P,R,S,_⟩:=I.tuple G;obtain⟨U,Y,rfl⟩:=KR L;obtain⟨t3,t4,rfl⟩:=KR R;refine SeqAt.eq_tupleAt (e:=λk=>if k=0 then z == B else i == j) O S l aaa ?_
 rw[aeL];exact⟨.bl _,H,I,rfl,q⟩
end
end Xe
namespace Mr
open PySem PyProof.Rows L2
section
variable {X:Cx}
def SZ(_ j:Int):Prop:=0<j/\j.natAbs.log2<9000
def VM:G1 X (kP .FloorDiv) (rI SZ λi j=>.int (i / j)):=opI λi j _ _ _ _ _ l q=>by
 have n:(0:Int)<j:=l.1;exact floordiv_int (by lia) (by rw[gf i (by lia)];exact q) (.inl (PyProof.noPylong_of_log2 l.2))
end
end Mr
namespace Mr
open PySem PySem.Calls PySem.Spec PyProof.Rows L2
section
variable {X:Cx}
def abH(K:Ζ)(x:V)(H:Hp)(T:String):Prop:=match x with
 | .int _=>T = "list" ∨ T = "tuple" ∨ T = "str"
 | .str _=>T = "list" ∨ T = "tuple"
 | .non=>T = "list" ∨ T = "tuple"
 | .ref p=>(T = "tuple" /\ ∃xs,rz K H p xs)∨(T = "list" /\ ∃xs,Ej K H p xs)
 |_=>False
def uu:si X (.builtin "isinstance") (λxs H Q=>∃x T,xs=[x,.ty T]/\abH X.K x H T/\Q (.bl false) H):=by
 intro l s σ H xs us Q I r h;obtain⟨x,T,rfl,e,q⟩:=h;obtain⟨u,v,rfl,n,E⟩:=Oh r;cases E;cases x with
 |int i=>
  obtain⟨t,rfl⟩:=n;rcases e with rfl|rfl|rfl
  .exact jY (kF (by trivial) F.isi_meta_list F.sub_int_list) (show EP X l σ Q (.bool false) { s with toks:=s.toks+1 } from ⟨.bl false,H,I.tok _,rfl,q⟩)
  .exact jY (kF (by trivial) F.isi_meta_tuple F.sub_int_tuple) (show EP X l σ Q (.bool false) { s with toks:=s.toks+1 } from ⟨.bl false,H,I.tok _,rfl,q⟩)
  .exact jY (kF (by trivial) F.isi_meta_str F.sub_int_str) (show EP X l σ Q (.bool false) { s with toks:=s.toks+1 } from ⟨.bl false,H,I.tok _,rfl,q⟩)
 |str i=>
  obtain⟨t,rfl⟩:=n;rcases e with rfl|rfl
  .exact jY (mM (by trivial) F.isi_meta_list F.sub_str_list) (show EP X l σ Q (.bool false) { s with toks:=s.toks+1 } from ⟨.bl false,H,I.tok _,rfl,q⟩)
  .exact jY (mM (by trivial) F.isi_meta_tuple F.sub_str_tuple) (show EP X l σ Q (.bool false) { s with toks:=s.toks+1 } from ⟨.bl false,H,I.tok _,rfl,q⟩)
 |non=>
  cases n;rcases e with rfl|rfl
  .exact jY (mF (by trivial) F.isi_meta_list F.sub_NoneType_list) (show EP X l σ Q (.bool false) { s with toks:=s.toks+1 } from ⟨.bl false,H,I.tok _,rfl,q⟩)
  .exact jY (mF (by trivial) F.isi_meta_tuple F.sub_NoneType_tuple) (show EP X l σ Q (.bool false) { s with toks:=s.toks+1 } from ⟨.bl false,H,I.tok _,rfl,q⟩)
 |ref p=>
  cases n;rcases e with⟨rfl,xs,z⟩|⟨rfl,xs,z⟩
  .obtain⟨B,G,J,L⟩:=I.list z;exact jY (isinstance_false_list (by trivial) F.isi_meta_tuple F.sub_list_tuple) ⟨J.isList.typeIs,⟨.bl false,H,I.tok _,rfl,q⟩⟩
  .obtain⟨B,G,⟨o,M,O,_⟩,L⟩:=I.tuple z;exact jY (isinstance_false_tuple (by trivial) F.isi_meta_list F.sub_tuple_list) ⟨⟨o,M,O⟩,⟨.bl false,H,I.tok _,rfl,q⟩⟩
 |_=>exact(show False from e).elim
end
end Mr
namespace MrS
open PySem PySem.W PyProof.Rows
section
variable {prog:jS}{w:jU}{A:Around}{E:Value->jJ->Prop}{s:jJ}{Pk:jK->Prop}{lt:jK->jK->Bool}{T:String}{r d:Addr}{n:Nat}{P:Nat->Value->Prop}{OK:Heap->Prop}
def KP{Q:Ξ->jJ->Prop}(K:KdlSrc prog w T r d n P OK)(hh:A.handled=none)(hok:OK s.heap)(hn:n<=jP)
  (h:∀h' u (l:Ω),(∀b o,s.heap.get? b=some o->h'.get? b=some o)->s.heap.objs.size<h'.objs.size->ItemsOf P l n->Q l.toList { s with heap:=h',toks:=u }) :
  jR (jN prog w) A (collect (.ref r)) Q E s:=by
 unfold collect;refine jO (wpAny_runValue (kB entry_proto_collect' ?_));show jR _ _ (do again (.builtin "list.__iadd__" ⟨[←newList [],.ref r],[]⟩)) _ _ s
 refine jO (lN (jW ⟨Code.quiet_builtin _ (by trivial),kB entry_list_iadd' ?_⟩))
 show jR _ _ (Builtin.List.listExtendWith (.ref s.heap.objs.size) (.ref r) (.ref s.heap.objs.size)) _ _ { s with heap:=s.heap.push (jZ "list" #[] 0) }
 have t:=K.there _ hok;have x:(s.heap.push (jZ "list" #[] 0)).get? s.heap.objs.size=some (jZ "list" #[] 0):=bu _ rfl;refine kdl_extend (A:=A) (R:=λr B=>match r with
   | .ok (.ret v)=>jR (jN prog w) A (match v with
    | .ref a=>do
     let o ←load a
     match o.data with
     | .seq z _=>pure z.toList
     |_=>kR "internal:collect"
    |_=>kR "internal:collect") Q E B
   | .ok _=>False
   | .error e=>E e B) (s:={ s with heap:=s.heap.push (jZ "list" #[] 0) }) K hh (K.keep _ _ hok λb _ o e=>ak _ e) s.heap.objs.size (fi t.1) (fi t.2) (.ref s.heap.objs.size) 0 x (λh' u l c hk G hi=>?_) hn
 show jR (jN prog w) A (do
   let o ←load s.heap.objs.size
   match o.data with
   | .seq z _=>pure z.toList
   |_=>kR "internal:collect") Q E { s with heap:=h',toks:=u }
 refine jO (wpAny_load G ?_);exact jW (h h' u l (λb o e=>hk b o (aN (ar e)) (ak _ e)) (ar G) hi)
def M8{Q:Value->jJ->Prop}(K:KdlSrc prog w T r d n P OK)(hh:A.handled=none)(hok:OK s.heap)(hn:n<=jP)
  (X:∀(vs:Ξ),vs.length=n->(∀j v,vs[j]?=some v->P j v)->∀M:jJ,(2<=vs.length->∀Q:km->jJ->Prop,Q kH M->jR (jN prog w) A.in1.in1 (keyKind' vs.toArray) Q E M)/\Bm prog w A.in1.in1 M kH Pk lt/\∀v∈vs,Pk (v,v))
  (h:∀(vs out:Ξ) (h':Heap) (p:Addr) (H Y:Nat),vs.length=n->(∀j v,vs[j]?=some v->P j v)->out.Perm vs->out.Pairwise (λx y=>lt (y,y) (x,x)=false)->(∀b o,s.heap.get? b=some o->h'.get? b=some o)->s.heap.objs.size<=p ->
   h'.get? p=some (jZ "list" out.toArray Y)->Q (.ref p) { s with heap:=h',toks:=H }) :
  jR (jN prog w) A (call (.builtin "sorted") [.ref r]) Q E s:=by
 refine Calls.call_function_entry kind_sorted plain_sorted entry_sorted (args_sorted1 _) ?_;unfold Builtin.«sorted»;refine jO (m:=checkCount "sorted" 1 1 _) (jW ?_);refine jO (KP K hh hok hn λu H t I z hi=>?_)
 have hl:t.toList.length=n:=by rw[au];exact hi.1
 have O:∀j v,t.toList[j]?=some v->P j v:=λj v e=>hi.2 j v (by rw[←aH];exact e)
 have R:t.toList.length<=jP:=by rw[hl];exact hn
 generalize t.toList=vs at hl O R;refine jO (lN ?_ R);have l:(u.push (jZ "list" vs.toArray 0)).get? u.objs.size=some (jZ "list" vs.toArray 0):=bu _ rfl;show jR _ _ _ _ _ { s with heap:=u.push (jZ "list" vs.toArray 0),toks:=H }
 have J:s.heap.objs.size<=u.objs.size:=cC z;have U:∀b o,s.heap.get? b=some o->(u.push (jZ "list" vs.toArray 0)).get? b=some o:=λb o e=>ak _ (I b o e)
 have B:∀b o,s.heap.get? b=some o->b≠u.objs.size:=λb o e=>aN (ar (I b o e))
 generalize u.push (jZ "list" vs.toArray 0)=G at l U ⊢
 clear z
 generalize u.objs.size=p at l J B ⊢;have k2:∀b o,s.heap.get? b=some o->(vW G p vs).get? b=some o:=λb o e=>by
  refine ak _ (ak _ ?_);rw[eh _ _ _ _ (B b o e)];exact U b o e
 obtain⟨q1,q2,q3⟩:=X vs hl O { s with heap:=vW G p vs,toks:=H }
 refine jO (mN (wpAny_call_entry slot_list_sort ⟨_,l,rfl⟩ entry_list_sort (BX (s:={ s with heap:=G,toks:=H }) (Pk:=Pk) (lt:=lt) l R q1 q2 (λx hx=>?_) λL a1 a2=>⟨_,rfl,?_⟩) (args_list_sort _)))
 .obtain⟨m1,m2⟩:=yd hx;have:x=(x.1,x.1):=jk rfl m2;rw[this];exact q3 _ m1
 .obtain⟨v1,v2⟩:=ER a1 a2;obtain⟨e1,S⟩:=OP vs l;obtain⟨n1,g1⟩:=Pr (L.map (·.2)) S;refine jW ⟨_,rfl,h vs _ (lR G p vs (L.map (·.2))) p H n1 hl O v1 v2 (λb o e=>?_) J ?_⟩
  .unfold lR;rw[eh _ _ _ _ (B b o e)];exact k2 b o e
  .rw[show(L.map (·.2)).toList.toArray=L.map (·.2)from iu]
   exact g1
end
end MrS
namespace Mr
open PySem PySem.W PySem.Spec PyProof.Rows L2
section
variable {X:Cx}
theorem O1:∀{us:Ξ}{ns:Ϝ},us.length=ns.length->(∀(j:Nat) (v:Value) (n:Int),us[j]?=some v->ns[j]?=some n->∃t,v=gk n t)->ki us ns
 | [],[],_,_=>.nil
 | [],_::_,h,_=>by simp at h
 |_::_,[],h,_=>by simp at h
 |u::us,n::ns,h,g=>by
  obtain⟨t,rfl⟩:=g 0 u n rfl rfl;exact .cons n t (O1 (by simpa using h) λj v m l s=>g (j+1) v m (by simpa using l) (by simpa using s))
def Wi:∀{kvs:List (pE×V)}{ws:List (pE×Value)},KV kvs ws->kvs.map (·.1)=ws.map (·.1):=λ{kvs ws} r=>by
 induction r with
 |nil=>rfl
 |cons a b l=>rw[ai,ai,l,a.1]
def Jx(Y:X.calm=true):si X (.builtin "sorted") (λxs H Q=>∃(a:Addr) (kvs:List (pE×V)) (ns:Ϝ),xs=[.ref a]/\H a=some (.dK kvs)/\kvs.map (·.1)=ns.map aO/\∀p,H p=none->Q (.ref p) (qC H p (.lst ((uk ns).map V.int)))):=by
 intro oh s σ H xs us Q I r h;obtain⟨a,kvs,ns,rfl,ha,hk,q⟩:=h;obtain⟨u,rfl,ru⟩:=Ai r;cases ru;obtain⟨P,sa,n,kv,d⟩:=(show rO X.prog X.w H s.heap a (.dK kvs)from I.hok a _ ha)
 obtain⟨ep,da⟩:=d.dictAt;have hl:=Paired.length kv;have l:ns.length=n.length:=by
  have:=congrArg bV hk;rw[lMq,lMq]at this;rw[←this,hl]
 have J:n.map (·.1)=ns.map aO:=by rw[←Wi kv,hk]
 have L:∀us:Ξ,us.length=n.length->(∀(j:Nat) (v:Value),us[j]?=some v->∃k x,n[j]?=some (k,x)/\(qS X.prog X.w).is k v=true)->ki us ns:=λus B E=>O1 (by rw[B,l]) λj v m e1 e2=>by
  obtain⟨k,x,g1,g2⟩:=E j v e1;have R:(n.map (·.1))[j]?=some k:=by rw[gMq,g1];rfl
  rw[J,gMq,e2]at R;have e4:(aO m:pE)=k:=by simpa using R
  subst e4;rcases qO (k:=aO m) (v:=v) g2 with⟨i,t,M,e6⟩|⟨z,t,M,_⟩
  .cases M;exact⟨t,e6⟩
  .cases M
 refine MrS.M8 (kdl_dict (knd:=qS X.prog X.w) (d:=a) (kvs:=n) (ep:=ep) sa) (I.ok.hd Y) da (by rw[←hl];exact P) (Pk:=λx:jK=>∃a t,x.1=gk a t) (lt:=ltI) (λus B E s'=>⟨λG Q q=>?_,adg _ _ _ _,λv m=>(Kj (L us B E)).2 v m⟩) λus out S p tk n' B E T o2 o3 U o4=>?_
 .have hi:=L us B E
  match us,hi,G with
  | [],_,G=>simp at G
  | [_],_,G=>simp at G
  |v₁::v₂::rest,hi,_=>
   rw[keyKind_ints hi];exact jW q
 .obtain⟨en,hv⟩:=Kj (L us B E);have O:∀v∈out,∃a t,v = .int a t:=λv m=>hv v (T.mem_iff.mp m)
  have e:out.map intOf=uk ns:=by
   refine PK (by rw[en];exact T.map _) ?_
   rw[bf];refine o2.imp_of_mem λ{x y} mx my h=>?_
   obtain⟨a,t,rfl⟩:=O x mx;obtain⟨b,u,rfl⟩:=O y my;have S:¬ b<a:=of_decide_eq_false h;show a<=b;lia
  have hp:H p=none:=I.hok.fresh U;refine⟨.ref p,_,I.laid (t':=tk) o3 U (show rO X.prog X.w _ S _ (.lst ((uk ns).map V.int))from ⟨?_,out,n',?_,o4⟩),rfl,q _ hp⟩
  .rw[lMq,(vG ns).length_eq,l,←hl];exact P
  .rw[←e];exact vals_ints O
end
end Mr
namespace Z
open PySem L2 Mr
abbrev St:=L2.St
inductive D where
 |non|bl (b:Bool)|int (i:Int)|str (x:Str)|ty (n:String)|list (xs:List D)|tup (xs:List D)|dict (kvs:List (pE×D))|scr (ns:Ϝ)|exc (c:Str) (fs:List (Str×Int))|cls (c:Str)|fd (kvs:List (pE×D))|ins (c:Str) (fs:List (Str×D))
inductive rE (K:Ζ)(H:Hp):D->V->Prop
 |non:rE K H .non .non
 |bl {b:Bool}:rE K H (.bl b) (.bl b)
 |int {i:Int}:rE K H (.int i) (.int i)
 |str {x:Str}:rE K H (.str x) (.str x)
 |ty {n:String}:rE K H (.ty n) (.ty n)
 |list {p:Addr}{vs:List V}{ds:List D}(h:H p=some (.lst vs)) (l:ds.length=vs.length) (e:∀(i:Nat) (d:D) (v:V),ds[i]?=some d->vs[i]?=some v->rE K H d v):rE K H (.list ds) (.ref p)
 |tup {p:Addr}{vs:List V}{ds:List D}(h:H p=some (.tup vs)) (l:ds.length=vs.length) (e:∀(i:Nat) (d:D) (v:V),ds[i]?=some d->vs[i]?=some v->rE K H d v):rE K H (.tup ds) (.ref p)
 |dict {p:Addr}{kvs:List (pE×V)}{ds:List (pE×D)}(h:H p=some (.dK kvs)) (l:ds.map (·.1)=kvs.map (·.1)) (e:∀(i:Nat) (d:pE×D) (v:pE×V),ds[i]?=some d->kvs[i]?=some v->rE K H d.2 v.2):rE K H (.dict ds) (.ref p)
 |scr {p:Addr}{ns:Ϝ}(h:rz K H p (ns.map V.int)):rE K H (.scr ns) (.ref p)
 |exc {c:Str}{fs:List (Str×Int)}{e C M dx:Addr}(rf:Xe.Ref K c C M) (nf:∀p∈fs,W.findIn K (.ref C) p.1=some none) (h:H e=some (Xe.ExA e C (some dx))) (hx:H dx=some (.xd (fs.map λp=>(p.1,V.int p.2)))):rE K H (.exc c fs) (.ref e)
 |exc0 {c:Str}{e C M:Addr}(rf:Xe.Ref K c C M) (h:H e=some (Xe.ExA e C none)):rE K H (.exc c []) (.ref e)
 |cls {c:Str}{C:Addr}(h:Xe.IsC K c C):rE K H (.cls c) (.ref C)
 |fd {p:Addr}{o:Obj}{kvs:List (pE×V)}{ds:List (pE×D)}(h:H p=some (.frz o (.dK kvs))) (l:ds.map (·.1)=kvs.map (·.1)) (e:∀(i:Nat) (d:pE×D) (v:pE×V),ds[i]?=some d->kvs[i]?=some v->rE K H d.2 v.2):rE K H (.fd ds) (.ref p)
 |ins {c:Str}{a C dx:Addr}{gs:List (Str×V)}{fs:List (Str×D)}(rf:W.nsIn K jQ c=some (some (.ref C))) (h:H a=some (.ins C dx gs)) (l:fs.map (·.1)=gs.map (·.1)) (e:∀(i:Nat) (d:Str×D) (v:Str×V),fs[i]?=some d->gs[i]?=some v->rE K H d.2 v.2):rE K H (.ins c fs) (.ref a)
def qv(K:Ζ)(H:Hp)(ds:List D)(vs:List V):Prop:=ds.length=vs.length/\∀(i:Nat) (d:D) (v:V),ds[i]?=some d->vs[i]?=some v->rE K H d v
def vC(K:Ζ)(H:Hp)(ds:List (pE×D))(kvs:List (pE×V)):Prop:=ds.map (·.1)=kvs.map (·.1)/\∀(i:Nat) (d:pE×D) (v:pE×V),ds[i]?=some d->kvs[i]?=some v->rE K H d.2 v.2
section
variable {K:Ζ}{H H':Hp}
def rE.mono{d:D}{v:V}(h:rE K H d v)(s:Same H H'):rE K H' d v:=by
 induction h with
 |non=>exact .non
 |bl=>exact .bl
 |int=>exact .int
 |str=>exact .str
 |ty=>exact .ty
 |list h l _ n=>exact .list (s _ _ h) l n
 |tup h l _ n=>exact .tup (s _ _ h) l n
 |dict h l _ n=>exact .dict (s _ _ h) l n
 |scr h=>exact .scr (s.seq h)
 |exc t u h x=>exact .exc t u (s _ _ h) (s _ _ x)
 |exc0 t h=>exact .exc0 t (s _ _ h)
 |cls h=>exact .cls h
 |fd h l _ n=>exact .fd (s _ _ h) l n
 |ins t h l _ n=>exact .ins t (s _ _ h) l n
theorem qv.mono{ds:List D}{vs:List V}(h:qv K H ds vs)(s:Same H H'):qv K H' ds vs:=⟨h.1,λi d v a b=>(h.2 i d v a b).mono s⟩
theorem vC.mono{ds:List (pE×D)}{vs:List (pE×V)}(h:vC K H ds vs)(s:Same H H'):vC K H' ds vs:=⟨h.1,λi d v a b=>(h.2 i d v a b).mono s⟩
def qv.nil:qv K H [] []:=⟨rfl,λi d v a=>by simp at a⟩
def qv.cons{d:D}{v:V}{ds:List D}{vs:List V}(h:rE K H d v)(t:qv K H ds vs):qv K H (d::ds) (v::vs):=⟨by simp[t.1],λi e w a b=>by
 cases i with
 |zero=>
  simp at a b;subst a b;exact h
 |succ i=>exact t.2 i e w (by simpa using a) (by simpa using b)⟩
def qv.cons_iff{d:D}{v:V}{ds:List D}{vs:List V}:qv K H (d::ds) (v::vs)↔rE K H d v/\qv K H ds vs:=
 ⟨λh=>⟨h.2 0 d v rfl rfl,by have:=h.1;simpa using this,λi e w a b=>h.2 (i+1) e w (by simpa using a) (by simpa using b)⟩,λh=>.cons h.1 h.2⟩
def qv.nil_inv{vs:List V}(h:qv K H [] vs):vs=[]:=by
 have:=h.1;cases vs with
 |nil=>rfl
 |cons _ _=>simp at this
def qv.cons_inv{d:D}{ds:List D}{vs:List V}(h:qv K H (d::ds) vs):∃v ws,vs=v::ws/\rE K H d v/\qv K H ds ws:=by
 cases vs with
 |nil=>have:=h.1;simp at this
 |cons v ws=>exact⟨v,ws,rfl,qv.cons_iff.mp h⟩
theorem qv.append:∀{ds es:List D}{vs ws:List V},qv K H ds vs->qv K H es ws->qv K H (ds++es) (vs++ws)
 | [],es,vs,ws,h,g=>by rw[h.nil_inv];exact g
 |d::ds,es,vs,ws,h,g=>by
  obtain⟨v,us,rfl,l,n⟩:=h.cons_inv;exact .cons l (qv.append n g)
theorem qv.take{ds:List D}{vs:List V}(h:qv K H ds vs)(n:Nat):qv K H (ds.take n) (vs.take n):=⟨by rw[lTq,lTq,h.1],λi d v a b=>by
 rw[List.getElem?_take]at a b;split at a
 .rename_i hi;rw[pB hi]at b;exact h.2 i d v a b
 .cases a⟩
theorem qv.drop{ds:List D}{vs:List V}(h:qv K H ds vs)(n:Nat):qv K H (ds.drop n) (vs.drop n):=⟨by rw[ax,ax,h.1],λi d v a b=>by
 rw[dB]at a b;exact h.2 _ d v a b⟩
noncomputable def qv.get{ds:List D}{vs:List V}(h:qv K H ds vs){i:Nat}{d:D}(e:ds[i]?=some d):∃v,vs[i]?=some v/\rE K H d v:=by
 have hi:i<ds.length:=(gSq.mp e).1;have l:i<vs.length:=h.1 ▸ hi;exact⟨vs[i],gEg l,h.2 i d _ e (gEg l)⟩
def qv.get'{ds:List D}{vs:List V}(h:qv K H ds vs){i:Nat}{v:V}(e:vs[i]?=some v):∃d,ds[i]?=some d/\rE K H d v:=by
 have hi:i<vs.length:=(gSq.mp e).1;have l:i<ds.length:=h.1.symm ▸ hi;exact⟨ds[i],gEg l,h.2 i _ v (gEg l) e⟩
def rE.list_inv{ds:List D}{v:V}(h:rE K H (.list ds) v):∃p vs,v = .ref p/\H p=some (.lst vs)/\qv K H ds vs:=by
 cases h with
 |list h l e=>exact⟨_,_,rfl,h,l,e⟩
noncomputable def rE.tup_inv{ds:List D}{v:V}(h:rE K H (.tup ds) v):∃p vs,v = .ref p/\H p=some (.tup vs)/\qv K H ds vs:=by
 cases h with
 |tup h l e=>exact⟨_,_,rfl,h,l,e⟩
noncomputable def rE.dict_inv{ds:List (pE×D)}{v:V}(h:rE K H (.dict ds) v):∃p kvs,v = .ref p/\H p=some (.dK kvs)/\vC K H ds kvs:=by
 cases h with
 |dict h l e=>exact⟨_,_,rfl,h,l,e⟩
noncomputable def rE.mk_tup{ds:List D}{p:Addr}{vs:List V}(h:H p=some (.tup vs))(r:qv K H ds vs):rE K H (.tup ds) (.ref p):=.tup h r.1 r.2
noncomputable def rE.mk_dict{ds:List (pE×D)}{p:Addr}{vs:List (pE×V)}(h:H p=some (.dK vs))(r:vC K H ds vs):rE K H (.dict ds) (.ref p):=.dict h r.1 r.2
end
noncomputable def D.scal:D->Bool
 | .non=>true
 | .bl _=>true
 | .int _=>true
 | .str _=>true
 | .ty _=>true
 |_=>false
theorem rE.scal{K:Ζ}{H l:Hp}{d:D}{v:V}(h:rE K H d v)(s:d.scal=true):rE K l d v:=by
 cases h with
 |non=>exact .non
 |bl=>exact .bl
 |int=>exact .int
 |str=>exact .str
 |ty=>exact .ty
 |_=>cases s
inductive AV where
 |sh (d:D)|ow (avs:List AV)|owd (kvs:List (pE×D))|owl (kvs:List (pE×Ϝ))
noncomputable abbrev i0(x:Int):Option AV:=some (.sh (.int x))
abbrev i5(x:List D):Option AV:=some (.sh (.list x))
noncomputable abbrev i6(x:Bool):Option AV:=some (.sh (.bl x))
mutual
def oB:AV->D
 | .sh d=>d
 | .ow l=>.list (Gq l)
 | .owd kvs=>.dict kvs
 | .owl kvs=>.dict (kvs.map λx=>(x.1,.list (x.2.map .int)))
def Gq:List AV->List D
 | []=>[]
 |a::as=>oB a::Gq as
end
theorem HV:∀l:List AV,Gq l=l.map oB
 | []=>by simp[Gq]
 |a::as=>by simp[Gq,HV as]
@[simp] theorem rV (d:D):oB (.sh d)=d:=by simp[oB]
@[simp] theorem rJ (l:List AV):oB (.ow l) = .list (l.map oB):=by simp[oB,HV]
@[simp] theorem D6 (kvs:List (pE×D)):oB (.owd kvs) = .dict kvs:=by simp[oB]
def Ia(kvs:List (pE×Ϝ)):oB (.owl kvs) = .dict (kvs.map λx=>(x.1,.list (x.2.map .int))):=by simp[oB]
inductive qa (K:Ζ)(Hf H:Hp):AV->V->Δ->Prop
 |sh {d:D}{v:V}(r:rE K Hf d v):qa K Hf H (.sh d) v []
 |ow {p:Addr}{vs:List V}{avs:List AV}{Fs:List Δ}(h:H p=some (.lst vs)) (n:Hf p=none) (l:avs.length=vs.length) (lf:avs.length=Fs.length)
   (e:∀(i:Nat) (a:AV) (v:V) (F:Δ),avs[i]?=some a->vs[i]?=some v->Fs[i]?=some F->qa K Hf H a v F):qa K Hf H (.ow avs) (.ref p) (p::Fs.flatten)
 |owd {p:Addr}{kvs:List (pE×V)}{ds:List (pE×D)}(h:H p=some (.dK kvs)) (n:Hf p=none) (r:vC K Hf ds kvs):qa K Hf H (.owd ds) (.ref p) [p]
 |owl {p:Addr}{kvs:List (pE×Ϝ)}{qs:Δ}(h:H p=some (.dK (jz (λx q=>(x.1,V.ref q)) kvs qs))) (n:Hf p=none) (l:kvs.length=qs.length) (e:∀(i:Nat) (q:Addr) (x:pE×Ϝ),qs[i]?=some q->kvs[i]?=some x->H q=some (.lst (x.2.map V.int))/\Hf q=none):qa K Hf H (.owl kvs) (.ref p) (p::qs)
def OG{K:Ζ}{H:Hp}{p:Addr}{kvs:List (pE×Ϝ)}{u:Δ}(h:H p=some (.dK (jz (λx q=>(x.1,V.ref q)) kvs u)))(l:kvs.length=u.length)(e:∀(i:Nat) (q:Addr) (x:pE×Ϝ),u[i]?=some q->kvs[i]?=some x->H q=some (.lst (x.2.map V.int))):rE K H (.dict (kvs.map λx=>(x.1,.list (x.2.map .int)))) (.ref p):=by
 refine .dict h ?_ λi d v s n=>?_
 .refine eP λi=>?_
  rw[gMq,gMq,gMq,hR]
  by_cases c:i<kvs.length
  .rw[gEg c,gEg (l ▸ c)];rfl
  .rw[bK (jb c)];rfl
 .rw[gMq]at s;rw[hR]at n;cases hk:kvs[i]? with
  |none=>rw[hk]at s;cases s
  |some x=>
   cases z:u[i]? with
   |none=>rw[hk,z]at n;cases n
   |some q=>
    rw[hk]at s n;rw[z]at n;cases s;cases n;refine .list (e i q x z hk) (by rw[lMq,lMq]) λj d v t B=>?_
    rw[gMq]at t B;cases E:x.2[j]? with
    |none=>rw[E]at t;cases t
    |some m=>
     rw[E]at t B;cases t;cases B;exact .int
noncomputable def ack{kvs:List (pE×Ϝ)}{n:Δ}(l:kvs.length=n.length){q:Addr}(s:q∈n):∃(i:Nat) (x:pE×Ϝ),n[i]?=some q/\kvs[i]?=some x:=by
 obtain⟨i,hi⟩:=aj.mp s;have hl:=(gSq.mp hi).1;exact⟨i,_,hi,gEg (l ▸ hl)⟩
section
variable {K:Ζ}{Hf Hf' H H':Hp}{av:AV}{v:V}{F:Δ}
def qa.owned(h:qa K Hf H av v F):∀q∈F,H q≠none/\Hf q=none:=by
 induction h with
 |sh _=>intro q s;cases s
 | @ow p u t B h n l O e E=>
  intro q s;rcases ab.mp s with rfl|s
  .exact⟨by rw[h];simp,n⟩
  .obtain⟨F,G,s⟩:=mFq.mp s;obtain⟨i,hi,rfl⟩:=cX.mp G;exact E i t[i] u[i] B[i] (by simp) (by simp) (by simp) q s
 |owd h n r=>
  intro q s;have:=mSq.mp s;subst this;exact⟨by rw[h];simp,n⟩
 |owl h n l e=>
  intro q s;rcases ab.mp s with z|z
  .rw[z];exact⟨by rw[h];simp,n⟩
  .obtain⟨i,x,I,J⟩:=ack l z;obtain⟨L,M⟩:=e i q x I J;exact⟨by rw[L];simp,M⟩
def qa.keep(h:qa K Hf H av v F)(s:Same Hf Hf')(hk:∀q∈F,H' q=H q)(hn:∀q∈F,Hf' q=none):qa K Hf' H' av v F:=by
 induction h with
 |sh r=>exact .sh (r.mono s)
 | @ow p M E O h n l G e I=>
  refine .ow (by rw[hk p (by simp)];exact h) (hn p (by simp)) l G λi a v F t u z=>I i a v F t u z (λq B=>hk q ?_) λq B=>hn q ?_
  all_goals exact mCo _ (mFq.mpr ⟨F,mGq z,B⟩)
 |owd h n r=>exact .owd (by rw[hk _ (by simp)];exact h) (hn _ (by simp)) (r.mono s)
 | @owl p J L h n l e=>
  refine .owl (by rw[hk _ (ao ..)];exact h) (hn _ (ao ..)) l λi q x t u=>?_
  have m:q∈p::L:=mCo _ (mGq t);exact⟨by rw[hk q m];exact(e i q x t u).1,hn q m⟩
def qa.rep(h:qa K Hf H av v F)(s:Same Hf H):rE K H (oB av) v:=by
 induction h with
 |sh r=>rw[rV];exact r.mono s
 | @ow p J z E h n l G e I=>
  rw[rJ];refine .list h (by simp[l]) λi d v t B=>?_
  rw[gMq]at t;cases u:z[i]? with
  |none=>rw[u]at t;cases t
  |some a=>
   rw[u]at t;cases t;have hi:i<E.length:=G ▸ (gSq.mp u).1;exact I i a v E[i] u B (gEg hi)
 |owd h n r=>rw[D6];exact .mk_dict h (r.mono s)
 |owl h n l e=>rw[Ia];exact OG h l λi q x t B=>(e i q x t B).1
def frz(Hf H:Hp)(F:Δ):Hp:=λb=>if b∈F then H b else Hf b
def DQ{b:Addr}(h:b∈F):frz Hf H F b=H b:=pB h
def vQ{b:Addr}(h:b∉F):frz Hf H F b=Hf b:=oZ h
def tN(h:∀q∈F,Hf q=none):Same Hf (frz Hf H F):=λb o e=>by
 rw[vQ λm=>by rw[h b m]at e;cases e]
 exact e
def XW(s:Same Hf H):Same (frz Hf H F) H:=λb o e=>by
 by_cases m:b∈F
 .rw[DQ m]at e;exact e
 .rw[vQ m]at e;exact s b o e
def qa.frozen(h:qa K Hf H av v F)(s:Same Hf Hf')(hk:∀q∈F,Hf' q=H q):rE K Hf' (oB av) v:=by
 induction h with
 |sh r=>rw[rV];exact r.mono s
 | @ow p L z B h n l G e I=>
  rw[rJ];refine .list (by rw[hk p (by simp)];exact h) (by simp[l]) λi d v t E=>?_
  rw[gMq]at t;cases u:z[i]? with
  |none=>rw[u]at t;cases t
  |some a=>
   rw[u]at t;cases t;have hi:i<B.length:=G ▸ (gSq.mp u).1;exact I i a v B[i] u E (gEg hi) λq J=>hk q (mCo _ (mFq.mpr ⟨B[i],gRq hi,J⟩))
 |owd h n r=>rw[D6];exact .mk_dict (by rw[hk _ (by simp)];exact h) (r.mono s)
 |owl h n l e=>rw[Ia];exact OG (by rw[hk _ (ao ..)];exact h) l λi q x t E=>by rw[hk q (mCo _ (mGq t))];exact(e i q x t E).1
end
abbrev AS:=List (Option AV)
structure qj (K:Ζ)(H₀ Hf₀ Hf:Hp)(S:AS)(σ:St)(H:Hp)(Fs:List Δ):Prop where
 len:S.length=σ.length
 lenF:Fs.length=S.length
 rep:∀(i:Nat) (av:AV),S[i]?=some (some av)->∃v F,σ[i]?=some (some v)/\Fs[i]?=some F/\qa K Hf H av v F
 emp:∀i:Nat,S[i]?=some none->Fs[i]?=some []
 nd:Fs.flatten.Nodup
 fresh:∀p∈Fs.flatten,H₀ p=none
 sub:Same Hf H
 fr:Same H₀ H
 lim:∀b,Hf₀ b=none->H₀ b≠none->Hf b=none
 sf:Same Hf₀ Hf
structure AM (Hf H:Hp)(Fs:List Δ)(Hf' H':Hp)(Fs':List Δ):Prop where
 sf:Same Hf Hf'
 sh:Same H H'
 own:∀p∈Fs'.flatten,p∈Fs.flatten
 gr:∀b,Hf b=none->Hf' b≠none->H b=none∨b∈Fs.flatten
theorem AM.refl{Hf H:Hp}{l:List Δ}:AM Hf H l Hf H l:=⟨.refl _,.refl _,λ_ h=>h,λb h g=>absurd h g⟩
def Yf{H l:Hp}(s:Same H l){b:Addr}(h:H b≠none):l b≠none:=by
 cases e:H b with
 |none=>exact absurd e h
 |some o=>rw[s b o e];simp
theorem AM.trans{Hf H Hf1 n l s:Hp}{t Fs1 Fs2:List Δ}(a:AM Hf H t Hf1 n Fs1)(b:AM Hf1 n Fs1 l s Fs2):AM Hf H t l s Fs2:=
 ⟨a.sf.trans b.sf,a.sh.trans b.sh,λp h=>a.own p (b.own p h),λc h g=>by
  by_cases e:Hf1 c=none
  .rcases b.gr c e g with q|q
   .exact .inl (a.sh.free q)
   .exact .inr (a.own c q)
  .exact a.gr c h e⟩
section
variable {K:Ζ}{H₀ Hf₀ Hf Hf' H H':Hp}{S:AS}{σ:St}{Fs Fs':List Δ}
def OJ{b:Addr}(s:Same H H')(h:H b≠none):H' b=H b:=by
 cases e:H b with
 |none=>exact absurd e h
 |some o=>exact s b o e
def qj.mem(R:qj K H₀ Hf₀ Hf S σ H Fs){q:Addr}(h:q∈Fs.flatten):H q≠none/\Hf q=none:=by
 obtain⟨F,t,n⟩:=mFq.mp h;obtain⟨i,hi,rfl⟩:=cX.mp t;have l:i<S.length:=R.lenF ▸ hi;cases e:S[i]with
 |none=>
  have:=R.emp i (by rw[gEg l,e])
  rw[gEg hi]at this;rw[aw.inj this]at n;cases n
 |some u=>
  obtain⟨v,F,_,s,r⟩:=R.rep i u (by rw[gEg l,e])
  rw[gEg hi]at s;rw[aw.inj s]at n;exact r.owned q n
def qj.more(R:qj K H₀ Hf₀ Hf S σ H Fs)(s:Same H H')(sf:Same Hf Hf')(sub:Same Hf' H')(hn:∀q∈Fs.flatten,Hf' q=none)(lim:∀b,Hf₀ b=none->H₀ b≠none->Hf' b=none):qj K H₀ Hf₀ Hf' S σ H' Fs where
 len:=R.len
 lenF:=R.lenF
 rep:=λi t e=>by
  obtain⟨v,F,u,n,r⟩:=R.rep i t e;refine⟨v,F,u,n,r.keep sf (λq l=>OJ s (r.owned q l).1) λq l=>hn q (mFq.mpr ⟨F,mGq n,l⟩)⟩
 emp:=R.emp
 nd:=R.nd
 fresh:=R.fresh
 sub:=sub
 fr:=R.fr.trans s
 lim:=lim
 sf:=R.sf.trans sf
def qj.laid(R:qj K H₀ Hf₀ Hf S σ H Fs)(s:Same H H'):qj K H₀ Hf₀ Hf S σ H' Fs:=R.more s (.refl _) (R.sub.trans s) (λq h=>(R.mem h).2) R.lim
noncomputable def sv{F:Δ}{i:Nat}{p:Addr}(h:p∈(Fs.set i F).flatten):p∈F∨p∈Fs.flatten:=by
 obtain⟨G,n,l⟩:=mFq.mp h;rcases List.mem_or_eq_of_mem_set n with q|q
 .exact .inr (mFq.mpr ⟨G,q,l⟩)
 .subst q;exact .inl l
theorem rX:∀{Fs:List Δ}{F:Δ}(i:Nat),Fs.flatten.Nodup->F.Nodup->(∀p∈F,p∉Fs.flatten)->(Fs.set i F).flatten.Nodup
 | [],F,i,h,_,_=>by simp
 |G::Gs,F,0,h,hF,hd=>by
  rw[dC,fCq,nAq];rw[fCq,nAq]at h;refine⟨hF,h.2.1,λa ha b hb e=>hd a ha ?_⟩
  rw[fCq];exact aq _ (e ▸ hb)
 |G::Gs,F,i+1,h,hF,hd=>by
  rw[fg,fCq,nAq];rw[fCq,nAq]at h;refine⟨h.1,rX i h.2.1 hF λp l m=>hd p l (by rw[fCq];exact aq _ m),λa ha b hb e=>?_⟩
  rcases sv hb with q|q
  .exact hd b q (by rw[fCq];exact bG _ (e ▸ ha))
  .exact h.2.2 a ha b q e
theorem qj.set(R:qj K H₀ Hf₀ Hf S σ H Fs){s:AV}{v:V}{F:Δ}(i:Nat)(r:qa K Hf H s v F)(nd:F.Nodup)(t:∀q∈F,H₀ q=none/\q∉Fs.flatten) :
  qj K H₀ Hf₀ Hf (S.set i (some s)) (σ.set i (some v)) H (Fs.set i F) where
 len:=by simp[R.len]
 lenF:=by simp[R.lenF]
 rep:=λj a e=>by
  rw[bQ]at e
  by_cases l:i=j
  .subst l;rw[pB rfl]at e;split at e
   .rename_i hi;cases e;exact⟨v,F,by rw[aS (R.len ▸ hi)],by rw[aS (R.lenF.symm ▸ hi)],r⟩
   .cases e
  .rw[oZ l]at e;obtain⟨w,G,u,x,q⟩:=R.rep j a e;exact⟨w,G,by rw[aF l];exact u,by rw[aF l];exact x,q⟩
 emp:=λj e=>by
  rw[bQ]at e
  by_cases l:i=j
  .subst l;rw[pB rfl]at e;split at e <;> cases e
  .rw[oZ l]at e;rw[aF l];exact R.emp j e
 nd:=rX i R.nd nd λp n=>(t p n).2
 fresh:=λp n=>by
  rcases sv n with q|q
  .exact(t p q).1
  .exact R.fresh p q
 sub:=R.sub
 fr:=R.fr
 lim:=R.lim
 sf:=R.sf
def qV{i:Nat}{p:Addr}(h:p∈(Fs.set i []).flatten):p∈Fs.flatten:=by
 rcases sv h with q|q
 .cases q
 .exact q
theorem vq:∀{Fs:List Δ}{F:Δ}{i:Nat}{p:Addr},Fs.flatten.Nodup->Fs[i]?=some F->p∈F->p∉(Fs.set i []).flatten
 | [],F,i,p,_,e,_,_=>by simp at e
 |G::Gs,F,0,p,h,e,l,m=>by
  simp at e;subst e;rw[dC,fCq,bA]at m;rw[fCq,nAq]at h;exact h.2.2 p l p m rfl
 |G::Gs,F,i+1,p,h,e,l,m=>by
  rw[fg,fCq]at m;rw[fCq,nAq]at h;have n:Gs[i]?=some F:=by simpa using e
  rcases mAq.mp m with q|q
  .exact h.2.2 p q p (mFq.mpr ⟨F,mGq n,l⟩) rfl
  .exact vq h.2.1 n l q
def qj.move(R:qj K H₀ Hf₀ Hf S σ H Fs){i:Nat}{u:AV}(e:S[i]?=some (some u)):∃v F,σ[i]?=some (some v)/\Fs[i]?=some F/\qa K Hf H u v F/\F.Nodup/\(∀q∈F,H₀ q=none/\q∉(Fs.set i []).flatten) /\
  qj K H₀ Hf₀ Hf (S.set i none) σ H (Fs.set i []):=by
 obtain⟨v,F,B,s,r⟩:=R.rep i u e;have x:∀q∈F,q∈Fs.flatten:=λq t=>mFq.mpr ⟨F,mGq s,t⟩
 refine⟨v,F,B,s,r,aJ.sublist (aE (mGq s)) R.nd,λq t=>⟨R.fresh q (x q t),vq R.nd s t⟩,?_⟩
 refine⟨by simp[R.len],by simp[R.lenF],λj a n=>?_,λj n=>?_,rX i R.nd aV (λp z=>by cases z),λp z=>R.fresh p (qV z),R.sub,R.fr,R.lim,R.sf⟩
 .rw[bQ]at n
  by_cases l:i=j
  .subst l;rw[pB rfl]at n;split at n <;> cases n
  .rw[oZ l]at n;obtain⟨w,G,E,I,q⟩:=R.rep j a n;exact⟨w,G,E,by rw[aF l];exact I,q⟩
 .rw[bQ]at n
  by_cases l:i=j
  .subst l;rw[pB rfl]at n;split at n
   .rename_i hi;rw[aS (R.lenF.symm ▸ hi)]
   .cases n
  .rw[oZ l]at n;rw[aF l];exact R.emp j n
theorem qj.frz(R:qj K H₀ Hf₀ Hf S σ H Fs){F:Δ}(l:∀q∈F,H₀ q=none/\q∉Fs.flatten)(hn:∀q∈F,Hf q=none):qj K H₀ Hf₀ (frz Hf H F) S σ H Fs:=by
 refine R.more (.refl _) (tN hn) (XW R.sub) (λq n=>?_) λb t s=>?_
 .rw[vQ λm=>(l q m).2 n]
  exact(R.mem n).2
 .rw[vQ λm=>s (l b m).1]
  exact R.lim b t s
end
abbrev ME:=AS->Option (D×AS)
abbrev MK:=AS->Option (AV×AS)
abbrev ML:=AS->Option (List D×AS)
abbrev MT:=AS->Option (Bool×AS)
abbrev MA:=AS->Option (List AV×AS)
def pT(K:Ζ)(Hf H:Hp)(l:List AV)(vs:List V)(n:List Δ):Prop:=
 l.length=vs.length/\l.length=n.length/\∀(i:Nat) (a:AV) (v:V) (F:Δ),l[i]?=some a->vs[i]?=some v->n[i]?=some F->qa K Hf H a v F
structure A9 (H₀ H:Hp)(Fs Fs':List Δ)(F:Δ):Prop where
 nd:F.Nodup
 fr:∀q∈F,H₀ q=none
 out:∀q∈F,q∉Fs'.flatten
 new:∀q∈F,H q=none∨q∈Fs.flatten
noncomputable def A9.nil{H₀ H:Hp}{n l:List Δ}:A9 H₀ H n l []:=⟨aV,λq h=>(by cases h),λq h=>(by cases h),λq h=>(by cases h)⟩
section
variable (K:Ζ)
def SR(te:TE)(m:ME):Prop:=∀{H₀ l Hf:Hp}{S:AS}{σ:St}{H:Hp}{u:List Δ}{d:D}{S':AS},qj K H₀ l Hf S σ H u->m S=some (d,S')->∀Q:VK,
 (∀n t s v,AM Hf H u n t s->qj K H₀ l n S' σ t s->rE K t d v->Q v t)->te σ H Q
def SK(te:TE)(m:MK):Prop:=∀{H₀ l Hf:Hp}{S:AS}{σ:St}{H:Hp}{u:List Δ}{a:AV}{S':AS},qj K H₀ l Hf S σ H u->m S=some (a,S')->∀Q:VK,
 (∀n t s v F,AM Hf H u n t s->qj K H₀ l n S' σ t s->qa K n t a v F->A9 H₀ H u s F->Q v t)->te σ H Q
def SL(te:TE)(m:ML):Prop:=∀{H₀ l Hf:Hp}{S:AS}{σ:St}{H:Hp}{u:List Δ}{ds:List D}{S':AS},qj K H₀ l Hf S σ H u->m S=some (ds,S')->∀Q:VK,
 (∀n t s p vs,AM Hf H u n t s->qj K H₀ l n S' σ t s->t p=some (.lst vs)->qv K n ds vs->Q (.ref p) t)->te σ H Q
def Kp(x:TT)(m:MT):Prop:=∀{H₀ l Hf:Hp}{S:AS}{σ:St}{H:Hp}{u:List Δ}{b:Bool}{S':AS},qj K H₀ l Hf S σ H u->m S=some (b,S')->∀Q:Bool->Hp->Prop,
 (∀n t s,AM Hf H u n t s->qj K H₀ l n S' σ t s->Q b t)->x σ H Q
def SA(z:TA)(m:MA):Prop:=∀{H₀ l Hf:Hp}{S:AS}{σ:St}{H:Hp}{u:List Δ}{as:List AV}{S':AS},qj K H₀ l Hf S σ H u->m S=some (as,S')->∀Q:List V->Hp->Prop,
 (∀n t s vs x,AM Hf H u n t s->qj K H₀ l n S' σ t s->pT K n t as vs x->A9 H₀ H u s x.flatten->Q vs t)->z σ H Q
def W6(x:TA)(m:ML):Prop:=∀{H₀ l Hf:Hp}{S:AS}{σ:St}{H:Hp}{u:List Δ}{ds:List D}{S':AS},qj K H₀ l Hf S σ H u->m S=some (ds,S')->∀Q:List V->Hp->Prop,
 (∀n t s vs,AM Hf H u n t s->qj K H₀ l n S' σ t s->qv K t ds vs->Q vs t)->x σ H Q
end
section
variable {K:Ζ}{H₀ Hf₀ Hf Hf' H H':Hp}{S S':AS}{σ:St}{Fs Fs':List Δ}
def qa.stp{n:AV}{v:V}{F:Δ}(r:qa K Hf H n v F)(s:∀q∈F,q∉Fs.flatten)(t:AM Hf H Fs Hf' H' Fs'):qa K Hf' H' n v F:=
 r.keep t.sf (λq l=>OJ t.sh (r.owned q l).1) λq l=>by
  by_cases e:Hf' q=none
  .exact e
  .rcases t.gr q (r.owned q l).2 e with z|z
   .exact absurd z (r.owned q l).1
   .exact absurd z (s q l)
def qj.new(R:qj K H₀ Hf₀ Hf S σ H Fs){p:Addr}{o:HO}(l:H p=none):AM Hf H Fs Hf (qC H p o) Fs/\qj K H₀ Hf₀ Hf S σ (qC H p o) Fs/\Hf p=none/\H₀ p=none/\p∉Fs.flatten:=
 ⟨⟨.refl _,vf l,λ_ h=>h,λb h g=>absurd h g⟩,R.laid (vf l),R.sub.free l,R.fr.free l,λm=>(R.mem m).1 l⟩
def sU(n:Nat):(ay n ([]:Δ)).flatten=[]:=by
 induction n with
 |zero=>rfl
 |succ n l=>rw[iC,fCq,l];rfl
def qa.new{p:Addr}{vs:List V}{ds:List D}(h:H p=some (.lst vs))(n:Hf p=none)(r:qv K Hf ds vs):qa K Hf H (.ow (ds.map .sh)) (.ref p) [p]:=by
 have e:[p]=p::(ay ds.length ([]:Δ)).flatten:=by rw[sU]
 rw[e];refine .ow h n (by simp[r.1]) (by simp) λi a v F l s t=>?_
 rw[gMq]at l;cases q:ds[i]? with
 |none=>rw[q]at l;cases l
 |some d=>
  rw[q]at l;cases l;have:F=[]:=dY (mGq t);subst this;exact .sh (r.2 i d v q s)
def qa.news{p:Addr}{vs:List V}{l:List AV}{s:List Δ}(h:H p=some (.lst vs))(n:Hf p=none)(r:pT K Hf H l vs s):qa K Hf H (.ow l) (.ref p) (p::s.flatten):=.ow h n r.1 r.2.1 r.2.2
def qa.ow_inv{s:List AV}{v:V}{F:Δ}(h:qa K Hf H (.ow s) v F):∃p vs t,v = .ref p/\F=p::t.flatten/\H p=some (.lst vs)/\Hf p=none/\pT K Hf H s vs t:=by
 cases h with
 |ow h n l u e=>exact⟨_,_,_,rfl,rfl,h,n,l,u,e⟩
def qa.owd_inv{ds:List (pE×D)}{v:V}{F:Δ}(h:qa K Hf H (.owd ds) v F):∃p kvs,v = .ref p/\F=[p]/\H p=some (.dK kvs)/\Hf p=none/\vC K Hf ds kvs:=by
 cases h with
 |owd h n r=>exact⟨_,_,rfl,rfl,h,n,r⟩
def qa.sh_inv{d:D}{v:V}{F:Δ}(h:qa K Hf H (.sh d) v F):F=[]/\rE K Hf d v:=by
 cases h with
 |sh r=>exact⟨rfl,r⟩
def qj.give{l:Hp}{Fs1:List Δ}(R:qj K H₀ Hf₀ Hf' S σ l Fs1)(t:AM Hf H Fs Hf' l Fs1){u:AV}{v:V}{F:Δ}(r:qa K Hf' l u v F)(o:A9 H₀ H Fs Fs1 F) :
  qj K H₀ Hf₀ (Z.frz Hf' l F) S σ l Fs1/\rE K (Z.frz Hf' l F) (oB u) v/\AM Hf H Fs (Z.frz Hf' l F) l Fs1:=by
 have n:∀q∈F,Hf' q=none:=λq s=>(r.owned q s).2
 refine⟨R.frz (λq s=>⟨o.fr q s,o.out q s⟩) n,r.frozen (tN n) λq s=>DQ s,t.sf.trans (tN n),t.sh,t.own,λb h g=>?_⟩
 by_cases m:b∈F
 .exact o.new b m
 .rw[vQ m]at g;exact t.gr b h g
def pT.nil:pT K Hf H [] [] []:=⟨rfl,rfl,λi a v F h=>by simp at h⟩
def pT.cons{a:AV}{v:V}{F:Δ}{as:List AV}{vs:List V}{u:List Δ}(h:qa K Hf H a v F)(t:pT K Hf H as vs u):pT K Hf H (a::as) (v::vs) (F::u):=
 ⟨by simp[t.1],by simp[t.2.1],λi b w G l n s=>by
  cases i with
  |zero=>
   simp at l n s;subst l n s;exact h
  |succ i=>exact t.2.2 i b w G (by simpa using l) (by simpa using n) (by simpa using s)⟩
def pT.nil_inv{vs:List V}{l:List Δ}(h:pT K Hf H [] vs l):vs=[]/\l=[]:=by
 obtain⟨a,b,_⟩:=h;exact⟨bN.mp a.symm,bN.mp b.symm⟩
def pT.cons_inv{a:AV}{as:List AV}{vs:List V}{n:List Δ}(h:pT K Hf H (a::as) vs n):∃v ws F l,vs=v::ws/\n=F::l/\qa K Hf H a v F/\pT K Hf H as ws l:=by
 obtain⟨s,t,u⟩:=h;cases vs with
 |nil=>simp at s
 |cons v ws=>
  cases n with
  |nil=>simp at t
  |cons F l=>exact⟨v,ws,F,l,rfl,rfl,u 0 a v F rfl rfl rfl,by simpa using s,by simpa using t,λi b w G x z B=>u (i+1) b w G (by simpa using x) (by simpa using z) (by simpa using B)⟩
theorem pT.frozen(h:pT K Hf H as vs Gs)(s:Same Hf Hf')(hk:∀q∈Gs.flatten,Hf' q=H q):qv K Hf' (as.map oB) vs:=
 ⟨by simp[h.1],λi d v l t=>by
  rw[gMq]at l;cases n:as[i]? with
  |none=>rw[n]at l;cases l
  |some a=>
   rw[n]at l;cases l;have hi:i<Gs.length:=h.2.1 ▸ (gSq.mp n).1;exact(h.2.2 i a v Gs[i] n t (gEg hi)).frozen s λq u=>hk q (mFq.mpr ⟨Gs[i],gRq hi,u⟩)⟩
theorem pT.owned(h:pT K Hf H as vs Gs):∀q∈Gs.flatten,H q≠none/\Hf q=none:=λq l=>by
 obtain⟨F,s,l⟩:=mFq.mp l;obtain⟨i,hi,rfl⟩:=cX.mp s;have n:i<as.length:=h.2.1.symm ▸ hi;have t:i<vs.length:=h.1 ▸ n;exact(h.2.2 i as[i] vs[i] Gs[i] (gEg n) (gEg t) (gEg hi)).owned q l
def qj.gives{l:Hp}{Fs1:List Δ}(R:qj K H₀ Hf₀ Hf' S σ l Fs1)(t:AM Hf H Fs Hf' l Fs1){as:List AV}{vs:List V}{s:List Δ}(r:pT K Hf' l as vs s)(o:A9 H₀ H Fs Fs1 s.flatten) :
  qj K H₀ Hf₀ (Z.frz Hf' l s.flatten) S σ l Fs1/\qv K (Z.frz Hf' l s.flatten) (as.map oB) vs/\AM Hf H Fs (Z.frz Hf' l s.flatten) l Fs1:=by
 have n:∀q∈s.flatten,Hf' q=none:=λq u=>(r.owned q u).2
 refine⟨R.frz (λq u=>⟨o.fr q u,o.out q u⟩) n,r.frozen (tN n) λq u=>DQ u,t.sf.trans (tN n),t.sh,t.own,λb h g=>?_⟩
 by_cases m:b∈s.flatten
 .exact o.new b m
 .rw[vQ m]at g;exact t.gr b h g
def A9.stp{Hf1 n l s:Hp}{Fs1 Fs2:List Δ}{F:Δ}(o:A9 H₀ H Fs Fs1 F)(t:AM Hf1 n Fs1 l s Fs2):A9 H₀ H Fs Fs2 F:=⟨o.nd,o.fr,λq h m=>o.out q h (t.own q m),o.new⟩
def A9.back{Hf1 l:Hp}{Fs1 Fs2:List Δ}{F:Δ}(t:AM Hf H Fs Hf1 l Fs1)(o:A9 H₀ l Fs1 Fs2 F):A9 H₀ H Fs Fs2 F:=⟨o.nd,o.fr,o.out,λq h=>(o.new q h).elim (λe=>.inl (t.sh.free e)) λm=>.inr (t.own q m)⟩
def A9.app{F G:Δ}(a:A9 H₀ H Fs Fs' F)(b:A9 H₀ H Fs Fs' G)(d:∀q∈F,q∉G):A9 H₀ H Fs Fs' (F++G):=
 ⟨nAq.mpr ⟨a.nd,b.nd,λx l y n e=>d x l (e ▸ n)⟩,λq h=>(mAq.mp h).elim (a.fr q) (b.fr q),λq h=>(mAq.mp h).elim (a.out q) (b.out q),λq h=>(mAq.mp h).elim (a.new q) (b.new q)⟩
def A9.apart{Hf1 l:Hp}{Fs1 Fs2:List Δ}{F G:Δ}(a:A9 H₀ H Fs Fs1 F)(ha:∀q∈F,l q≠none)(b:A9 H₀ l Fs1 Fs2 G):∀q∈F,q∉G:=λq h m=>by
 rcases b.new q m with e|e
 .exact ha q h e
 .exact a.out q h e
def A9.one(R:qj K H₀ Hf₀ Hf S σ H Fs){p:Addr}(l:H p=none):A9 H₀ H Fs Fs [p]:=
 ⟨by simp,λq h=>by rw[mSq.mp h];exact R.fr.free l,λq h m=>by rw[mSq.mp h]at m;exact(R.mem m).1 l,λq h=>by rw[mSq.mp h];exact .inl l⟩
end
def oj(i:Nat):ME:=λS=>(S[i]?.join).map λa=>(oB a,S)
def oy(i:Nat):MK:=λS=>(S[i]?.join).map λa=>(.sh (oB a),S.set i (some (.sh (oB a))))
def EV(i:Nat):MK:=λS=>(S[i]?.join).map λa=>(a,S.set i none)
def Au(i:Nat):ML:=λS=>match S[i]?.join with
 |some (.sh (.list ds))=>some (ds,S)
 |some (.ow l)=>some (l.map oB,S.set i (some (.ow ((l.map oB).map .sh))))
 |_=>none
def rOf(k:MK):ME:=λS=>(k S).map λx=>(oB x.1,x.2)
def kSc(m:ME):MK:=λS=>(m S).bind λx=>if x.1.scal then some (.sh x.1,x.2)else none
def lOf(k:MK):ML:=λS=>(k S).bind λx=>match x.1 with
 | .sh (.list ds)=>some (ds,x.2)
 | .ow l=>some (l.map oB,x.2)
 |_=>none
def uR(k:MK):MK:=λS=>(k S).map λx=>(.sh (oB x.1),x.2)
def rC(d:D):ME:=λS=>if d.scal then some (d,S)else none
section
variable {K:Ζ}
def qh{S:AS}{i:Nat}{a:AV}(h:S[i]?.join=some a):S[i]?=some (some a):=by
 cases e:S[i]? with
 |none=>rw[e]at h;cases h
 |some z=>rw[e]at h;exact congrArg some h
def zt(i:Nat):SR K (vA i) (oj i):=by
 intro H₀ l Hf S σ H t d u R e Q q;obtain⟨a,n,e⟩:=oMq.mp e;cases e;obtain⟨v,F,s,x,r⟩:=R.rep i a (qh n);exact⟨v,s,q _ _ _ v .refl R (r.rep R.sub)⟩
def aan(i:Nat):SK K (vA i) (EV i):=by
 intro H₀ n Hf S σ H B a E R e Q q;obtain⟨b,s,e⟩:=oMq.mp e;cases e;obtain⟨v,F,t,u,r,nd,o,x⟩:=R.move (qh s);exact⟨v,t,q _ _ _ v F ⟨.refl _,.refl _,λp z=>qV z,λb h g=>absurd h g⟩ x r ⟨nd,λq l=>(o q l).1,λq l=>(o q l).2,λq l=>.inr (mFq.mpr ⟨F,mGq u,l⟩)⟩⟩
def qj.again{H₀ l Hf H:Hp}{S:AS}{σ:St}{n:List Δ}{i:Nat}{s:AV}{v:V}{F G:Δ}(R:qj K H₀ l Hf (S.set i none) σ H (n.set i []))(s1:σ[i]?=some (some v))(r:qa K Hf H s v G)(nd:G.Nodup)(t:∀q∈G,H₀ q=none/\q∉(n.set i []).flatten) :
  qj K H₀ l Hf (S.set i (some s)) σ H (n.set i G):=by
 have R2:=R.set i r nd t;rw[iO,iO]at R2;have e:σ.set i (some v)=σ:=by
  obtain⟨hk,u⟩:=gSq.mp s1;rw[←u];exact fI hk
 rw[e]at R2;exact R2
def CF(i:Nat):SK K (vA i) (oy i):=by
 intro H₀ l Hf S σ H J a L R e Q q;obtain⟨b,x,e⟩:=oMq.mp e;cases e;obtain⟨v,F,t,z,r,nd,o,B⟩:=R.move (qh x);have n:∀q∈F,Hf q=none:=λq s=>(r.owned q s).2
 have R2:=B.frz o n;have u:=r.frozen (tN (H:=H) n) λq s=>DQ s
 have E:=R2.again (F:=F) (G:=[]) t (.sh u) aV λq h=>(by cases h)
 refine⟨v,t,q _ _ _ v [] ⟨tN n,.refl _,λp I=>qV I,λb h g=>?_⟩ E (.sh u) .nil⟩
 by_cases m:b∈F
 .exact .inr (mFq.mpr ⟨F,mGq z,m⟩)
 .rw[vQ m]at g;exact absurd h g
def Od(i:Nat):SL K (vA i) (Au i):=by
 intro H₀ x Hf S σ H Fs ds S' R e Q q;unfold Au at e;split at e
 .rename_i P B;cases e;obtain⟨v,F,t,E,r⟩:=R.rep i _ (qh B);obtain⟨p,I,rfl,u,J⟩:=r.sh_inv.2.list_inv;exact⟨_,t,q _ _ _ p I .refl R (R.sub _ _ u) J⟩
 .rename_i L B;cases e;obtain⟨v,F,t,E,r,nd,o,T⟩:=R.move (qh B);obtain⟨p,I,s,rfl,rfl,u,J,M⟩:=r.ow_inv;have n:∀q∈s.flatten,Hf q=none:=λq l=>(M.owned q l).2
  have R2:=T.frz (F:=s.flatten) (λq l=>o q (mCo _ l)) n
  have O:=M.frozen (tN (H:=H) n) λq l=>DQ l
  have U:p∉s.flatten:=(ah.mp nd).1;have X:qa K (Z.frz Hf H s.flatten) H (.ow ((L.map oB).map .sh)) (.ref p) [p]:=qa.new u (by rw[vQ U];exact J) O
  have Y:=R2.again (F:=p::s.flatten) (G:=[p]) t X (by simp) λq l=>by rw[mSq.mp l];exact o p (by simp)
  refine⟨_,t,q _ _ _ p I ⟨tN n,.refl _,λb hb=>?_,λb h g=>?_⟩ Y u O⟩
  .rcases sv hb with z|z
   .rw[mSq.mp z];exact mFq.mpr ⟨_,mGq E,by simp⟩
   .exact z
  .by_cases m:b∈s.flatten
   .exact .inr (mFq.mpr ⟨_,mGq E,mCo _ m⟩)
   .rw[vQ m]at g;exact absurd h g
 .cases e
theorem SK.rOf{te:TE}{k:MK}(h:SK K te k):SR K te (rOf k):=by
 intro H₀ l Hf S σ H B d E R e Q q;obtain⟨x,s,e⟩:=oMq.mp e;cases e;exact h R (a:=x.1) (S':=x.2) s Q λu G z v F t n r o=>q _ _ _ v t n (r.rep n.sub)
theorem SR.kSc{te:TE}{m:ME}(h:SR K te m):SK K te (kSc m):=by
 intro H₀ l Hf S σ H E a G R e Q q;obtain⟨x,n,e⟩:=oBq.mp e;split at e
 .rename_i s;cases e;exact h R (d:=x.1) (S':=x.2) n Q λu I z v t B r=>q _ _ _ v [] t B (.sh (r.scal s)) .nil
 .cases e
def SK.frz{te:TE}{k:MK}(h:SK K te k):SK K te (uR k):=by
 intro H₀ l Hf S σ H G a I R e Q q;obtain⟨x,n,e⟩:=oMq.mp e;cases e;refine h R (a:=x.1) (S':=x.2) n Q λs J u v F t z r o=>?_
 obtain⟨R2,B,E⟩:=z.give t r o;exact q _ _ _ v [] E R2 (.sh B) .nil
theorem SK.lOf{te:TE}{k:MK}(h:SK K te k):SL K te (lOf k):=by
 intro H₀ l Hf S σ H P T U R e Q q;obtain⟨x,G,e⟩:=oBq.mp e;refine h R (a:=x.1) (S':=x.2) G Q λI X J v F t n r o=>?_
 split at e
 .rename_i L s;cases e;rw[s]at r;obtain⟨p,u,rfl,z,B⟩:=r.sh_inv.2.list_inv;exact q _ _ _ p u t n (n.sub _ _ z) B
 .rename_i M s;cases e;obtain⟨R2,E,O⟩:=n.give t r o;rw[s,rJ]at E;obtain⟨p,u,rfl,z,B⟩:=E.list_inv;exact q _ _ _ p u O R2 (R2.sub _ _ z) B
 .cases e
def To{v:V}{d:D}(h:∀H,rE K H d v):SR K (tC v) (rC d):=by
 intro H₀ l Hf S σ H n s t R e Q q;unfold rC at e;split at e
 .cases e;exact q _ _ _ v .refl R (h _)
 .cases e
def acH{i:Int}:SR K (tC (.int i)) (rC (.int i)):=To λ_=>.int
def ZO{i:Str}:SR K (tC (.str i)) (rC (.str i)):=To λ_=>.str
def adz{i:Bool}:SR K (tC (.bl i)) (rC (.bl i)):=To λ_=>.bl
def abt:SR K (tC .non) (rC .non):=To λ_=>.non
def adE{T:String}:SR K (tC (.ty T)) (rC (.ty T)):=To λ_=>.ty
end
def wH{α:Type}(p:Prop)(x:Option α):Option α:=@ite (Option α) p (bb p) x none
def vS{α:Type}{p:Prop}(h:p)(x:Option α):wH p x=x:=pB h
def yZ{α:Type}(x:Option α):wH True x=x:=pB trivial
def pR{α:Type}{p:Prop}{x y:Option α}(h:wH p x=y):(p/\x=y)∨none=y:=by
 by_cases c:p
 .rw[vS c]at h;exact .inl ⟨c,h⟩
 .exact .inr ((@if_neg p (bb p) c _ x none).symm.trans h)
noncomputable def oV(f:D->D->Option D)(a b:ME):ME:=λS=>(a S).bind λx=>(b x.2).bind λy=>(f x.1 y.1).map λd=>(d,y.2)
noncomputable def Ak(f:D->Option D)(a:ME):ME:=λS=>(a S).bind λx=>(f x.1).map λd=>(d,x.2)
def II(K:Ζ)(r:R2)(f:D->D->Option D):Prop:=∀{x y:V}{H:Hp}{Q:VK}{l n d:D},rE K H l x->rE K H n y->f l n=some d->(∀v,rE K H d v->Q v H)->r x y H Q
def UnD(K:Ζ)(r:V->Hp->VK->Prop)(f:D->Option D):Prop:=∀{x:V}{H:Hp}{Q:VK}{l d:D},rE K H l x->f l=some d->(∀v,rE K H d v->Q v H)->r x H Q
section
variable {K:Ζ}{r:R2}{f:D->D->Option D}{ta tb:TE}{a b:ME}
def aeG(hr:II K r f)(ha:SR K ta a)(hb:SR K tb b):SR K (YV r ta tb) (oV f a b):=by
 intro H₀ l Hf S σ H O d P R e Q q;obtain⟨x,s,e⟩:=oBq.mp e;obtain⟨y,t,e⟩:=oBq.mp e;obtain⟨z,u,e⟩:=oMq.mp e;cases e;refine ha R (d:=x.1) (S':=x.2) s _ λB T Fs1 U E G I=>hb G (d:=y.1) (S':=y.2) t _ λJ X Fs2 Y n R2 L=>?_
 exact hr (I.mono n.sh) L u λv M=>q _ _ _ v (E.trans n) R2 M
def aeN{r:V->Hp->VK->Prop}{f:D->Option D}(hr:UnD K r f)(ha:SR K ta a):SR K (tUn r ta) (Ak f a):=by
 intro H₀ l Hf S σ H I d J R e Q q;obtain⟨x,n,e⟩:=oBq.mp e;obtain⟨z,s,e⟩:=oMq.mp e;cases e;exact ha R (d:=x.1) (S':=x.2) n _ λt L Fs1 M u B E=>hr E s λv G=>q _ _ _ v u B G
end
def Oe(c:Int->Int->Prop)(g:Int->Int->D):D->D->Option D
 | .int i,.int j=>wH (c i j) (some (g i j))
 |_,_=>none
def dI1(g:Int->D):D->Option D
 | .int i=>some (g i)
 |_=>none
abbrev uJ:=Oe (λ_ _=>True) λi j=>.int (i+j)
abbrev GF:=Oe (λ_ _=>True) λi j=>.int (i-j)
abbrev D4:=Oe Sz λi j=>.int (i*j)
abbrev ur:=Oe (λ_ j=>0<j) λi j=>.int (i % j)
abbrev CL:=Oe aa3 λi j=>.int (i / j)
abbrev E5:=Oe abC λi j=>.int (i ^ j.toNat)
abbrev M0:=Oe (λ_ _=>True) λi j=>.bl (decide (i<j))
abbrev dLe:=Oe (λ_ _=>True) λi j=>.bl (decide (i<=j))
abbrev Lu:=Oe (λ_ _=>True) λi j=>.bl (decide (j<i))
abbrev dGe:=Oe (λ_ _=>True) λi j=>.bl (decide (j<=i))
abbrev vz:=dI1 λi=>.int (-i)
noncomputable def RA(b:Bool):Option D:=some (.bl b)
def GP(x y:D):Option D:=match x with
 | .int i=>(match y with|.int j=>RA (decide (i=j))|.non=>RA false|.str _=>RA false|_=>none)
 | .str i=>(match y with|.str j=>RA (decide (i=j))|.non=>RA false|.int _=>RA false|_=>none)
 | .bl i=>(match y with|.bl j=>RA (decide (i=j))|.non=>RA false|_=>none)
 | .non=>(match y with|.non=>RA true|.int _=>RA false|.str _=>RA false|.bl _=>RA false|_=>none)
 |_=>none
def Rc:D->Option D
 | .bl b=>some (.bl (!b))
 |_=>none
def Yz(x y:D):Option D:=(GP x y).bind Rc
section
variable {K:Ζ}
def Lb{C:Int->Int->Prop}{g:Int->Int->V}{g':Int->Int->D}(l:∀H i j,rE K H (g' i j) (g i j)):II K (rI C g) (Oe C g'):=by
 intro x y H Q t u d n s e q;unfold Oe at e;split at e
 .rename_i i j;cases n;cases s;rcases pR e with⟨h,e⟩|e
  .cases e;exact⟨i,j,rfl,rfl,h,q _ (l H i j)⟩
  .cases e
 .cases e
def JY{g:Int->Int->V}{g':Int->Int->D}(l:∀H i j,rE K H (g' i j) (g i j)):II K (TV g) (Oe (λ_ _=>True) g'):=by
 intro x y H Q t u d n s e q;unfold Oe at e;split at e
 .rename_i i j;cases n;cases s;rw[yZ]at e;cases e;exact⟨i,j,rfl,rfl,q _ (l H i j)⟩
 .cases e
def aav:II K (TV λi j=>.int (i+j)) uJ:=JY λ_ _ _=>.int
def aca:II K (TV λi j=>.int (i-j)) GF:=JY λ_ _ _=>.int
def abz:II K (rI Sz λi j=>.int (i*j)) D4:=Lb λ_ _ _=>.int
def acf:II K (rI (λ_ j=>0<j) λi j=>.int (i % j)) ur:=Lb λ_ _ _=>.int
def ab4:II K (rI aa3 λi j=>.int (i / j)) CL:=Lb λ_ _ _=>.int
def aa6:II K (rI abC λi j=>.int (i ^ j.toNat)) E5:=Lb λ_ _ _=>.int
def adM:II K (TV λi j=>.bl (decide (i<j))) M0:=JY λ_ _ _=>.bl
def aeq:II K (TV λi j=>.bl (decide (j<i))) Lu:=JY λ_ _ _=>.bl
def aaq:UnD K (rU λi=>.int (-i)) vz:=by
 intro x H Q n d l e q;cases l <;> simp only[dI1]at e
 all_goals first|(exfalso;simp at e;done)|skip
 rename_i i;cases e;exact⟨i,rfl,q _ .int⟩
def Zj:II K rEq GP:=by
 intro x y H Q s t d l n e q;unfold GP at e;cases l <;> first|(cases e;done)|(cases n <;> first|(cases e;done)|skip)
 all_goals (cases e;refine⟨rfl,q _ ?_⟩;simp only[reduceCtorEq,decide_false,decide_true,V.int.injEq,V.str.injEq,V.bl.injEq];exact .bl)
def aeo:II K rNe Yz:=by
 intro x y H Q B E d l n e q;obtain⟨b,s,t⟩:=oBq.mp e;obtain⟨u,z⟩:=Zj l n s (Q:=λv _=>rE K H b v) λv h=>h
 cases z;cases t;exact⟨u,q _ .bl⟩
end
def Rh(a b:ME):ME:=λS=>(a S).bind λx=>match x.1 with
 | .bl true=>b x.2
 | .bl false=>some (.bl false,x.2)
 |_=>none
def rOr(a b:ME):ME:=λS=>(a S).bind λx=>match x.1 with
 | .bl true=>some (.bl true,x.2)
 | .bl false=>b x.2
 |_=>none
def aai(a:ME):ME:=Ak Rc a
def rA(a:ME):MT:=λS=>(a S).bind λx=>match x.1 with
 | .bl b=>some (b,x.2)
 |_=>none
noncomputable def Lh(a b:MT):MT:=λS=>(a S).bind λx=>if x.1=true then b x.2 else some (false,x.2)
noncomputable def Oc(a b:MT):MT:=λS=>(a S).bind λx=>if x.1=true then some (true,x.2)else b x.2
noncomputable def vD(a:MT):MT:=λS=>(a S).map λx=>(!x.1,x.2)
noncomputable def rIf(c:MT)(a b:ME):ME:=λS=>(c S).bind λx=>if x.1=true then a x.2 else b x.2
noncomputable def kIf(c:MT)(a b:MK):MK:=λS=>(c S).bind λx=>if x.1=true then a x.2 else b x.2
section
variable {K:Ζ}{ta tb:TE}{a b:ME}{ca cb:TT}{ma mb:MT}
def abf(ha:SR K ta a)(hb:SR K tb b):SR K (Zm ta tb) (Rh a b):=by
 intro H₀ n Hf S σ H L d M R e Q q;obtain⟨x,z,e⟩:=oBq.mp e;refine ha R (d:=x.1) (S':=x.2) z _ λB O Fs1 P t u l=>?_
 split at e
 .rename_i s;rw[s]at l;cases l;exact⟨true,rfl,LW (hb u e Q λE T Fs2 G I R2 J=>q _ _ _ G (t.trans I) R2 J)⟩
 .rename_i s;rw[s]at l;cases l;cases e;exact⟨false,rfl,LU (q _ _ _ _ t u .bl)⟩
 .cases e
def ZU(ha:SR K ta a):SR K (Zu ta) (aai a):=by
 intro H₀ n Hf S σ H I d J R e Q q;obtain⟨x,t,e⟩:=oBq.mp e;obtain⟨z,l,e⟩:=oMq.mp e;cases e;refine ha R (d:=x.1) (S':=x.2) t _ λu L Fs1 M B E s=>?_
 cases G:x.1 <;> rw[G]at l s <;> simp only[Rc]at l
 all_goals first|(exfalso;simp at l;done)|skip
 cases s;cases l;exact⟨_,rfl,q _ _ _ _ B E .bl⟩
def adJ(ha:SR K ta a):Kp K (tB ta) (rA a):=by
 intro H₀ l Hf S σ H E d G R e Q q;obtain⟨x,s,e⟩:=oBq.mp e;refine ha R (d:=x.1) (S':=x.2) s _ λt I Fs1 J u z n=>?_
 split at e
 .rename_i b B;rw[B]at n;cases n;cases e;exact⟨_,rfl,q _ _ _ u z⟩
 .cases e
def ZK(ha:Kp K ca ma)(hb:Kp K cb mb):Kp K (aeg ca cb) (Lh ma mb):=by
 intro H₀ n Hf S σ H G d I R e Q q;obtain⟨x,u,e⟩:=oBq.mp e;refine ha R (b:=x.1) (S':=x.2) u _ λz J Fs1 s t=>?_
 split at e
 .rename_i l;rw[l];exact LW (hb t e Q λB L Fs2 E R2=>q _ _ _ (s.trans E) R2)
 .rename_i l;cases e;rw[dt]at l;rw[l];exact LU (q _ _ _ s t)
def ad0(ha:Kp K ca ma)(hb:Kp K cb mb):Kp K (tOr ca cb) (Oc ma mb):=by
 intro H₀ n Hf S σ H G d I R e Q q;obtain⟨x,u,e⟩:=oBq.mp e;refine ha R (b:=x.1) (S':=x.2) u _ λz J Fs1 s t=>?_
 split at e
 .rename_i l;cases e;rw[l];exact LW (q _ _ _ s t)
 .rename_i l;rw[dt]at l;rw[l];exact LU (hb t e Q λB L Fs2 E R2=>q _ _ _ (s.trans E) R2)
def acB(ha:Kp K ca ma):Kp K (ad9 ca) (vD ma):=by
 intro H₀ l Hf S σ H z d B R e Q q;obtain⟨x,n,e⟩:=oMq.mp e;cases e;exact ha R (b:=x.1) (S':=x.2) n _ λs E Fs1 t u=>q _ _ _ t u
end
noncomputable abbrev qE:Nat:=16777216
def vv:jP=qE:=ka
def SQ(K:Ζ)(te:TE)(m:ML):Prop:=∀{H₀ l Hf:Hp}{S:AS}{σ:St}{H:Hp}{u:List Δ}{ds:List D}{S':AS},qj K H₀ l Hf S σ H u->m S=some (ds,S')->∀Q:VK,
 (∀n t s p vs,AM Hf H u n t s->qj K H₀ l n S' σ t s->rz K t p vs->qv K n ds vs->Q (.ref p) t)->te σ H Q
theorem SL.q{K:Ζ}{te:TE}{m:ML}(h:SL K te m):SQ K te m:=by
 intro H₀ l Hf S σ H B E G R e Q q;exact h R e Q λn I s p u t x z r=>q _ _ _ p u t x (rz.of z) r
def uj(i:Nat):ML:=λS=>match S[i]?.join with
 |some (.sh (.scr ns))=>some (ns.map .int,S)
 |some (.sh (.list ds))=>some (ds,S)
 |some (.ow l)=>some (l.map oB,S.set i (some (.ow ((l.map oB).map .sh))))
 |_=>none
theorem vK{K:Ζ}{H:Hp}:∀ns:Ϝ,qv K H (ns.map .int) (ns.map V.int)
 | []=>.nil
 |n::ns=>.cons .int (vK ns)
def aaW{K:Ζ}(i:Nat):SQ K (vA i) (uj i):=by
 intro H₀ n Hf S σ H O E G R e Q q;unfold uj at e;split at e
 .rename_i ns l;cases e;obtain⟨v,F,I,P,r⟩:=R.rep i _ (qh l);cases r.sh_inv.2 with
  |scr h=>exact⟨_,I,q _ _ _ _ _ .refl R (R.sub.seq h) (vK ns)⟩
 .rename_i J l;cases e;refine Od i R (ds:=E) (S':=S) ?_ Q λs L u p x t z B r=>q _ _ _ p x t z (rz.of B) r
  unfold Au;rw[l]
 .rename_i M l;refine Od i R (ds:=E) (S':=G) ?_ Q λs L u p x t z B r=>q _ _ _ p x t z (rz.of B) r
  unfold Au;rw[l];exact e
 .cases e
section
variable {K:Ζ}{H₀ Hf₀ Hf Hf' H H':Hp}{S S':AS}{σ:St}{Fs Fs':List Δ}
theorem pT.stp{as:List AV}{vs:List V}{l:List Δ}(r:pT K Hf H as vs l)(s:∀q∈l.flatten,q∉Fs.flatten)(t:AM Hf H Fs Hf' H' Fs'):pT K Hf' H' as vs l:=
 ⟨r.1,r.2.1,λi a v F u x n=>(r.2.2 i a v F u x n).stp (λq z=>s q (mFq.mpr ⟨F,mGq n,z⟩)) t⟩
def qj.layF(R:qj K H₀ Hf₀ Hf S σ H Fs){p:Addr}{o:HO}(l:H p=none):AM Hf H Fs (qC Hf p o) (qC H p o) Fs/\qj K H₀ Hf₀ (qC Hf p o) S σ (qC H p o) Fs:=by
 have n:Hf p=none:=R.sub.free l;refine⟨⟨vf n,vf l,λ_ h=>h,λb h g=>?_⟩,R.more (vf l) (vf n) (λb u e=>?_) (λq s=>?_) λb x t=>?_⟩
 .by_cases m:b=p
  .subst m;exact .inl l
  .rw[oQ m]at g;exact absurd h g
 .by_cases m:b=p
  .subst m;rw[oS]at e ⊢;exact e
  .rw[oQ m]at e ⊢;exact R.sub b u e
 .rw[oQ λe=>(R.mem s).1 (by rw[e];exact l)]
  exact(R.mem s).2
 .rw[oQ λe=>t (by rw[e];exact R.fr.free l)]
  exact R.lim b x t
end
noncomputable def oC:MA:=λS=>some ([],S)
noncomputable def om(k:MK)(r:MA):MA:=λS=>(k S).bind λx=>(r x.2).map λy=>(x.1::y.1,y.2)
noncomputable def ox:ML:=λS=>some ([],S)
noncomputable def oi(k:ME)(r:ML):ML:=λS=>(k S).bind λx=>(r x.2).map λy=>(x.1::y.1,y.2)
section
variable {K:Ζ}{te ta tb:TE}{tr:TA}
def Gc:SA K vI oC:=by
 intro H₀ l Hf S σ H n s t R e Q q;cases e;exact q _ _ _ [] [] .refl R .nil .nil
def vt{k:MK}{r:MA}(hk:SK K te k)(hr:SA K tr r):SA K (uf te tr) (om k r):=by
 intro H₀ l Hf S σ H T U X R e Q q;obtain⟨x,E,e⟩:=oBq.mp e;obtain⟨y,G,e⟩:=oMq.mp e;cases e;refine hk R (a:=x.1) (S':=x.2) E _ λn Y Fs1 v F u I z s=>hr I (as:=y.1) (S':=y.2) G _ λJ H2 Fs2 L M t R2 O B=>?_
 refine q _ _ _ (v::L) (F::M) (u.trans t) R2 (.cons (z.stp s.out t) O) ?_;rw[fCq];exact(s.stp t).app (B.back u) (s.apart (Hf1:=n) (λq P=>(z.owned q P).1) B)
def Ju:W6 K vI ox:=by
 intro H₀ l Hf S σ H n s t R e Q q;cases e;exact q _ _ _ [] .refl R .nil
def Ay{k:ME}{r:ML}(hk:SR K te k)(hr:W6 K tr r):W6 K (uf te tr) (oi k r):=by
 intro H₀ l Hf S σ H L M O R e Q q;obtain⟨x,s,e⟩:=oBq.mp e;obtain⟨y,t,e⟩:=oMq.mp e;cases e;refine hk R (d:=x.1) (S':=x.2) s _ λu P Fs1 v z B E=>hr B (ds:=y.1) (S':=y.2) t _ λG T Fs2 I n R2 J=>?_
 exact q _ _ _ (v::I) (z.trans n) R2 (.cons (E.mono n.sh) J)
end
def qF(a:MA):MK:=λS=>(a S).bind λx=>wH (x.1.length<=qE) (some (.ow x.1,x.2))
def Av(a:MA):MK:=λS=>(a S).bind λx=>wH (x.1.length<=qE) (some (.sh (.tup (x.1.map oB)),x.2))
section
variable {K:Ζ}{ta:TA}{a:MA}
def aaw(ha:SA K ta a):SK K (Ry ta) (qF a):=by
 intro H₀ l Hf S σ H O P T R e Q q;obtain⟨x,G,e⟩:=oBq.mp e;rcases pR e with⟨hl,e⟩|e
 .skip
  cases e;refine ha R (as:=x.1) (S':=x.2) G _ λI U Fs1 J t u z n B=>⟨by rw[vv,←n.1];exact hl,λp s=>?_⟩
  obtain⟨E,R2,n1,n2,X⟩:=z.new (o:=.lst J) s;refine q _ _ _ (.ref p) (p::t.flatten) (u.trans E) R2 (qa.news oS n1 (n.stp B.out E)) ?_;have L:=(A9.one z s).back u;refine(show A9 _ _ _ _ ([p]++t.flatten)from L.app B λq M m=>?_)
  rw[mSq.mp M]at m;exact(n.owned p m).1 s
 .cases e
def ach(ha:SA K ta a):SK K (adV ta) (Av a):=by
 intro H₀ l Hf S σ H O P T R e Q q;obtain⟨x,t,e⟩:=oBq.mp e;rcases pR e with⟨hl,e⟩|e
 .skip
  cases e;refine ha R (as:=x.1) (S':=x.2) t _ λu U Fs1 z X B E n G=>⟨by rw[vv,←n.1];exact hl,λp I=>?_⟩
  obtain⟨R2,J,L⟩:=E.gives B n G;obtain⟨s,M⟩:=R2.layF (o:=.tup z) I;exact q _ _ _ (.ref p) [] (L.trans s) M (.sh (.mk_tup oS (J.mono s.sf))) .nil
 .cases e
end
def BP(a b:ML):MK:=λS=>(a S).bind λx=>(b x.2).bind λy=>wH (x.1.length+y.1.length<=qE) (some (.ow ((x.1++y.1).map .sh),y.2))
section
variable {K:Ζ}{ta tb:TE}{a b:ML}
def ZJ(ha:SL K ta a)(hb:SL K tb b):SK K (YV adw ta tb) (BP a b):=by
 intro H₀ t Hf S σ H Fs av S' R e Q q;obtain⟨x,G,e⟩:=oBq.mp e;obtain⟨y,I,e⟩:=oBq.mp e;rcases pR e with⟨hl,e⟩|e
 .skip
  cases e;refine ha R (ds:=x.1) (S':=x.2) G _ λJ H1 Fs1 L l u M O z=>hb M (ds:=y.1) (S':=y.2) I _ λP H2 Fs2 T n s R2 U B=>?_
  refine⟨L,T,l,n,rfl,rfl,s.sh _ _ O,U,by rw[vv,←z.1,←B.1];exact hl,λp E=>?_⟩
  obtain⟨X,Y,n1,n2,n3⟩:=R2.new (o:=.lst (l++n)) E;exact q _ _ _ (.ref p) [p] ((u.trans s).trans X) Y (qa.new oS n1 ((z.mono s.sf).append B)) ((A9.one R2 E).back (u.trans s))
 .cases e
end
abbrev MO:=AS->Option (Option Int×AS)
def SO(K:Ζ)(to:TO)(m:MO):Prop:=∀{H₀ l Hf:Hp}{S:AS}{σ:St}{H:Hp}{u:List Δ}{o:Option Int}{S':AS},qj K H₀ l Hf S σ H u->m S=some (o,S')->∀Q:Option Int->Hp->Prop,
 (∀n t s,AM Hf H u n t s->qj K H₀ l n S' σ t s->Q o t)->to σ H Q
def Ap:MO:=λS=>some (none,S)
def wK(m:ME):MO:=λS=>(m S).bind λx=>match x.1 with
 | .int i=>some (some i,x.2)
 |_=>none
def xa{α:Type}(xs:List α)(lo hi:Option Int):List α:=(xs.drop (HT.HZ xs.length 0 lo)).take (HT.HZ xs.length xs.length hi-HT.HZ xs.length 0 lo)
def Ot(l:ML)(lo hi:MO):MK:=λS=>(l S).bind λx=>(lo x.2).bind λy=>(hi y.2).map λz=>(.ow ((xa x.1 y.1 z.1).map .sh),z.2)
section
variable {K:Ζ}{te:TE}{tl th:TO}{l:ML}{lo hi:MO}{m:ME}
def Yb:SO K Pp Ap:=by
 intro H₀ n Hf S σ H s o t R e Q q;cases e;exact q _ _ _ .refl R
def Xq(h:SR K te m):SO K (Zq te) (wK m):=by
 intro H₀ n Hf S σ H G o I R e Q q;obtain⟨x,t,e⟩:=oBq.mp e;refine h R (d:=x.1) (S':=x.2) t _ λu J Fs1 v z B s=>?_
 split at e
 .rename_i i E;rw[E]at s;cases s;cases e;exact⟨i,rfl,q _ _ _ z B⟩
 .cases e
def qv.cut{H:Hp}{ds:List D}{vs:List V}(r:qv K H ds vs)(lo hi:Option Int):qv K H (xa ds lo hi) (Mm vs lo hi):=by
 unfold xa Mm;rw[r.1];exact(r.drop _).take _
def adp(hl:SQ K te l)(u:SO K tl lo)(B:SO K th hi):SK K (tSl (aex K) te tl th) (Ot l lo hi):=by
 intro H₀ E Hf S σ H Fs av S' R e Q q;obtain⟨x,L,e⟩:=oBq.mp e;obtain⟨y,M,e⟩:=oBq.mp e;obtain⟨z,O,e⟩:=oMq.mp e;cases e;refine hl R (ds:=x.1) (S':=x.2) L _ λP H1 Fs1 T n G U X Y=>u U (o:=y.1) (S':=y.2) M _ λHf2 H2 Fs2 s R2=>B R2 (o:=z.1) (S':=z.2) O _ λHf3 H3 Fs3 t I=>?_
 refine⟨T,n,rfl,(s.sh.trans t.sh).seq X,λp J=>?_⟩
 obtain⟨t4,R4,n1,n2,n3⟩:=I.new (o:=.lst (Mm n y.1 z.1)) J;exact q _ _ _ (.ref p) [p] (((G.trans s).trans t).trans t4) R4 (qa.new oS n1 ((Y.mono (s.sf.trans t.sf)).cut _ _)) ((A9.one I J).back ((G.trans s).trans t))
end
def zh:D->D->Option D
 | .list ds,.int i=>atI ds i
 | .scr ns,.int i=>(atI ns i).map .int
 |_,_=>none
def DU:D->D->Option D
 | .tup ds,.int i=>atI ds i
 |_,_=>none
def RB(l:ML)(b:ME):MK:=λS=>(l S).bind λx=>(b x.2).bind λy=>match y.1 with
 | .int i=>(atI x.1 i).map λd=>(.sh d,y.2)
 |_=>none
section
variable {K:Ζ}{ta tb:TE}
theorem qv.atI{H:Hp}{ds:List D}{vs:List V}{i:Int}{d:D}(r:qv K H ds vs)(h:L2.atI ds i=some d):∃v,L2.atI vs i=some v/\rE K H d v:=by
 unfold L2.atI at h ⊢;rw[r.1]at h;obtain⟨j,l,n⟩:=oBq.mp h;rw[l];exact r.get n
def ZA:II K (TF K) zh:=by
 intro x y H Q M O d u z e q;unfold zh at e;split at e
 .rename_i E i;cases z;obtain⟨p,B,rfl,h,r⟩:=u.list_inv;obtain⟨l,G⟩:=r;obtain⟨v,s,t⟩:=qv.atI (K:=K) (H:=H) (ds:=E) (vs:=B) ⟨l,G⟩ e;exact⟨p,B,i,v,rfl,rfl,rz.of h,s,q v t⟩
 .rename_i ns i;cases z;cases u;rename_i p h;obtain⟨n,s,t⟩:=oMq.mp e;subst t;obtain⟨v,I,J⟩:=qv.atI (K:=K) (H:=H) (vK ns) (i:=i) (d:=.int n) (by
   unfold L2.atI at s ⊢;rw[lMq];obtain⟨j,L,g2⟩:=oBq.mp s;rw[L];show(ns.map D.int)[j]?=_;rw[gMq,g2];rfl)
  exact⟨p,_,i,v,rfl,rfl,h,I,q v J⟩
 .cases e
def Sx:II K (acw K) DU:=by
 intro x y H Q B E d n s e q;unfold DU at e;split at e
 .rename_i t i;cases s;obtain⟨p,l,rfl,h,r⟩:=n.tup_inv;obtain⟨v,u,z⟩:=qv.atI (K:=K) (H:=H) (ds:=t) (vs:=l) r e;exact⟨p,l,i,v,rfl,rfl,Ej.of h,u,q v z⟩
 .cases e
def aeH{l:ML}{b:ME}(hl:SQ K ta l)(hb:SR K tb b):SK K (YV (TF K) ta tb) (RB l b):=by
 intro H₀ n Hf S σ H X Y S' R e Q q;obtain⟨x,z,e⟩:=oBq.mp e;obtain⟨y,B,e⟩:=oBq.mp e;refine hl R (ds:=x.1) (S':=x.2) z _ λE H1 Fs1 G s I J L M=>hb J (d:=y.1) (S':=y.2) B _ λO H2 Fs2 v2 t R2 u=>?_
 split at e
 .rename_i i P;rw[P]at u;cases u;obtain⟨d,T,e⟩:=oMq.mp e;cases e;obtain⟨v,U,g2⟩:=(M.mono t.sf).atI T;exact⟨G,s,i,v,rfl,rfl,t.sh.seq L,U,q _ _ _ v [] (I.trans t) R2 (.sh g2) .nil⟩
 .cases e
end
def Zp(K:Ζ)(r:List V->Hp->VK->Prop)(f:List D->Option D):Prop:=∀{vs:List V}{H:Hp}{Q:VK}{ds:List D}{d:D},qv K H ds vs->f ds=some d->(∀v,rE K H d v->Q v H)->r vs H Q
noncomputable def tT(f:List D->Option D)(a:ML):ME:=λS=>(a S).bind λx=>(f x.1).map λd=>(d,x.2)
def adW{K:Ζ}{r:List V->Hp->VK->Prop}{f:List D->Option D}{n:TA}{a:ML}(hr:Zp K r f)(ha:W6 K n a):SR K (tCB r n) (tT f a):=by
 intro H₀ l Hf S σ H J d L R e Q q;obtain⟨x,s,e⟩:=oBq.mp e;obtain⟨z,t,e⟩:=oMq.mp e;cases e;exact ha R (ds:=x.1) (S':=x.2) s _ λu M Fs1 O B E G=>hr G t λv I=>q _ _ _ v B E I
def qM:List D->Option D
 | [.list ds]=>some (.int ds.length)
 | [.tup ds]=>some (.int ds.length)
 | [.scr ns]=>some (.int ns.length)
 | [.str x]=>wH (x.length<=qE) (some (.int x.length))
 |_=>none
def afY:List D->Option D
 | [.int i]=>some (.int (if i<0 then -i else i))
 |_=>none
def ago:List D->Option D
 | [.int i,.int j]=>some (.int (if j>i then j else i))
 |_=>none
def EC:List D->Option D
 | [.int i,.int j]=>some (.int (if j<i then j else i))
 |_=>none
def agc:List D->Option D
 | [.int i]=>some (.int i)
 | [.bl k]=>some (.int (if k then 1 else 0))
 |_=>none
def Po:D->String->Option D
 | .int _,T=>if T = "int" then some (.bl true)else if T = "bool" then some (.bl false)else none
 | .bl _,T=>if T = "bool" ∨ T = "int" then some (.bl true)else none
 | .str _,T=>if T = "str" then some (.bl true)else none
 | .list _,T=>if T = "list" then some (.bl true)else none
 | .tup _,T=>if T = "tuple" then some (.bl true)else none
 | .dict _,T=>if T = "dict" then some (.bl true)else none
 |_,_=>none
def Ct:List D->Option D
 | [x,.ty T]=>Po x T
 |_=>none
def rB:List D->Option Ϝ
 | []=>some []
 | .int i::ds=>(rB ds).map (i :: ·)
 |_=>none
theorem xh:∀{ds:List D}{ns:Ϝ},rB ds=some ns->ds=ns.map .int
 | [],ns,h=>by cases h;rfl
 |d::ds,ns,h=>by
  cases d with
  |int i=>
   obtain⟨s,l,n⟩:=oMq.mp (show(rB ds).map (i :: ·)=some ns from h)
   subst n;rw[xh l];rfl
  |_=>cases h
@[simp] theorem sj (ns:Ϝ):rB (ns.map .int)=some ns:=by
 induction ns with
 |nil=>rfl
 |cons n ns l=>show(rB (ns.map .int)).map (n :: ·)=_;rw[l];rfl
theorem sQ{K:Ζ}{H:Hp}:∀{ns:Ϝ}{vs:List V},qv K H (ns.map .int) vs->vs=ns.map V.int
 | [],vs,h=>h.nil_inv
 |n::ns,vs,h=>by
  obtain⟨v,t,rfl,l,s⟩:=qv.cons_inv (d:=.int n) (ds:=ns.map .int) h;cases l;rw[sQ s];rfl
def Jl:Ϝ->Option Int
 | []=>none
 |n::ns=>some (ns.foldl min n)
theorem yz:∀(ns:Ϝ) (n:Int),ns.foldl min n∈n::ns
 | [],n=>by simp
 |m::ns,n=>by
  have h:=yz ns (min n m);rw[cJ];rcases ab.mp h with e|e
  .rw[e]
   by_cases c:n<=m
   .rw[Int.min_eq_left c];simp
   .rw[Int.min_eq_right (by lia)];simp
  .exact mCo _ (mCo _ e)
theorem wY:∀(ns:Ϝ) (n:Int),(ns.foldl min n<=n)/\∀x∈ns,ns.foldl min n<=x
 | [],n=>⟨gg _,λx h=>by cases h⟩
 |m::ns,n=>by
  obtain⟨t,l⟩:=wY ns (min n m);rw[cJ];refine⟨by lia,λx s=>?_⟩
  rcases ab.mp s with e|e
  .subst e;lia
  .exact l x e
def Rw:List D->Option D
 | [.list ds]=>(rB ds).bind λns=>(Jl ns).map .int
 |_=>none
section
variable {K:Ζ}
def ZR:Zp K (λxs H Q=>∃x n,xs=[x]/\aeF K x H n/\Q (.int n) H) qM:=by
 intro B H Q E d r e q;unfold qM at e;split at e
 .obtain⟨v,t,rfl,l,s⟩:=r.cons_inv;rw[s.nil_inv];obtain⟨p,us,rfl,u,z⟩:=l.list_inv;cases e;exact⟨_,_,rfl,.inl ⟨us,rz.of u,z.1⟩,q _ .int⟩
 .obtain⟨v,t,rfl,l,s⟩:=r.cons_inv;rw[s.nil_inv];obtain⟨p,us,rfl,u,z⟩:=l.tup_inv;cases e;exact⟨_,_,rfl,.inr ⟨us,Ej.of u,z.1⟩,q _ .int⟩
 .obtain⟨v,t,rfl,l,s⟩:=r.cons_inv;rw[s.nil_inv];cases e;cases l with
  |scr h=>exact⟨_,_,rfl,.inl ⟨_,h,(lMq _).symm⟩,q _ .int⟩
 .rcases pR e with⟨hl,e⟩|e
  .skip
   obtain⟨v,t,rfl,l,s⟩:=r.cons_inv;rw[s.nil_inv];cases e;cases l;exact⟨_,_,rfl,⟨by rw[vv];exact hl,rfl⟩,q _ .int⟩
  .cases e
 .cases e
def Wa:Zp K (λxs H Q=>∃i j,xs=[.int i,.int j]/\Q (.int (if j<i then j else i)) H) EC:=by
 intro x H Q z d r e q;unfold EC at e;split at e
 .obtain⟨v,B,rfl,l,n⟩:=r.cons_inv;obtain⟨u,E,rfl,s,t⟩:=n.cons_inv;rw[t.nil_inv];cases l;cases s;cases e;exact⟨_,_,rfl,q _ .int⟩
 .cases e
def aap:Zp K (λxs H Q=>∃(a:Addr) (ns:Ϝ),xs=[.ref a]/\rz K H a (ns.map V.int)/\0<ns.length/\∀M,M∈ns->(∀x,x∈ns->M<=x)->Q (.int M) H) Rw:=by
 intro O H Q P d r e q;unfold Rw at e;split at e
 .obtain⟨v,R,rfl,l,B⟩:=r.cons_inv;rw[B.nil_inv];obtain⟨ns,E,e⟩:=oBq.mp e;obtain⟨m,s,e⟩:=oMq.mp e;cases e;rw[xh E]at l;obtain⟨p,us,rfl,t,G⟩:=l.list_inv;rw[sQ G]at t;cases ns with
  |nil=>cases s
  |cons n ns=>
   cases s;refine⟨p,_,rfl,rz.of t,by simp,λM I J=>?_⟩
   have L:M=ns.foldl min n:=by
    have S:=J _ (yz ns n);have u:=wY ns n;have T:ns.foldl min n<=M:=by
     rcases ab.mp I with z|z
     .subst z;exact u.1
     .exact u.2 M z
    lia
   rw[L];exact q _ .int
 .cases e
def abJ:Zp K (λxs H Q=>∃x T b,xs=[x,.ty T]/\ab0 K x H T b/\Q (.bl b) H) Ct:=by
 intro G H Q I d r e q;unfold Ct at e;split at e
 rotate_left
 .cases e
 rename_i x T;obtain⟨v,J,rfl,n,z⟩:=r.cons_inv;obtain⟨u,L,rfl,B,E⟩:=z.cons_inv;rw[E.nil_inv];cases B;unfold Po at e;cases x <;> first|(cases e;done)|dsimp only at e
 case int=>
  cases n;split at e
  .rename_i l;cases e;exact⟨_,_,_,rfl,.inl ⟨l,rfl⟩,q _ .bl⟩
  .split at e
   .rename_i l;cases e;exact⟨_,_,_,rfl,.inr ⟨l,rfl⟩,q _ .bl⟩
   .cases e
 case bl=>
  cases n;split at e
  .rename_i l;cases e;rcases l with l|l
   .exact⟨_,_,_,rfl,.inl ⟨l,rfl⟩,q _ .bl⟩
   .exact⟨_,_,_,rfl,.inr ⟨l,rfl⟩,q _ .bl⟩
  .cases e
 case str=>
  cases n;split at e
  .rename_i l;cases e;exact⟨_,_,_,rfl,⟨l,rfl⟩,q _ .bl⟩
  .cases e
 case list=>
  obtain⟨p,us,rfl,s,t⟩:=n.list_inv;split at e
  .rename_i l;cases e;exact⟨_,_,_,rfl,.inl ⟨l,rfl,us,rz.of s⟩,q _ .bl⟩
  .cases e
 case tup=>
  obtain⟨p,us,rfl,s,t⟩:=n.tup_inv;split at e
  .rename_i l;cases e;exact⟨_,_,_,rfl,.inr (.inr ⟨l,rfl,us,Ej.of s⟩),q _ .bl⟩
  .cases e
 case dict=>
  obtain⟨p,us,rfl,s,t⟩:=n.dict_inv;split at e
  .rename_i l;cases e;exact⟨_,_,_,rfl,.inr (.inl ⟨l,rfl,us,s⟩),q _ .bl⟩
  .cases e
end
abbrev MF:=List D->Option AV
def qo(K:Ζ)(f:MF):Sp:=λvs H Q _=>∃(Hf:Hp) (ds:List D) (a:AV),Same Hf H/\qv K Hf ds vs/\f ds=some a /\
 ∀l n v F,Same Hf l->Same H n->Same l n->(∀b,Hf b=none->H b≠none->l b=none)->qa K l n a v F->F.Nodup->(∀q∈F,H q=none)->Q v n
def oJ(f:MF)(a:MA):MK:=λS=>(a S).bind λx=>(f (x.1.map oB)).map λr=>(r,x.2)
def CN{K:Ζ}{f:MF}{E:TA}{a:MA}(ha:SA K E a):SK K (GR (qo K f) [] E0 E) (oJ f a):=by
 intro H₀ s Hf S σ H Fs O S' R e Q q;obtain⟨x,P,e⟩:=oBq.mp e;obtain⟨z,T,e⟩:=oMq.mp e;cases e;refine ha R (as:=x.1) (S':=x.2) P _ λu B Fs1 vs U G X Y o1=>?_
 obtain⟨R2,r2,t2⟩:=X.gives G Y o1;rw[aNq];refine⟨_,_,O,R2.sub,r2,T,λt I v F J L s3 l r nd fr=>?_⟩
 have t3:AM (Z.frz u B U.flatten) B Fs1 t I Fs1:=⟨J,L,λ_ h=>h,λb h g=>.inl (by
  by_cases e:B b=none
  .exact e
  .exact absurd (l b h e) g)⟩
 have hn:∀q∈Fs1.flatten,t q=none:=λq n=>l q (R2.mem n).2 (R2.mem n).1
 have R3:qj K H₀ s t x.2 σ I Fs1:=R2.more L J s3 hn λb h1 M=>l b (R2.lim b h1 M) (Yf R2.fr M)
 refine q _ _ _ v F (t2.trans t3) R3 r ⟨nd,λq n=>R2.fr.free (fr q n),λq n m=>(R2.mem m).1 (fr q n),λq n=>.inl (G.sh.free (fr q n))⟩
inductive PM where
 |nx (S:AS)|rt (a:AV)|bk (S:AS)|ct (S:AS)
abbrev MS:=AS->Option PM
def Il(K:Ζ)(H₀ n Hf:Hp)(D:AN):PM->Prop
 | .nx S=>∀l s t u,Same Hf l->qj K H₀ n l S s t u->D.nx s t
 | .bk S=>∀l s t u,Same Hf l->qj K H₀ n l S s t u->D.bk s t
 | .ct S=>∀l s t u,Same Hf l->qj K H₀ n l S s t u->D.ct s t
 | .rt a=>∀l t v F,Same n l->Same H₀ t->Same l t->(∀b,n b=none->H₀ b≠none->l b=none)->qa K l t a v F->F.Nodup->(∀q∈F,H₀ q=none)->D.rt v t
def SS(K:Ζ)(t:TS)(m:MS):Prop:=∀{H₀ l Hf:Hp}{S:AS}{σ:St}{H:Hp}{n:List Δ}{o:PM},qj K H₀ l Hf S σ H n->m S=some o->∀D:AN,Il K H₀ l Hf D o->t D σ H
def Il.mono{K:Ζ}{H₀ l Hf x:Hp}{D:AN}{o:PM}(s:Same Hf x)(h:Il K H₀ l Hf D o):Il K H₀ l x D o:=by
 cases o with
 |nx S=>exact λn t z u B R=>h n t z u (s.trans B) R
 |bk S=>exact λn t z u B R=>h n t z u (s.trans B) R
 |ct S=>exact λn t z u B R=>h n t z u (s.trans B) R
 |rt a=>exact h
def pH:MS:=λS=>some (.nx S)
def afm:MS:=λS=>some (.bk S)
noncomputable def agq:MS:=λS=>some (.ct S)
def AF:MS:=λ_=>none
def oz(a b:MS):MS:=λS=>(a S).bind λo=>match o with
 | .nx S'=>b S'
 |o=>some o
def oN(i:Nat)(k:MK):MS:=λS=>(k S).map λx=>.nx (x.2.set i (some x.1))
def Vp(k:MK):MS:=λS=>(k S).map λx=>.nx x.2
noncomputable def pZ(k:MK):MS:=λS=>(k S).map λx=>.rt x.1
noncomputable def wk(c:MT)(a b:MS):MS:=λS=>(c S).bind λx=>if x.1=true then a x.2 else b x.2
section
variable {K:Ζ}{t u:TS}{a b:MS}{te:TE}{k:MK}
def WQ:SS K Zh pH:=by
 intro H₀ l Hf S σ H n o R e D h;cases e;exact h _ _ _ _ (.refl _) R
def UH:SS K UV AF:=by
 intro H₀ l Hf S σ H n o R e D h;cases e
def Sb(ha:SS K t a)(hb:SS K u b):SS K (MV t u) (oz a b):=by
 intro H₀ l Hf S σ H I o R e D h;obtain⟨x,n,e⟩:=oBq.mp e;refine ha R n _ ?_;cases x with
 |nx J=>exact λz B L E s G=>hb G e D (h.mono s)
 |rt a=>cases e;exact h
 |bk a=>cases e;exact h
 |ct a=>cases e;exact h
def aaT{i:Nat}(hk:SK K te k):SS K (HD te (rS i)) (oN i k):=by
 intro H₀ l Hf S σ H J o R e D h;obtain⟨x,z,e⟩:=oMq.mp e;cases e;refine hk R (a:=x.1) (S':=x.2) z _ λB L Fs1 v F E G I n=>?_
 exact h _ _ _ _ E.sf (G.set i I n.nd λq s=>⟨n.fr q s,n.out q s⟩)
def Yj(hk:SK K te k):SS K (AC te) (Vp k):=by
 intro H₀ l Hf S σ H E o R e D h;obtain⟨x,n,e⟩:=oMq.mp e;cases e;exact hk R (a:=x.1) (S':=x.2) n _ λs G Fs1 v F z B I J=>h _ _ _ _ z.sf B
def AH(hk:SK K te k):SS K (adI te) (pZ k):=by
 intro H₀ n Hf S σ H G o R e D h;obtain⟨x,z,e⟩:=oMq.mp e;cases e;exact hk R (a:=x.1) (S':=x.2) z _ λB I Fs1 v F J l E s=>h _ _ v F l.sf l.fr l.sub l.lim E s.nd s.fr
def Zs{c:TT}{m:MT}(B:Kp K c m)(ha:SS K t a)(hb:SS K u b):SS K (V4 c t u) (wk m a b):=by
 intro H₀ n Hf S σ H I o R e D h;obtain⟨x,E,e⟩:=oBq.mp e;refine B R (b:=x.1) (S':=x.2) E _ λG J Fs1 s z=>?_
 split at e
 .rename_i l;rw[l];exact LW (ha z e D (h.mono s.sf))
 .rename_i l;rw[dt]at l;rw[l];exact LU (hb z e D (h.mono s.sf))
end
def qL(S:AS)(i:Nat):Option (List AV):=match S[i]?.join with
 |some (.ow l)=>some l
 |_=>none
def wL(S:AS)(i:Nat):Option (List (pE×D)):=match S[i]?.join with
 |some (.owd kvs)=>some kvs
 |_=>none
def yN(i:Nat)(k:MK):MS:=λS=>(qL S i).bind λ_=>(k S).bind λx=>(qL x.2 i).bind λl=>
 wH (l.length<qE) (some (.nx (x.2.set i (some (.ow (l++[x.1]))))))
def N4(i:Nat)(l:ML):MS:=λS=>(qL S i).bind λ_=>(l S).bind λx=>(qL x.2 i).bind λn=>
 wH (n.length+x.1.length<=qE) (some (.nx (x.2.set i (some (.ow (n++x.1.map .sh))))))
def intOf:D->Option Int
 | .int i=>some i
 |_=>none
def agF(i:Nat)(b:ME)(k:MK):MS:=λS=>(uR k S).bind λx=>(qL x.2 i).bind λ_=>(b x.2).bind λy=>(qL y.2 i).bind λl=>(intOf y.1).bind λj=>(Je l.length j).map λn=>
 .nx (y.2.set i (some (.ow (((l.map oB).set n (oB x.1)).map .sh))))
def we:D->Option pE
 | .int i=>some (.inl i)
 | .str x=>some (.inr x)
 |_=>none
def Ax(kvs:List (pE×D))(k:pE)(d:D):List (pE×D):=if kvs.any (λkv=>decide (kv.1=k))then kvs.map (λkv=>if kv.1=k then (kv.1,d)else kv)else kvs++[(k,d)]
def getD(kvs:List (pE×D))(k:pE):Option D:=(kvs.find? λkv=>decide (kv.1=k)).map (·.2)
def yG(i:Nat)(b:ME)(k:MK):MS:=λS=>(uR k S).bind λx=>(wL x.2 i).bind λ_=>(b x.2).bind λy=>(wL y.2 i).bind λkvs=>(we y.1).bind λkey=>
 wH (kvs.length<qE) (some (.nx (y.2.set i (some (.owd (Ax kvs key (oB x.1)))))))
section
variable {K:Ζ}{H₀ Hf₀ Hf H:Hp}{S:AS}{σ:St}{Fs:List Δ}
def qj.turn(R:qj K H₀ Hf₀ Hf S σ H Fs){i:Nat}{B:AV}{p:Addr}{o:HO}{F F':Δ}(s1:σ[i]?=some (some (.ref p)))(s2:Fs[i]?=some F)(s:p∈F)(r:qa K Hf (qC H p o) B (.ref p) F')(nd:F'.Nodup)
  (I:∀q∈F',H₀ q=none/\q∉(Fs.set i []).flatten):qj K H₀ Hf₀ Hf (S.set i (some B)) σ (qC H p o) (Fs.set i F'):=by
 have t:p∈Fs.flatten:=mFq.mpr ⟨F,mGq s2,s⟩;have pn:Hf p=none:=(R.mem t).2;have J:H₀ p=none:=R.fresh p t;have out:=vq R.nd s2 s;have L:qj K H₀ Hf₀ Hf (S.set i none) σ (qC H p o) (Fs.set i []):=by
  refine⟨by simp[R.len],by simp[R.lenF],λj a n=>?_,λj n=>?_,rX i R.nd aV (λp s=>by cases s),λp s=>R.fresh p (qV s),λb u e=>?_,λb u e=>?_,R.lim,R.sf⟩
  .rw[bQ]at n
   by_cases l:i=j
   .subst l;rw[pB rfl]at n;split at n <;> cases n
   .rw[oZ l]at n;obtain⟨w,G,M,E,q⟩:=R.rep j a n;refine⟨w,G,M,by rw[aF l];exact E,q.keep (.refl _) (λc x=>oQ λe=>out ?_) λc x=>(q.owned c x).2⟩
    subst e;exact mFq.mpr ⟨G,mGq (i:=j) (by rw[aF l];exact E),x⟩
  .rw[bQ]at n
   by_cases l:i=j
   .subst l;rw[pB rfl]at n;split at n
    .rename_i hi;rw[aS (R.lenF.symm ▸ hi)]
    .cases n
   .rw[oZ l]at n;rw[aF l];exact R.emp j n
  .rw[oQ λz=>by rw[z,pn]at e;cases e]
   exact R.sub b u e
  .rw[oQ λz=>by rw[z,J]at e;cases e]
   exact R.fr b u e
 exact L.again (F:=F) s1 r nd I
noncomputable def qw{i:Nat}{F:Δ}{q:Addr}(s2:Fs[i]?=some F)(h:q∈F):q∈Fs.flatten:=mFq.mpr ⟨F,mGq s2,h⟩
def pT.snoc{as:List AV}{vs:List V}{B:List Δ}{a:AV}{v:V}{F:Δ}(r:pT K Hf H as vs B)(s:qa K Hf H a v F):pT K Hf H (as++[a]) (vs++[v]) (B++[F]):=by
 obtain⟨u,x,E⟩:=r;refine⟨by simp[u],by simp[x],λi b w G l n t=>?_⟩
 by_cases hi:i<as.length
 .rw[gZq hi]at l;rw[gZq (u ▸ hi)]at n;rw[gZq (x ▸ hi)]at t;exact E i b w G l n t
 .have z:i=as.length:=by
   have:=(gSq.mp l).1;rw[lAq,lSq]at this;lia
  subst z;rw[gYq (aa _),cw]at l;rw[u,gYq (aa _),cw]at n;rw[x,gYq (aa _),cw]at t;cases l;cases n;cases t;exact s
def pT.keepUpd{as:List AV}{vs:List V}{l:List Δ}{p:Addr}{o:HO}(r:pT K Hf H as vs l)(t:p∉l.flatten):pT K Hf (qC H p o) as vs l:=
 ⟨r.1,r.2.1,λi a v F u x s=>by
  have q:=r.2.2 i a v F u x s;refine q.keep (.refl _) (λc n=>oQ λe=>t ?_) λc n=>(q.owned c n).2
  subst e;exact mFq.mpr ⟨F,mGq s,n⟩⟩
def qa.keepUpd{a:AV}{v:V}{F:Δ}{p:Addr}{o:HO}(q:qa K Hf H a v F)(n:p∉F):qa K Hf (qC H p o) a v F:=
 q.keep (.refl _) (λc l=>oQ λe=>n (e ▸ l)) λc l=>(q.owned c l).2
def Kg{ds:List D}{vs:List V}(r:qv K Hf ds vs):pT K Hf H (ds.map .sh) vs (ay ds.length []):=
 ⟨by simp[r.1],by simp,λi a v F l n s=>by
  rw[gMq]at l;cases q:ds[i]? with
  |none=>rw[q]at l;cases l
  |some d=>
   rw[q]at l;cases l;have:F=[]:=dY (mGq s);subst this;exact .sh (r.2 i d v q n)⟩
def pT.append{as bs:List AV}{vs ws:List V}{z B:List Δ}(r:pT K Hf H as vs z)(s:pT K Hf H bs ws B):pT K Hf H (as++bs) (vs++ws) (z++B):=by
 obtain⟨u,x,E⟩:=r;refine⟨by simp[u,s.1],by simp[x,s.2.1],λi b w G l n t=>?_⟩
 by_cases hi:i<as.length
 .rw[gZq hi]at l;rw[gZq (u ▸ hi)]at n;rw[gZq (x ▸ hi)]at t;exact E i b w G l n t
 .rw[gYq (by lia)]at l
  rw[gYq (by lia),←u]at n
  rw[gYq (by lia),←x]at t
  exact s.2.2 _ b w G l n t
end
section
variable {K:Ζ}{te ta tb:TE}{k:MK}{b:ME}{l:ML}
def pQ{S:AS}{i:Nat}{n:List AV}(h:qL S i=some n):S[i]?=some (some (.ow n)):=by
 unfold qL at h;split at h
 .rename_i z e;cases h;exact qh e
 .cases h
def xA{S:AS}{i:Nat}{kvs:List (pE×D)}(h:wL S i=some kvs):S[i]?=some (some (.owd kvs)):=by
 unfold wL at h;split at h
 .rename_i z e;cases h;exact qh e
 .cases h
theorem qj.ow{H₀ n Hf H:Hp}{S:AS}{σ:St}{u:List Δ}(R:qj K H₀ n Hf S σ H u){i:Nat}{t:List AV}(h:S[i]?=some (some (.ow t))):∃p vs s,σ[i]?=some (some (.ref p))/\u[i]?=some (p::s.flatten)/\H p=some (.lst vs)/\Hf p=none/\pT K Hf H t vs s /\
  p∉s.flatten/\s.flatten.Nodup/\∀q∈p::s.flatten,H₀ q=none/\q∉(u.set i []).flatten:=by
 obtain⟨v,F,x,z,r,nd,o,_⟩:=R.move h;obtain⟨p,vs,s,rfl,rfl,B,E,G⟩:=r.ow_inv;exact⟨p,vs,s,x,z,B,E,G,(ah.mp nd).1,(ah.mp nd).2,o⟩
def acu{i:Nat}(hk:SK K te k):SS K (AC (Pu K "list" CY (vA i) (uf te vI))) (yN i k):=by
 intro H₀ G Hf S σ H Fs o R e D h;obtain⟨a0,X,e⟩:=oBq.mp e;obtain⟨x,Y,e⟩:=oBq.mp e;obtain⟨avs,e2,e⟩:=oBq.mp e;rcases pR e with⟨hl,e⟩|e
 .skip
  cases e;obtain⟨p,vs,Gs,I,_,h1,_⟩:=R.ow (pQ X);refine⟨.ref p,I,.inl ⟨rfl,vs,rz.of h1⟩,hk R (a:=x.1) (S':=x.2) Y _ λHf1 H1 Fs1 v F t1 Q r1 s=>?_⟩
  obtain⟨p',J,L,t,n,M,O,u,B,P,E⟩:=Q.ow (pQ e2);rw[I]at t;cases t;have T:p∉F:=λm=>s.out p m (qw n (by simp))
  refine⟨p,J,v,rfl,rfl,M,by rw[vv,←u.1];exact hl,h _ _ _ _ t1.sf (Q.turn I n (by simp) (F':=p::(L++[F]).flatten) (qa.news oS O ((u.keepUpd B).snoc (r1.keepUpd T))) ?_ λq U=>?_)⟩
  .rw[fAq,aQ];refine ah.mpr ⟨λm=>(mAq.mp m).elim B T,nAq.mpr ⟨P,s.nd,λa ha b hb e=>s.out b hb (qw n (mCo _ (e ▸ ha)))⟩⟩
  .rw[fAq,aQ]at U;rcases ab.mp U with z|z
   .exact E q (by rw[z];simp)
   .rcases mAq.mp z with z|z
    .exact E q (mCo _ z)
    .exact⟨s.fr q z,λm=>s.out q z (qV m)⟩
 .cases e
def ZM{i:Nat}(hl:SL K te l):SS K (AC (Pu K "list" Fv (vA i) (uf te vI))) (N4 i l):=by
 intro H₀ u Hf S σ H Fs o R e D h;obtain⟨a0,U,e⟩:=oBq.mp e;obtain⟨x,X,e⟩:=oBq.mp e;obtain⟨Y,e2,e⟩:=oBq.mp e;rcases pR e with⟨z,e⟩|e
 .skip
  cases e;obtain⟨p,vs,Gs,B,_,h1,_⟩:=R.ow (pQ U);refine⟨.ref p,B,.inl ⟨rfl,vs,rz.of h1⟩,hl R (ds:=x.1) (S':=x.2) X _ λHf1 H1 Fs1 b ws t1 P hb Q=>?_⟩
  obtain⟨p',E,G,n,I,J,L,s,t,M,O⟩:=P.ow (pQ e2);rw[B]at n;cases n;refine⟨p,b,E,ws,rfl,rfl,J,hb,by rw[vv,←s.1,←Q.1];exact z,h _ _ _ _ t1.sf (P.turn B I (by simp) (F':=p::(G++ay x.1.length []).flatten) (qa.news oS L ((s.keepUpd t).append (Kg Q))) ?_ λq T=>?_)⟩
  .rw[fAq,sU,aNq];exact ah.mpr ⟨t,M⟩
  .rw[fAq,sU,aNq]at T;exact O q T
 .cases e
theorem DN{H:Hp}:∀{ds:List (pE×D)}{kvs:List (pE×V)}{key:pE},vC K H ds kvs->match getD ds key with
  |some d=>∃v,CU kvs key=some v/\rE K H d v
  |none=>CU kvs key=none
 | [],kvs,key,h=>by
  have:kvs=[]:=by
   have:=congrArg bV h.1;simpa using this.symm
  subst this;rfl
 |d::ds,[],key,h=>by
  have:=congrArg bV h.1;simp at this
 |d::ds,v::kvs,key,h=>by
  have n:d.1=v.1/\ds.map (·.1)=kvs.map (·.1):=by
   have:=h.1;simpa using this
  have s:rE K H d.2 v.2:=h.2 0 d v rfl rfl;have ht:vC K H ds kvs:=⟨n.2,λi a b t u=>h.2 (i+1) a b (by simpa using t) (by simpa using u)⟩
  unfold getD CU
  by_cases c:d.1=key
  .rw[eK (by simp[c]),eK (by simp[←n.1,c])]
   exact⟨v.2,rfl,s⟩
  .rw[du (by simp[c]),du (by simp[←n.1,c])]
   exact DN ht
def xn{H:Hp}{d:D}{v:V}{key:pE}(h:we d=some key)(r:rE K H d v):v=kV key:=by
 cases r <;> simp only[we]at h
 all_goals first|(exfalso;simp at h;done)|skip
 all_goals (cases h;rfl)
def vC.key{H:Hp}{ds:List (pE×D)}{kvs:List (pE×V)}(h:vC K H ds kvs){i:Nat}{d:pE×D}{v:pE×V}(n:ds[i]?=some d)(s:kvs[i]?=some v):d.1=v.1:=by
 have:=congrArg (λl=>l[i]?) h.1
 simp only[gMq,n,s,cK]at this;exact aw.inj this
noncomputable def vC.len{H:Hp}{ds:List (pE×D)}{kvs:List (pE×V)}(h:vC K H ds kvs):ds.length=kvs.length:=by
 have:=congrArg bV h.1;simpa using this
def L1{H:Hp}{ds:List (pE×D)}{kvs:List (pE×V)}{key:pE}{d:D}{v:V}(h:vC K H ds kvs)(r:rE K H d v):vC K H (Ax ds key d) (A2 kvs key v):=by
 have ha:(ds.any λkv=>decide (kv.1=key))=kvs.any λkv=>decide (kv.1=key):=by
  have n:(ds.any λkv=>decide (kv.1=key))=(ds.map (·.1)).any λk=>decide (k=key):=by rw[iQ];rfl
  have s:(kvs.any λkv=>decide (kv.1=key))=(kvs.map (·.1)).any λk=>decide (k=key):=by rw[iQ];rfl
  rw[n,s,h.1]
 unfold Ax A2;rw[ha];split
 .refine⟨?_,λi a b n s=>?_⟩
  .rw[mPq,mPq];have n:((λkv:pE×D=>kv.1)∘λkv:pE×D=>if kv.1=key then (kv.1,d)else kv)=λkv=>kv.1:=by
    funext kv;show(if kv.1=key then (kv.1,d)else kv).1=kv.1
    split <;> rfl
   have s:((λkv:pE×V=>kv.1)∘λkv:pE×V=>if kv.1=key then (kv.1,v)else kv)=λkv=>kv.1:=by
    funext kv;show(if kv.1=key then (kv.1,v)else kv).1=kv.1
    split <;> rfl
   rw[n,s];exact h.1
  .rw[gMq]at n s;obtain⟨u,x,rfl⟩:=oMq.mp n;obtain⟨B,z,rfl⟩:=oMq.mp s;have hk:=h.key x z
   by_cases c:u.1=key
   .rw[pB c,pB (hk ▸ c)];exact r
   .rw[oZ c,oZ (hk ▸ c)];exact h.2 i u B x z
 .refine⟨by rw[mBq,mBq,h.1];rfl,λi a b n s=>?_⟩
  by_cases hi:i<ds.length
  .rw[gZq hi]at n;rw[gZq (h.len ▸ hi)]at s;exact h.2 i a b n s
  .have t:i=ds.length:=by
    have:=(gSq.mp n).1;rw[lAq,lSq]at this;lia
   subst t;rw[gYq (aa _),cw]at n;rw[h.len,gYq (aa _),cw]at s;cases n;cases s;exact r
noncomputable def yB:MK:=λS=>some (.owd [],S)
def YU:SK K RL yB:=by
 intro H₀ n Hf S σ H u x z R e Q q;cases e;intro p s;obtain⟨t,R2,n1,n2,B⟩:=R.new (o:=.dK []) s;exact q _ _ _ (.ref p) [p] t R2 (.owd oS n1 ⟨rfl,λi d v h=>by simp at h⟩) (A9.one R s)
theorem qj.owd{H₀ n Hf H:Hp}{S:AS}{σ:St}{s:List Δ}(R:qj K H₀ n Hf S σ H s){i:Nat}{ds:List (pE×D)}(h:S[i]?=some (some (.owd ds))):∃p kvs,σ[i]?=some (some (.ref p))/\s[i]?=some [p]/\H p=some (.dK kvs)/\Hf p=none/\vC K Hf ds kvs /\
  H₀ p=none/\p∉(s.set i []).flatten:=by
 obtain⟨v,F,t,u,r,nd,o,_⟩:=R.move h;obtain⟨p,kvs,rfl,rfl,x,z,B⟩:=r.owd_inv;exact⟨p,kvs,t,u,x,z,B,(o p (by simp)).1,(o p (by simp)).2⟩
def V3{i:Nat}(hk:SK K te k)(hb:SR K tb b):SS K (U1 (vA i) tb te) (yG i b k):=by
 intro H₀ u Hf S σ H Fs o R e D h;obtain⟨x,M,e⟩:=oBq.mp e;obtain⟨a0,U,e⟩:=oBq.mp e;obtain⟨y,X,e⟩:=oBq.mp e;obtain⟨Y,e3,e⟩:=oBq.mp e;obtain⟨key,e4,e⟩:=oBq.mp e;rcases pR e with⟨hl,e⟩|e
 .skip
  cases e;have z:SK K te (uR k):=SK.frz hk;refine z R (a:=x.1) (S':=x.2) M _ λHf1 H1 Fs1 v F t1 O P o1=>?_
  obtain⟨Q,_,B,_⟩:=O.owd (xA U);refine⟨_,B,hb O (d:=y.1) (S':=y.2) X _ λHf2 H2 Fs2 w T R2 r2=>?_⟩
  obtain⟨q',kv,n,E,G,I,s,J,L⟩:=R2.owd (xA e3);rw[B]at n;cases n;obtain⟨x1,t⟩:∃d,x.1 = .sh d:=by
   obtain⟨w,_,e⟩:=oMq.mp M;rw[←e];exact⟨_,rfl⟩
  rw[t]at P;have rv:=(P.sh_inv.2).mono T.sf;have hw:=xn e4 r2;subst hw;refine⟨Q,_,rfl,Q4.k G (by rw[vv,←s.len];exact hl),h _ _ _ _ (t1.sf.trans T.sf) (R2.turn B E (by simp) (F':=[Q]) (.owd oS I ?_) (by simp) λq hq=>by rw[mSq.mp hq];exact⟨J,L⟩)⟩
  rw[t,rV];exact L1 s rv
 .cases e
def aft(a b:ME):ME:=λS=>(a S).bind λx=>(b x.2).bind λy=>match y.1 with
 | .dict kvs=>(we x.1).map λkey=>(.bl (getD kvs key).isSome,y.2)
 |_=>none
def sZ(a b:ME):ME:=λS=>(a S).bind λx=>(b x.2).bind λy=>match y.1 with
 | .dict kvs=>(we x.1).map λkey=>(.bl (!(getD kvs key).isSome),y.2)
 |_=>none
def IR(a b:ME):ME:=λS=>(a S).bind λx=>(b x.2).bind λy=>match x.1 with
 | .dict kvs=>(we y.1).bind λkey=>(getD kvs key).map λd=>(d,y.2)
 |_=>none
def Qm{H:Hp}{kvs:List (pE×D)}{x:V}{key:pE}{d:D}(r:rE K H (.dict kvs) x)(e:getD kvs key=some d):∃a v,x = .ref a/\FM H a (kV key) (some v)/\rE K H d v:=by
 obtain⟨p,u,rfl,n,s⟩:=r.dict_inv;have g:=DN (key:=key) s;rw[e]at g;obtain⟨v,t,g2⟩:=g;exact⟨p,v,rfl,by rw[←t];exact FM.k n,g2⟩
def Um{H:Hp}{kvs:List (pE×D)}{x:V}{key:pE}(r:rE K H (.dict kvs) x):∃a o,x = .ref a/\FM H a (kV key) o/\o.isSome=(getD kvs key).isSome:=by
 obtain⟨p,u,rfl,n,s⟩:=r.dict_inv;have g:=DN (key:=key) s;refine⟨p,_,rfl,FM.k n,?_⟩;cases e:getD kvs key with
 |none=>rw[e]at g;rw[g];rfl
 |some d=>rw[e]at g;obtain⟨v,t,_⟩:=g;rw[t];rfl
def Qk{a:ME}(ha:SR K ta a)(hb:SR K tb b):SR K (Pi ta tb) (sZ a b):=by
 intro H₀ n Hf S σ H T d U R e Q q;obtain⟨x,t,e⟩:=oBq.mp e;obtain⟨y,u,e⟩:=oBq.mp e;refine ha R (d:=x.1) (S':=x.2) t _ λz X Fs1 Y B E G=>hb E (d:=y.1) (S':=y.2) u _ λI H2 Fs2 v2 J R2 s=>?_
 split at e
 .rename_i L M;rw[M]at s;obtain⟨key,O,e⟩:=oMq.mp e;cases e;obtain⟨p,o,rfl,P,g2⟩:=Um (key:=key) s;refine⟨p,o,rfl,by rw[xn O G];exact P,?_⟩
  rw[g2];exact q _ _ _ _ (B.trans J) R2 .bl
 .cases e
def XR{a:ME}(ha:SR K ta a)(hb:SR K tb b):SR K (Ug ta tb) (IR a b):=by
 intro H₀ n Hf S σ H U d X R e Q q;obtain⟨x,u,e⟩:=oBq.mp e;obtain⟨y,z,e⟩:=oBq.mp e;refine ha R (d:=x.1) (S':=x.2) u _ λB Y Fs1 v1 E G s=>hb G (d:=y.1) (S':=y.2) z _ λI H2 Fs2 v2 t R2 J=>?_
 split at e
 .rename_i L M;rw[M]at s;obtain⟨key,O,e⟩:=oBq.mp e;obtain⟨d',P,e⟩:=oMq.mp e;cases e;obtain⟨p,v,rfl,T,g2⟩:=Qm (s.mono t.sh) P;exact⟨p,v,rfl,by rw[xn O J];exact T,q _ _ _ _ (E.trans t) R2 g2⟩
 .cases e
end
def qR(x:Nat)(body:MS):List D->AS->Option PM
 | [],S=>some (.nx S)
 |d::ds,S=>(body (S.set x (some (.sh d)))).bind λo=>match o with
  | .nx S'=>qR x body ds S'
  | .ct S'=>qR x body ds S'
  | .bk S'=>some (.nx S')
  | .rt a=>some (.rt a)
def sD:D->Option (List D)
 | .list ds=>some ds
 | .scr ns=>some (ns.map .int)
 |_=>none
def A5(x:Nat)(k:MK)(body:MS):MS:=λS=>(uR k S).bind λy=>(sD (oB y.1)).bind λds=>qR x body ds y.2
noncomputable def qd(lo:Int)(n:Nat):List D:=(bI n).map λi:Nat=>.int (lo+i)
def Ht:List D->Option (List D)
 | [.int j]=>wH (-(2 ^ 62)<=j/\j<2 ^ 62) (some (qd 0 j.toNat))
 |_=>none
def afI:List D->Option (List D)
 | [.int i,.int j]=>wH (-(2 ^ 62)<=i/\i<2 ^ 62/\-(2 ^ 62)<=j/\j<2 ^ 62) (some (qd i (j-i).toNat))
 |_=>none
def AY(x:Nat)(a:ML)(body:MS):MS:=λS=>(a S).bind λy=>(Ht y.1).bind λds=>qR x body ds y.2
def afV(x:Nat)(a:ML)(body:MS):MS:=λS=>(a S).bind λy=>(afI y.1).bind λds=>qR x body ds y.2
def Ed(x y:Nat)(body:MS):Nat->List D->AS->Option PM
 |_,[],S=>some (.nx S)
 |i,d::ds,S=>(body ((S.set x (some (.sh (.int i)))).set y (some (.sh d)))).bind λo=>match o with
  | .nx S'=>Ed x y body (i+1) ds S'
  | .ct S'=>Ed x y body (i+1) ds S'
  | .bk S'=>some (.nx S')
  | .rt a=>some (.rt a)
def TK(x y:Nat)(k:MK)(body:MS):MS:=λS=>(uR k S).bind λz=>(sD (oB z.1)).bind λds=>Ed x y body 0 ds z.2
def Cg(x y:Nat)(body:MS):List D->List D->AS->Option PM
 |d::ds,e::es,S=>(body ((S.set x (some (.sh d))).set y (some (.sh e)))).bind λo=>match o with
  | .nx S'=>Cg x y body ds es S'
  | .ct S'=>Cg x y body ds es S'
  | .bk S'=>some (.nx S')
  | .rt a=>some (.rt a)
 |_,_,S=>some (.nx S)
def Uu(x y:Nat)(k l:MK)(body:MS):MS:=λS=>(uR k S).bind λz=>(uR l z.2).bind λw=>(sD (oB z.1)).bind λds=>(sD (oB w.1)).bind λes=>
 if ds.length=es.length then Cg x y body ds es w.2 else none
def rq(c:MT)(body:MS):Nat->MS
 |0,_=>none
 |n+1,S=>(c S).bind λx=>if x.1=true then (body x.2).bind λo=>match o with
   | .nx S'=>rq c body n S'
   | .ct S'=>rq c body n S'
   | .bk S'=>some (.nx S')
   | .rt a=>some (.rt a)
  else some (.nx x.2)
section
variable {K:Ζ}{te tf:TE}{k l:MK}{tb:TS}{body:MS}{x y:Nat}
def yU{H:Hp}{d:D}{ds:List D}{v:V}(e:sD d=some ds)(r:rE K H d v):∃a vs,v = .ref a/\rz K H a vs/\qv K H ds vs:=by
 cases d with
 |list t=>
  cases e;obtain⟨p,vs,rfl,n,s⟩:=r.list_inv;exact⟨p,vs,rfl,rz.of n,s⟩
 |scr ns=>
  cases e;cases r with
  |scr h=>exact⟨_,_,rfl,h,vK ns⟩
 |_=>cases e
def Az{te:TE}{S:AS}{z:AV×AS}(e:uR k S=some z):∃d,z.1 = .sh d:=by
 obtain⟨w,_,e⟩:=oMq.mp e;rw[←e];exact⟨_,rfl⟩
def qj.setD{H₀ n Hf H:Hp}{S:AS}{σ:St}{s:List Δ}{d:D}{v:V}(R:qj K H₀ n Hf S σ H s)(i:Nat)(r:rE K Hf d v):qj K H₀ n Hf (S.set i (some (.sh d))) (σ.set i (some v)) H (s.set i []):=
 R.set i (.sh r) aV λq h=>(by cases h)
def UW(hk:SK K te k)(hb:SS K tb body):SS K (Qs (Va K te) (rS x) tb) (A5 x k body):=by
 intro H₀ E Hf S σ H Fs o R e D h;obtain⟨z,e1,e⟩:=oBq.mp e;obtain⟨Y,e2,e⟩:=oBq.mp e;have hk':SK K te (uR k):=SK.frz hk;refine hk' R (a:=z.1) (S':=z.2) e1 _ λI H1 Fs1 v F t1 R1 r1 o1=>?_
 obtain⟨d,hd⟩:=Az (te:=te) e1;rw[hd]at r1;rw[hd,rV]at e2;obtain⟨a,vs,rfl,g1,g2⟩:=yU e2 r1.sh_inv.2;refine⟨a,rfl,⟨vs,R1.sub.seq g1⟩,SX (xs:=vs) (λi s T=>∃n J t,qj K H₀ E n J s T t/\Same I n/\qR x body (Y.drop i) J=some o) ⟨I,z.2,Fs1,R1,.refl _,e⟩
  (λi s T _ ⟨n,J,t,L,B,_⟩=>L.sub.seq (B.seq g1)) ?_ ?_⟩
 .rintro i w s T hw ⟨n,J,t,L,B,G⟩;obtain⟨di,M,rw'⟩:=g2.get' hw;have hlt:i<Y.length:=(gSq.mp M).1;rw[aK hlt]at G;have O:Y[i]=di:=(gSq.mp M).2;rw[O]at G;obtain⟨ob,e3,U⟩:=oBq.mp G;refine hb (L.setD x (rw'.mono B)) e3 _ ?_;cases ob with
  |nx X=>exact λu P H2 Fs2 Q R2=>⟨u,X,Fs2,R2,B.trans Q,U⟩
  |ct X=>exact λu P H2 Fs2 Q R2=>⟨u,X,Fs2,R2,B.trans Q,U⟩
  |bk X=>cases U;exact λu P H2 Fs2 Q R2=>h _ _ _ _ ((t1.sf.trans B).trans Q) R2
  |rt a=>cases U;exact h
 .rintro s T ⟨n,J,t,L,B,G⟩;rw[←g2.1,dh]at G;cases G;exact h _ _ _ _ (t1.sf.trans B) L
def QG{H₀ s Hf1 X:Hp}{R:AS}{σ:St}{Fs1:List Δ}{o:PM}{D:AN}{lo:Int}{n:Nat}(hb:SS K tb body)(R1:qj K H₀ s Hf1 R σ X Fs1)(e:qR x body (qd lo n) R=some o)(h:Il K H₀ s Hf1 D o) :
  ∃W:Nat->Nat->St->Hp->Prop,(∃m,W 0 m σ X)/\∀i m σ H,W i m σ H ->
   ((Xz lo n).stop i H/\D.nx σ H)∨((Xz lo n).go i H/\∃N:St->Hp->Prop,(∀t u,N t u->∃Y,Y<m/\W (i+1) Y t u)/\∀v u,(Xz lo n).yld i H v u->rS x v σ u λz M=>tb { D with nx:=N,ct:=N,bk:=D.nx } z M):=by
 refine Ra (λi t u=>∃B O G,qj K H₀ s B O t u G/\Same Hf1 B/\qR x body ((qd lo n).drop i) O=some o) ⟨Hf1,R,Fs1,R1,.refl _,e⟩ ?_ ?_
 .rintro i t u hi ⟨B,O,G,S,J,I⟩;have T:i<(qd lo n).length:=by unfold qd;rw[lMq,bo];exact hi
  rw[aK T]at I;have U:(qd lo n)[i] = .int (lo+i):=by simp[qd]
  rw[U]at I;obtain⟨ob,e3,P⟩:=oBq.mp I;refine hb (S.setD x .int) e3 _ ?_;cases ob with
  |nx Q=>exact λE z M Fs2 L R2=>⟨E,Q,Fs2,R2,J.trans L,P⟩
  |ct Q=>exact λE z M Fs2 L R2=>⟨E,Q,Fs2,R2,J.trans L,P⟩
  |bk Q=>cases P;exact λE z M Fs2 L R2=>h _ _ _ _ (J.trans L) R2
  |rt a=>cases P;exact h
 .rintro t u ⟨B,O,G,S,J,I⟩;have hl:(qd lo n).length=n:=by unfold qd;rw[lMq,bo]
  rw[cI (fj hl)]at I;cases I;exact h _ _ _ _ J S
def Tw{t:TA}{a:ML}(ha:W6 K t a)(hb:SS K tb body):SS K (Qs (Vf t) (rS x) tb) (AY x a body):=by
 intro H₀ s Hf S σ H P o R e D h;obtain⟨z,E,e⟩:=oBq.mp e;obtain⟨Q,n,e⟩:=oBq.mp e;refine ha R (ds:=z.1) (S':=z.2) E _ λG T Fs1 U I J u=>?_
 unfold Ht at n;split at n
 .rename_i j L;rcases pR n with⟨B,n⟩|n
  .skip
   cases n;rw[L]at u;obtain⟨v,X,rfl,M,O⟩:=u.cons_inv;rw[O.nil_inv];cases M;exact⟨j,rfl,B.1,B.2,QG hb J e (h.mono I.sf)⟩
  .cases n
 .cases n
def Xi(hk:SK K te k)(hb:SS K tb body):SS K (Qs (Zd K (uf te vI)) (Mo K 2 (Aj (rS x) (Aj (rS y) Mx))) tb) (TK x y k body):=by
 intro H₀ E Hf S σ H Fs o R e D h;obtain⟨z,e1,e⟩:=oBq.mp e;obtain⟨ds,e2,e⟩:=oBq.mp e;have hk':SK K te (uR k):=SK.frz hk;refine hk' R (a:=z.1) (S':=z.2) e1 _ λI H1 Fs1 v F t1 R1 r1 o1=>?_
 obtain⟨d,hd⟩:=Az (te:=te) e1;rw[hd]at r1;rw[hd,rV]at e2;obtain⟨a,vs,rfl,g1,g2⟩:=yU e2 r1.sh_inv.2;refine⟨a,rfl,⟨vs,R1.sub.seq g1⟩,Vk (xs:=vs) (λi s U=>∃n J t,qj K H₀ E n J s U t/\Same I n/\Ed x y body i (ds.drop i) J=some o) ⟨I,z.2,Fs1,R1,.refl _,e⟩
  (λi s U _ ⟨n,J,t,L,B,_⟩=>L.sub.seq (B.seq g1)) ?_ ?_⟩
 .rintro i w s U T hw ⟨n,J,t,L,B,G⟩ hT;obtain⟨di,M,rw'⟩:=g2.get' hw;have hlt:i<ds.length:=(gSq.mp M).1;rw[aK hlt]at G;have O:ds[i]=di:=(gSq.mp M).2;rw[O]at G;obtain⟨ob,e3,X⟩:=oBq.mp G;have R2:=(L.new (o:=.tup [.int i,w]) hT).2.1;refine hb ((R2.setD x .int).setD y (rw'.mono B)) e3 _ ?_;cases ob with
  |nx Y=>exact λu P H2 Fs2 Q R2=>⟨u,Y,Fs2,R2,B.trans Q,X⟩
  |ct Y=>exact λu P H2 Fs2 Q R2=>⟨u,Y,Fs2,R2,B.trans Q,X⟩
  |bk Y=>cases X;exact λu P H2 Fs2 Q R2=>h _ _ _ _ ((t1.sf.trans B).trans Q) R2
  |rt a=>cases X;exact h
 .rintro s U ⟨n,J,t,L,B,G⟩;rw[←g2.1,dh]at G;cases G;exact h _ _ _ _ (t1.sf.trans B) L
def Xr(hk:SK K te k)(hl:SK K tf l)(hb:SS K tb body):SS K (Qs (ac4 K (uf te (uf tf vI))) (Mo K 2 (Aj (rS x) (Aj (rS y) Mx))) tb) (Uu x y k l body):=by
 intro H₀ G Hf S σ H Fs o R e D h;obtain⟨z,e1,e⟩:=oBq.mp e;obtain⟨w,M,e⟩:=oBq.mp e;obtain⟨ds,e2,e⟩:=oBq.mp e;obtain⟨es,O,e⟩:=oBq.mp e;split at e
 .rename_i P;have hk':SK K te (uR k):=SK.frz hk;have hl':SK K tf (uR l):=SK.frz hl;refine hk' R (a:=z.1) (S':=z.2) e1 _ λHf1 H1 Fs1 v F t1 R1 r1 o1=>hl' R1 (a:=w.1) (S':=w.2) M _ λn H2 Fs2 v2 F2 t2 R2 r2 o2=>?_
  obtain⟨d,hd⟩:=Az (te:=te) e1;obtain⟨d2,Q⟩:=Az (te:=te) M;rw[hd]at r1;rw[hd,rV]at e2;rw[Q]at r2;rw[Q,rV]at O;obtain⟨a,U,rfl,g1,g2⟩:=yU e2 (r1.sh_inv.2.mono t2.sf);obtain⟨b,ws,rfl,g3,g4⟩:=yU O r2.sh_inv.2;refine⟨a,b,rfl,⟨U,R2.sub.seq g1⟩,⟨ws,R2.sub.seq g3⟩,WD (xs:=U) (ys:=ws) (λi B H'=>∃s I E,qj K H₀ G s I B H' E/\Same n s/\Cg x y body (ds.drop i) (es.drop i) I=some o) ⟨n,w.2,Fs2,R2,.refl _,e⟩ (by rw[←g2.1,←g4.1,P])
   (λi B H' _ ⟨s,I,E,J,t,_⟩=>⟨J.sub.seq (t.seq g1),J.sub.seq (t.seq g3)⟩) ?_ ?_⟩
  .rintro i u u' B H' T hu hu' ⟨s,I,E,J,t,L⟩ hT;obtain⟨di,X,rw'⟩:=g2.get' hu;obtain⟨ei,Y,rw2⟩:=g4.get' hu';have hlt:i<ds.length:=(gSq.mp X).1;have hlt2:i<es.length:=(gSq.mp Y).1;rw[aK hlt,aK hlt2,(gSq.mp X).2,(gSq.mp Y).2]at L;obtain⟨ob,e3,e4⟩:=oBq.mp L;have R3:=(J.new (o:=.tup [u,u']) hT).2.1;refine hb ((R3.setD x (rw'.mono t)).setD y (rw2.mono t)) e3 _ ?_;cases ob with
   |nx S2=>exact λn σ2 H2 Fs2 s2 R2=>⟨n,S2,Fs2,R2,t.trans s2,e4⟩
   |ct S2=>exact λn σ2 H2 Fs2 s2 R2=>⟨n,S2,Fs2,R2,t.trans s2,e4⟩
   |bk S2=>cases e4;exact λn σ2 H2 Fs2 s2 R2=>h _ _ _ _ (((t1.sf.trans t2.sf).trans t).trans s2) R2
   |rt a=>cases e4;exact h
  .rintro B H' ⟨s,I,E,J,t,L⟩;have e0:ds.drop U.length=[]:=by rw[←g2.1,dh]
   rw[e0]at L;have e0':Cg x y body [] (es.drop U.length) I=some (.nx I):=by
    cases es.drop U.length <;> rfl
   rw[e0']at L;cases L;exact h _ _ _ _ ((t1.sf.trans t2.sf).trans t) J
 .cases e
def Uy{c:TT}{m:MT}(n:Nat)(hc:Kp K c m)(hb:SS K tb body):SS K (Vu c tb) (rq m body n):=by
 intro H₀ t Hf S σ H Fs o R e D h;refine⟨λn I X=>∃s G B,qj K H₀ t s G I X B/\Same Hf s/\rq m body n G=some o,⟨n,Hf,S,Fs,R,.refl _,e⟩,?_⟩
 rintro n I X ⟨s,G,B,R',M,Y⟩;cases n with
 |zero=>cases Y
 |succ n=>
  obtain⟨z,e1,U⟩:=oBq.mp Y;refine hc R' (b:=z.1) (S':=z.2) e1 _ λHf1 H1 Fs1 O R1=>?_
  split at U
  .rename_i P;rw[P];refine LW ⟨λu J=>∃s G B,qj K H₀ t s G u J B/\Same Hf s/\rq m body n G=some o,λu J w=>⟨n,ee n,w⟩,?_⟩
   obtain⟨ob,e3,Q⟩:=oBq.mp U;refine hb R1 e3 _ ?_;cases ob with
   |nx T=>exact λE u J Fs2 L R2=>⟨E,T,Fs2,R2,(M.trans O.sf).trans L,Q⟩
   |ct T=>exact λE u J Fs2 L R2=>⟨E,T,Fs2,R2,(M.trans O.sf).trans L,Q⟩
   |bk T=>cases Q;exact λE u J Fs2 L R2=>h _ _ _ _ ((M.trans O.sf).trans L) R2
   |rt a=>cases Q;exact h
  .rename_i P;rw[dt]at P;rw[P];cases U;exact LU (h _ _ _ _ (M.trans O.sf) R1)
end
def qK(l n:Nat)(m:MS):MF:=λds=>if ds.length=l then (m (ds.map (λd=>some (.sh d))++ay (n-ds.length) none)).bind λo=>match o with
  | .rt a=>some a
  | .nx _=>some (.sh .non)
  |_=>none
 else none
def Q0{K:Ζ}{Hf H:Hp}{ds:List D}{vs:List V}(N:List Str)(s:Same Hf H)(r:qv K Hf ds vs) :
  qj K H Hf Hf (ds.map (λd=>some (.sh d))++ay (N.length-ds.length) none) (L2.xS N vs) H (ay (ds.length+(N.length-ds.length)) []):=by
 have fl:=sU (ds.length+(N.length-ds.length));refine⟨by simp[L2.xS,r.1],by simp,λi B e=>?_,λi e=>?_,by rw[fl];exact aV,λp l=>(by rw[fl]at l;cases l),s,Same.refl _,λb h _=>h,Same.refl _⟩
 .by_cases hi:i<ds.length
  .rw[gZq (by simpa using hi),gMq]at e
   obtain⟨d,n,t⟩:=oMq.mp e;cases t;obtain⟨v,u,x⟩:=r.get n;refine⟨v,[],?_,?_,.sh x⟩
   .unfold L2.xS;rw[gZq (by simpa[←r.1]using hi),gMq,u]
    rfl
   .rw[dc,pB (by lia)]
  .rw[gYq (by simpa using hi)]at e
   have:=mGq e;rw[dY this]at e;have z:=dY this;cases z
 .rw[dc];have hi:=(gSq.mp e).1;rw[lAq,lMq,cM]at hi;rw[pB hi]
def xx{K:Ζ}{t:TS}{m:MS}{G:Nat}(N:List Str)(h:SS K t m){vs:List V}{H:Hp}{Q:VK}{E:XK}(I:qo K (qK G N.length m) vs H Q E):t { nx:=λ_ u=>Q .non u,rt:=Q } (L2.xS N vs) H:=by
 obtain⟨Hf,S,a,s,r,e,q⟩:=I;unfold qK at e;split at e
 .obtain⟨o,J,x⟩:=oBq.mp e;refine h (Q0 N s r) J _ ?_;cases o with
  |rt T=>
   cases x;exact λn u v F z L M l r nd fr=>q n u v F z L M l r nd fr
  |nx B=>
   cases x;exact λn O u P z R=>q n u .non [] R.sf R.fr R.sub R.lim (.sh .non) aV λq h=>(by cases h)
  |bk B=>cases x
  |ct B=>cases x
 .cases e
def B9{K:Ζ}{m:MS}{l n:Nat}{vs:List V}{H:Hp}{Q:VK}{E:XK}(t:qo K (qK l n m) vs H Q E):vs.length=l:=by
 obtain⟨Hf,u,a,s,r,e,q⟩:=t;unfold qK at e;split at e
 .rename_i h;rw[←r.1,h]
 .cases e
def fzAll:Θ->AS->Option AS
 | [],S=>some S
 |j::js,S=>(S[j]?.join).bind λa=>fzAll js (S.set j (some (.sh (oB a))))
def abK:Option AV->Option AV
 |some (.sh d)=>some (.sh d)
 |_=>none
def Hq(S:AS):Θ->Option AS
 | []=>some []
 |j::js=>(abK S[j]?.join).bind λa=>(Hq S js).map (some a :: ·)
noncomputable def rm(tf:MT)(te:MK)(cap:AS):List D->Option (List AV)
 | []=>some []
 |d::ds=>(tf (some (.sh d)::cap)).bind λb=>if b.1=true then (te b.2).bind λa=>(rm tf te cap ds).map (a.1 :: ·)else rm tf te cap ds
abbrev MI:=AS->Option (List D×AS)
def Bh(k:MK):MI:=λS=>(uR k S).bind λy=>(sD (oB y.1)).map λds=>(ds,y.2)
def Zb(a:ML):MI:=λS=>(a S).bind λy=>(Ht y.1).map λds=>(ds,y.2)
def tj(l:MI)(fr:Θ)(tf:MT)(te:MK):MK:=λS=>(l S).bind λy=>(fzAll fr y.2).bind λs=>(Hq s fr).bind λcap=>wH (y.1.length<=qE) ((rm tf te cap y.1).map λn=>(.ow n,s))
noncomputable def rZ:MT:=λS=>some (true,S)
section
variable {K:Ζ}{H₀ Hf₀ Hf Hf' H H':Hp}{S S':AS}{σ:St}{Fs Fs':List Δ}
def qj.fz(R:qj K H₀ Hf₀ Hf S σ H Fs){j:Nat}{a:AV}(e:S[j]?.join=some a):∃Hf' Fs',AM Hf H Fs Hf' H Fs'/\qj K H₀ Hf₀ Hf' (S.set j (some (.sh (oB a)))) σ H Fs':=by
 obtain⟨v,F,s,t,r,nd,o,u⟩:=R.move (qh e);have n:∀q∈F,Hf q=none:=λq l=>(r.owned q l).2
 have R2:=u.frz o n;have x:=r.frozen (tN (H:=H) n) λq l=>DQ l
 have z:=R2.again (F:=F) (G:=[]) s (.sh x) aV λq h=>(by cases h)
 refine⟨_,_,⟨tN n,.refl _,λp B=>qV B,λb h g=>?_⟩,z⟩
 by_cases m:b∈F
 .exact .inr (mFq.mpr ⟨F,mGq t,m⟩)
 .rw[vQ m]at g;exact absurd h g
theorem qj.fzAll:∀{fr:Θ}{Hf:Hp}{S S':AS}{Fs:List Δ},qj K H₀ Hf₀ Hf S σ H Fs->fzAll fr S=some S'->∃Hf' Fs',AM Hf H Fs Hf' H Fs'/\qj K H₀ Hf₀ Hf' S' σ H Fs'
 | [],Hf,S,S',Fs,R,e=>by
  cases e;exact⟨Hf,Fs,.refl,R⟩
 |j::js,Hf,S,S',Fs,R,e=>by
  obtain⟨a,n,s⟩:=oBq.mp e;obtain⟨t,Fs1,u,x⟩:=R.fz n;obtain⟨l,Fs2,z,R2⟩:=qj.fzAll x s;exact⟨l,Fs2,u.trans z,R2⟩
theorem KB(R:qj K H₀ Hf₀ Hf S σ H Fs):∀{fr:Θ}{cap:AS},Hq S fr=some cap->cap.length=fr.length/\∀(k:Nat) (a:AV),cap[k]?=some (some a)->∃d v,a = .sh d/\(slots σ fr)[k]?=some (some v)/\rE K Hf d v
 | [],cap,e=>by
  cases e;exact⟨rfl,λk a h=>by simp at h⟩
 |j::js,cap,e=>by
  obtain⟨a,l,t⟩:=oBq.mp e;obtain⟨s,u,x⟩:=oMq.mp t;subst x;obtain⟨z,B⟩:=KB R u;refine⟨by simp[z],λk b hk=>?_⟩
  cases k with
  |zero=>
   cases hk;cases n:S[j]?.join with
   |none=>rw[n]at l;cases l
   |some c=>
    rw[n]at l;cases c with
    |sh d=>
     cases l;obtain⟨v,F,E,G,r⟩:=R.rep j _ (qh n);refine⟨d,v,rfl,?_,r.sh_inv.2⟩;show some ((σ[j]?).join)=_;rw[E];rfl
    |_=>cases l
  |succ k=>exact B k b (by simpa using hk)
def QY(R:qj K H₀ Hf₀ Hf S σ H Fs){fr:Θ}{cap:AS}(e:Hq S fr=some cap){d:D}{x:V}(s:rE K Hf d x) :
  qj K H₀ Hf₀ Hf (some (.sh d)::cap) (some x::slots σ fr) H (ay (cap.length+1) []):=by
 obtain⟨t,u⟩:=KB R e;have fl:=sU (cap.length+1);refine⟨by simp[slots,t],by simp,λi z l=>?_,λi l=>?_,by rw[fl];exact aV,λp n=>(by rw[fl]at n;cases n),R.sub,R.fr,R.lim,R.sf⟩
 .cases i with
  |zero=>
   cases l;exact⟨x,[],rfl,by simp,.sh s⟩
  |succ k=>
   have hk:k<cap.length:=(gSq.mp (by simpa using l)).1
   obtain⟨E,v,rfl,B,r⟩:=u k z (by simpa using l)
   exact⟨v,[],by simpa using B,by rw[dc,pB (by lia)],.sh r⟩
 .rw[dc];have hi:=(gSq.mp l).1;rw[pB (by simpa using hi)]
def qj.updOut(R:qj K H₀ Hf₀ Hf S σ H Fs){p:Addr}{o:HO}(l:p∉Fs.flatten)(n:Hf p=none)(s:H₀ p=none):qj K H₀ Hf₀ Hf S σ (qC H p o) Fs where
 len:=R.len
 lenF:=R.lenF
 rep:=λi t e=>by
  obtain⟨v,F,s1,s2,r⟩:=R.rep i t e;exact⟨v,F,s1,s2,r.keepUpd λm=>l (qw s2 m)⟩
 emp:=R.emp
 nd:=R.nd
 fresh:=R.fresh
 sub:=λb u e=>by
  rw[oQ λz=>by rw[z,n]at e;cases e]
  exact R.sub b u e
 fr:=λb u e=>by
  rw[oQ λz=>by rw[z,s]at e;cases e]
  exact R.fr b u e
 lim:=R.lim
 sf:=R.sf
def qj.outer{u:St}{Fs2 n:List Δ}{l s:Hp}{I:AS}(R:qj K H₀ Hf₀ Hf S σ H Fs)(E:qj K H₀ Hf₀ l I u s n)(t:AM Hf H Fs2 l s n)(J:Fs2.flatten=[]):AM Hf H Fs l s Fs/\qj K H₀ Hf₀ l S σ s Fs:=by
 have g:∀b,Hf b=none->H b≠none->l b=none:=λb x B=>by
  by_cases e:l b=none
  .exact e
  .rcases t.gr b x e with z|z
   .exact absurd z B
   .rw[J]at z;cases z
 exact⟨⟨t.sf,t.sh,λ_ h=>h,λb x B=>.inl (by
  by_cases e:H b=none
  .exact e
  .exact absurd (g b x e) B)⟩,R.more t.sh t.sf E.sub (λq G=>g q (R.mem G).2 (R.mem G).1) E.lim⟩
end
section
variable {K:Ζ}{tf:TT}{te:TE}{mf:MT}{me:MK}{fr:Θ}
def Ib{H₀ s Hf1 I:Hp}{S1:AS}{σ:St}{Fs1:List Δ}{cap:AS}{ds:List D}{L:List AV}{J:It}{Q:VK}(hf:Kp K tf mf)(he:SK K te me)
  (R1:qj K H₀ s Hf1 S1 σ I Fs1) (ec:Hq S1 fr=some cap) (hl:ds.length<=qE) (e:rm mf me cap ds=some L)
  (hgo:∀i H,Same Hf1 H->i<ds.length->J.go i H) (hst:∀H,Same Hf1 H->J.stop ds.length H) (hy:∀i H x n,Same Hf1 H->i<ds.length->J.yld i H x n->n=H/\∃d,ds[i]?=some d/\rE K Hf1 d x)
  (q:∀Y n v F,AM Hf1 I Fs1 Y n Fs1->qj K H₀ s Y S1 σ n Fs1->qa K Y n (.ow L) v F->A9 H₀ I Fs1 Fs1 F->Q v n) :
  ∀l,I l=none->∃W:Nat->Nat->Hp->Prop,(∃m,W 0 m (qC I l (.lst [])))/\∀i m H,W i m H ->
   (J.stop i H/\Q (.ref l) H) ∨
   (J.go i H/\∃N:Hp->Prop,(∀n,N n->∃m',m'<m/\W (i+1) m' n)/\∀x n,J.yld i H x n->tf (some x::slots σ fr) n λb H2=>
    if b=true then te (some x::slots σ fr) H2 λy H3=>∃ys,H3 l=some (.lst ys)/\ys.length<jP/\N (qC H3 l (.lst (ys++[y])))else N H2):=by
 intro l B;obtain⟨t0,R0,n1,n2,n3⟩:=R1.new (o:=.lst []) B
 let P:Nat->Hp->Prop:=λi H=>∃Hf as S Gs rest,qj K H₀ s Hf S1 σ H Fs1/\AM Hf1 I Fs1 Hf H Fs1/\H l=some (.lst S)/\Hf l=none/\pT K Hf H as S Gs/\A9 H₀ I Fs1 Fs1 (l::Gs.flatten)/\as.length<=i /\
  rm mf me cap (ds.drop i)=some rest/\L=as++rest
 refine⟨λi m H=>m=ds.length-i/\i<=ds.length/\P i H,⟨ds.length,by simp,aT _,Hf1,[],[],[],L,R0,t0,oS,n1,.nil,A9.one R1 B,aT _,e,rfl⟩,?_⟩
 rintro i m H ⟨rfl,hi,Hf,as,S,Gs,rest,R,t,ha,hfa,ra,ow,la,er,ea⟩;have hs:Same Hf1 H:=t.sf.trans R.sub
 by_cases M:i<ds.length
 .refine .inr ⟨hgo i H hs M,P (i+1),λn p=>⟨ds.length-(i+1),by lia,rfl,M,p⟩,λx n y=>?_⟩
  obtain⟨rfl,d,hd,rx⟩:=hy i H x n hs M y;rw[aK M,(gSq.mp hd).2]at er;obtain⟨b,e1,e2⟩:=oBq.mp er;have fl:=sU (cap.length+1);refine hf (QY R ec (rx.mono t.sf)) (b:=b.1) (S':=b.2) e1 _ λHf2 H2 Fs2 t2 R2=>?_
  obtain⟨O,R2'⟩:=R.outer R2 t2 fl;have E:H2 l=some (.lst S):=t2.sh _ _ ha;have T:Hf2 l=none:=by
   by_cases z:Hf2 l=none
   .exact z
   .rcases t2.gr l hfa z with z|z
    .rw[ha]at z;cases z
    .rw[fl]at z;cases z
  have ra2:=ra.stp (λq G=>ow.out q (mCo _ G)) O
  split at e2
  .rename_i hb;rw[hb];refine LW ?_;obtain⟨a,e3,e4⟩:=oBq.mp e2;obtain⟨rest',e5,e6⟩:=oMq.mp e4;subst e6;refine he R2 (a:=a.1) (S':=a.2) e3 _ λHf3 H3 Fs3 v F t3 R3 r3 o3=>?_
   have fl2:Fs2.flatten=[]:=by
    cases hz:Fs2.flatten with
    |nil=>rfl
    |cons z zs=>
     have:=t2.own z (by rw[hz];simp)
     rw[fl]at this;cases this
   obtain⟨t3',R3'⟩:=R2'.outer R3 t3 fl2;have ha3:H3 l=some (.lst S):=t3.sh _ _ E;have U:Hf3 l=none:=by
    by_cases z:Hf3 l=none
    .exact z
    .rcases t3.gr l T z with z|z
     .rw[E]at z;cases z
     .rw[fl2]at z;cases z
   have ra3:=ra2.stp (λq G=>ow.out q (mCo _ G)) t3'
   have u:∀q∈F,H2 q=none:=λq G=>(o3.new q G).elim id λz=>by rw[fl2]at z;cases z
   have X:l∉F:=λm=>by rw[u l m]at E;cases E
   have accG:l∉Gs.flatten:=(ah.mp ow.nd).1;have tt:=(t.trans O).trans t3';refine⟨S,ha3,?_,?_⟩
   .rw[vv,←ra.1];lia
   .refine⟨Hf3,as++[a.1],S++[v],Gs++[F],rest',R3'.updOut n3 U n2,⟨tt.sf,λb o eb=>?_,λ_ h=>h,tt.gr⟩,oS,U,(ra3.keepUpd accG).snoc (r3.keepUpd X),?_,by rw[lAq,lSq];lia,e5,by rw[ea];simp⟩
    .rw[oQ λz=>by rw[z,B]at eb;cases eb]
     exact tt.sh b o eb
    .rw[fAq,aQ];have oF:A9 H₀ I Fs1 Fs1 F:=⟨o3.nd,o3.fr,λq G m=>(R2'.mem m).1 (u q G),λq G=>.inl ((t.trans O).sh.free (u q G))⟩
     refine(show A9 H₀ I Fs1 Fs1 ((l::Gs.flatten)++F)from ow.app oF λq G m=>?_)
     rcases ab.mp G with z|z
     .rw[z]at m;exact X m
     .exact(ra2.owned q z).1 (u q m)
  .rename_i hb;rw[dt]at hb;rw[hb];exact LU ⟨Hf2,as,S,Gs,rest,R2',t.trans O,E,T,ra2,ow,by lia,e2,ea⟩
 .have e0:i=ds.length:=by lia
  subst e0;rw[dh]at er;cases er;rw[aNq]at ea;subst ea;exact .inl ⟨hst H hs,q Hf H (.ref l) _ t R (qa.news ha hfa ra) ow⟩
def Sn{tl:TE}{k:MK}(hk:SK K tl k)(O:Kp K tf mf)(P:SK K te me):SK K (PQ (Va K tl) fr tf te) (tj (Bh k) fr mf me):=by
 intro H₀ B Hf S σ H Fs av S' R e Q q;obtain⟨y,l,e⟩:=oBq.mp e;obtain⟨z,I,l⟩:=oBq.mp l;obtain⟨ds,J,l⟩:=oMq.mp l;subst l;obtain⟨S2,T,e⟩:=oBq.mp e;obtain⟨U,X,e⟩:=oBq.mp e;rcases pR e with⟨hl,e⟩|e
 .obtain⟨Y,e5,e⟩:=oMq.mp e;cases e;have E:SK K tl (uR k):=SK.frz hk;refine E R (a:=z.1) (S':=z.2) I _ λHf1 H1 Fs1 v F L R1 M o1=>?_
  obtain⟨d,hd⟩:=Az (te:=tl) I;rw[hd]at M;rw[hd,rV]at J;obtain⟨Hf2,Fs2,G,R2⟩:=R1.fzAll T;obtain⟨a,n,rfl,u,g2⟩:=yU J (M.sh_inv.2.mono G.sf);refine⟨a,rfl,⟨n,R2.sub.seq u⟩,Ib (K:=K) O P R2 X hl e5 (λi H s hi=>⟨n,n[i]'(g2.1 ▸ hi),s.seq u,gEg (g2.1 ▸ hi)⟩) (λH s=>⟨n,s.seq u,fj g2.1.symm⟩) (λi H x H' s hi y=>?_) λHf' H' v F t R' r o=>q _ _ _ v F ((L.trans G).trans t) R' r (o.back (L.trans G))⟩
  obtain⟨y1,y2⟩:=y;obtain⟨di,h1,h2⟩:=g2.get' (y2 n (s.seq u));exact⟨y1,di,h1,h2⟩
 .cases e
def zQ{lo:Int}{n i:Nat}(h:i<n):(qd lo n)[i]?=some (.int (lo+i)):=by
 unfold qd;rw[gMq,eA h];rfl
def qu(lo:Int)(n:Nat):(qd lo n).length=n:=by unfold qd;rw[lMq,bo]
def Qg{B:TA}{a:ML}(ha:W6 K B a)(L:Kp K tf mf)(M:SK K te me):SK K (PQ (Vf B) fr tf te) (tj (Zb a) fr mf me):=by
 intro H₀ u Hf S σ H Fs av S' R e Q q;obtain⟨y,n,e⟩:=oBq.mp e;obtain⟨z,O,n⟩:=oBq.mp n;obtain⟨ds,l,n⟩:=oMq.mp n;subst n;obtain⟨S2,P,e⟩:=oBq.mp e;obtain⟨T,U,e⟩:=oBq.mp e;rcases pR e with⟨hl,e⟩|e
 .obtain⟨X,Y,e⟩:=oMq.mp e;cases e;refine ha R (ds:=z.1) (S':=z.2) O _ λHf1 H1 Fs1 vs E R1 G=>?_
  unfold Ht at l;split at l
  .rename_i j hz;rcases pR l with⟨I,l⟩|l
   .skip
    cases l;rw[hz]at G;obtain⟨v,ws,rfl,h1,h2⟩:=G.cons_inv;rw[h2.nil_inv];cases h1;obtain⟨Hf2,Fs2,J,R2⟩:=R1.fzAll P;refine⟨j,rfl,I.1,I.2,Ib (K:=K) L M R2 U hl Y (λi H s hi=>(by rw[qu]at hi;exact hi)) (λH s=>(by rw[qu];exact aa _)) (λi H x H' s hi y=>?_) λHf' H' v F t R' r o=>q _ _ _ v F ((E.trans J).trans t) R' r (o.back (E.trans J))⟩
    obtain⟨y1,y2⟩:=y;rw[qu]at hi;exact⟨y1,_,zQ hi,by rw[y2];exact .int⟩
   .cases l
  .cases l
 .cases e
def abv:Kp K aeK rZ:=by
 intro H₀ l Hf S σ H n b s R e Q q;cases e;exact q _ _ _ .refl R
end
mutual
def py:D->Option PyData
 | .non=>some .none
 | .bl b=>some (.bool b)
 | .int i=>some (.int i)
 | .str x=>some (.str x)
 | .list ds=>(VX ds).map .list
 | .tup ds=>(VX ds).map .tuple
 |_=>none
def VX:List D->Option (List PyData)
 | []=>some []
 |d::ds=>(py d).bind λx=>(VX ds).map (x :: ·)
end
def TX(d e:D):Option D:=(py d).bind λa=>(py e).bind λb=>if SeqAt.shaped a=true/\SeqAt.shaped b=true/\SeqAt.noMix a b=true then some (.bl (PySem.Spec.same a b))else none
def agH(d e:D):Option D:=(TX d e).bind Rc
abbrev dI(ns:Ϝ):D:=.list (ns.map .int)
abbrev dM(rs:Λ):D:=.list (rs.map dI)
def Tt(ns:Ϝ):VX (ns.map .int)=some (ns.map PyData.int):=by
 induction ns with
 |nil=>simp[VX]
 |cons n ns l=>simp[VX,py,l]
def aa4(ns:Ϝ):py (dI ns)=some (xP ns):=by
 show py (.list _)=_;simp only[py,Tt];rfl
def U5(rs:Λ):VX (rs.map dI)=some (rs.map xP):=by
 induction rs with
 |nil=>simp[VX]
 |cons r rs l=>
  show VX (dI r::rs.map dI)=_;simp only[VX,aa4,l];rfl
def aes(rs:Λ):py (dM rs)=some (DM rs):=by
 show py (.list _)=_;simp only[py,U5];rfl
def Gy(r:Ϝ):SeqAt.shaped (xP r)=true:=by
 have n:=W.depthAll_ints r;have l:PyData.depth (xP r)<=64:=by simp only[xP,PyData.depth];lia
 show(PyData.canLay0 (xP r) && decide (PyData.depth (xP r)<=64))=true;rw[eV];exact⟨by simp only[xP,PyData.canLay0];exact W.canLayAll0_ints r,d4 l⟩
@[simp] theorem afB (ns ms:Ϝ):TX (dI ns) (dI ms)=some (.bl (decide (ns=ms))):=by
 unfold TX;rw[aa4,aa4];show(if _ then _ else _)=_
 rw[pB ⟨Gy ns,Gy ms,by simp only[xP,SeqAt.noMix];exact W.noMix_ints ns ms⟩]
 simp only[xP,PySem.Spec.same,W.same_ints]
@[simp] theorem afo (rs l:Λ):TX (dM rs) (dM l)=some (.bl (decide (rs=l))):=by
 unfold TX;rw[aes,aes];show(if _ then _ else _)=_
 rw[pB ⟨EI rs,EI l,by simp only[DM,SeqAt.noMix];exact Ga rs l⟩]
 simp only[DM,PySem.Spec.same,ID]
noncomputable def Am(l:ML):MK:=λS=>(l S).map λx=>(.ow (x.1.map .sh),x.2)
def M9(l:ML):MK:=λS=>(l S).bind λx=>(rB x.1).map λns=>(.ow ((uk ns).map λn=>.sh (.int n)),x.2)
def uH:List D->Option Λ
 | []=>some []
 | .list ds::es=>(rB ds).bind λr=>(uH es).map (r :: ·)
 |_=>none
theorem ze:∀{ds:List D}{rs:Λ},uH ds=some rs->ds=rs.map dI
 | [],rs,h=>by cases h;rfl
 |d::ds,rs,h=>by
  cases d with
  |list l=>
   obtain⟨r,n,h⟩:=oBq.mp (show(rB l).bind (λr=>(uH ds).map (r :: ·))=some rs from h)
   obtain⟨u,s,t⟩:=oMq.mp h;subst t;rw[ze s,xh n];rfl
  |_=>cases h
@[simp] theorem FT (rs:Λ):uH (rs.map dI)=some rs:=by
 induction rs with
 |nil=>rfl
 |cons r rs l=>
  show(rB (r.map .int)).bind (λr=>(uH (rs.map dI)).map (r :: ·))=_
  rw[sj,l];rfl
def afF(l:ML):MK:=λS=>(l S).bind λx=>(uH x.1).map λrs=>(.ow ((rY rs).map λr=>.sh (dI r)),x.2)
section
variable {K:Ζ}{te:TE}{l:ML}
def Wg(hl:SQ K te l):SK K (tCB (λxs H Q=>∃p ys,xs=[.ref p]/\(rz K H p ys∨Ej K H p ys)/\∀l,H l=none->Q (.ref l) (qC H l (.lst ys))) (uf te vI)) (Am l):=by
 intro H₀ s Hf S σ H O P T R e Q q;obtain⟨x,B,e⟩:=oMq.mp e;cases e;refine hl R (ds:=x.1) (S':=x.2) B _ λE U Fs1 G n t u I J=>⟨G,n,rfl,.inl I,λp z=>?_⟩
 obtain⟨L,M,n1,n2,X⟩:=u.new (o:=.lst n) z;exact q _ _ _ (.ref p) [p] (t.trans L) M (qa.new oS n1 J) ((A9.one u z).back t)
noncomputable def AB(ns:Ϝ):(ns.map λn=>AV.sh (.int n))=(ns.map D.int).map .sh:=by rw[mPq];rfl
def S8(hl:SQ K te l):SK K (tCB (λxs H Q=>∃(a:Addr) (ns:Ϝ),xs=[.ref a]/\rz K H a (ns.map V.int)/\∀p,H p=none->Q (.ref p) (qC H p (.lst ((uk ns).map V.int)))) (uf te vI)) (M9 l):=by
 intro H₀ n Hf S σ H P T U R e Q q;obtain⟨x,E,e⟩:=oBq.mp e;obtain⟨ns,G,e⟩:=oMq.mp e;cases e;refine hl R (ds:=x.1) (S':=x.2) E _ λI X Fs1 J L s t u z=>?_
 rw[xh G]at z;rw[sQ z]at u;refine⟨J,ns,rfl,u,λp B=>?_⟩
 obtain⟨M,O,n1,n2,Y⟩:=t.new (o:=.lst ((uk ns).map V.int)) B;rw[AB]at q;exact q _ _ _ (.ref p) [p] (s.trans M) O (qa.new oS n1 (vK _)) ((A9.one t B).back s)
theorem ux{H:Hp}:∀{rs:Λ}{vs:List V},qv K H (rs.map dI) vs->∃ps,vs=ps.map V.ref/\qU H ps rs
 | [],vs,h=>⟨[],h.nil_inv,.nil⟩
 |r::rs,vs,h=>by
  obtain⟨v,z,rfl,s,t⟩:=qv.cons_inv (d:=dI r) (ds:=rs.map dI) h;obtain⟨p,us,rfl,n,u⟩:=s.list_inv;rw[sQ u]at n;obtain⟨ps,rfl,x⟩:=ux t;exact⟨p::ps,rfl,qU.cons_iff.mpr ⟨n,x⟩⟩
end
def tyD:String->D->Bool
 |T,.list _=>T == "list"
 |T,.scr _=>T == "list"
 |T,.str _=>T == "str"
 |_,_=>false
def rBM(T:String)(f:D->List D->Option D)(a:ME)(as:ML):ME:=λS=>(a S).bind λx=>if tyD T x.1=true then (as x.2).bind λy=>(f x.1 y.1).map λd=>(d,y.2)else none
def BmD(K:Ζ)(r:V->List V->Hp->VK->Prop)(f:D->List D->Option D):Prop:=∀{x:V}{vs:List V}{H:Hp}{Q:VK}{l:D}{ds:List D}{d:D},rE K H l x->qv K H ds vs->f l ds=some d->(∀v,rE K H d v->Q v H)->r x vs H Q
section
variable {K:Ζ}{te:TE}{ta:TA}{a:ME}{as:ML}{r:V->List V->Hp->VK->Prop}{f:D->List D->Option D}{T:String}
def aaI{H:Hp}{d:D}{v:V}(h:tyD T d=true)(s:rE K H d v):tyV K T v H:=by
 cases s <;> simp only[tyD]at h
 all_goals first|(exfalso;simp at h;done)|skip
 .exact eq_of_beq h
 .rename_i p t u n l e;exact .inl ⟨eq_of_beq h,t,rz.of n⟩
 .rename_i p ns n;exact .inl ⟨eq_of_beq h,_,n⟩
def aem(hr:BmD K r f)(ha:SR K te a)(t:W6 K ta as):SR K (Pu K T r te ta) (rBM T f a as):=by
 intro H₀ l Hf S σ H U d X R e Q q;obtain⟨x,u,e⟩:=oBq.mp e;split at e
 .rename_i B;obtain⟨y,E,e⟩:=oBq.mp e;obtain⟨z,G,e⟩:=oMq.mp e;cases e;refine ha R (d:=x.1) (S':=x.2) u _ λI Y Fs1 v J L n=>⟨aaI B n,t L (ds:=y.1) (S':=y.2) E _ λM H2 Fs2 vs s R2 O=>?_⟩
  exact hr (n.mono s.sh) O G λv P=>q _ _ _ v (J.trans s) R2 P
 .cases e
def AI:D->List D->Option D
 | .list ds,[.int k]=>(rB ds).bind λns=>if k∈ns then some (.int (ns.idxOf k:Nat))else none
 |_,_=>none
def Uk:BmD K (Vr K) AI:=by
 intro x E H Q G I d l s e q;unfold AI at e;split at e
 .rename_i J k;obtain⟨ns,t,e⟩:=oBq.mp e;split at e
  .rename_i hk;cases e;obtain⟨v,L,rfl,u,z⟩:=s.cons_inv;rw[z.nil_inv];cases u;rw[xh t]at l;obtain⟨p,us,rfl,n,B⟩:=l.list_inv;rw[sQ B]at n;exact⟨p,ns,k,rfl,rfl,rz.of n,hk,q _ .int⟩
  .cases e
 .cases e
def Pf(a:ME):ME:=λS=>(a S).bind λx=>match x.1 with
 | .list ds=>(uH ds).map λrs=>(.int (rs.countP (·=([]:Ϝ)):Nat),x.2)
 |_=>none
def XS(ha:SR K te a):SR K (Pu K "list" TZ te (uf (Ry vI) vI)) (Pf a):=by
 intro H₀ l Hf S σ H X d Y R e Q q;obtain⟨x,z,e⟩:=oBq.mp e;refine ha R (d:=x.1) (S':=x.2) z _ λB E Fs1 v G I s=>?_
 split at e
 .rename_i ds J;obtain⟨L,M,e⟩:=oMq.mp e;cases e;rw[J,ze M]at s;obtain⟨p,us,rfl,n,O⟩:=s.list_inv;obtain⟨P,rfl,t⟩:=ux O;refine⟨.inl ⟨rfl,_,rz.of n⟩,aT _,λb hb=>?_⟩
  obtain⟨u,U,n1,n2,n3⟩:=I.new (o:=.lst []) hb;refine⟨p,b,P,L,[],rfl,rfl,(by rw[oQ (qH n hb)];exact n),t.same u.sh,oS,t.free (H:=E) hb,q _ _ _ _ (G.trans u) U .int⟩
 .cases e
def Co:D->Option Bool
 | .non=>some false
 | .bl b=>some b
 | .int i=>some (i != 0)
 | .list ds=>some (!ds.isEmpty)
 | .tup ds=>some (!ds.isEmpty)
 | .dict ds=>some (!ds.isEmpty)
 |_=>none
def C5(a:ME):MT:=λS=>(a S).bind λx=>(Co x.1).map λb=>(b,x.2)
def A4{α β:Type}{xs:List α}{ys:List β}(h:xs.length=ys.length):(!xs.isEmpty) = !ys.isEmpty:=by
 cases xs <;> cases ys <;> simp at h ⊢
def acx(ha:SR K te a):Kp K (λσ H Q=>te σ H λx z=>∃k,XJ K x z k/\Q k z) (C5 a):=by
 intro H₀ u Hf S σ H L b M R e Q q;obtain⟨x,B,e⟩:=oBq.mp e;obtain⟨c,l,e⟩:=oMq.mp e;cases e;refine ha R (d:=x.1) (S':=x.2) B _ λE O Fs1 v G I n=>⟨_,?_,q _ _ _ G I⟩
 cases J:x.1 <;> rw[J]at l n <;> simp only[Co]at l
 all_goals first|(exfalso;simp at l;done)|skip
 .cases n;cases l;rfl
 .cases n;cases l;rfl
 .cases n;cases l;rfl
 .obtain⟨p,us,rfl,s,t⟩:=n.list_inv;cases l;exact .inl ⟨us,rz.of s,A4 t.1⟩
 .obtain⟨p,us,rfl,s,t⟩:=n.tup_inv;cases l;exact .inr (.inl ⟨us,Ej.of s,A4 t.1⟩)
 .obtain⟨p,us,rfl,s,t⟩:=n.dict_inv;cases l;exact .inr (.inr ⟨us,s,A4 t.len⟩)
end
def qg:AV->Θ->Option (List AV)
 | .ow l,[]=>some l
 | .ow l,j::js=>(l[j]?).bind λa=>qg a js
 |_,_=>none
def putAt:AV->Θ->List AV->AV
 | .ow _,[],as=>.ow as
 | .ow l,j::n,as=>match l[j]? with
  |some a=>.ow (l.set j (putAt a n as))
  |none=>.ow l
 |a,_,_=>a
def J2(H:Hp):V->Θ->V->Prop
 |v,[],w=>v=w
 |v,j::js,w=>∃p vs u,v = .ref p/\H p=some (.lst vs)/\vs[j]?=some u/\J2 H u js w
section
variable {K:Ζ}{H₀ Hf₀ Hf Hf' H H':Hp}{S S':AS}{σ:St}{Fs Fs':List Δ}
theorem Al:∀{Fs:List Δ}{F G:Δ}(i:Nat),Fs.flatten.Nodup->Fs[i]?=some G->F.Nodup->(∀p∈F,p∈G∨p∉Fs.flatten)->(Fs.set i F).flatten.Nodup
 | [],F,G,i,h,e,_,_=>by simp at e
 |E::Gs,F,G,0,h,e,hF,hd=>by
  simp at e;subst e;rw[dC,fCq,nAq];rw[fCq,nAq]at h;refine⟨hF,h.2.1,λa ha b hb e=>?_⟩
  subst e;rcases hd a ha with z|z
  .exact h.2.2 a z a hb rfl
  .exact z (by rw[fCq];exact aq _ hb)
 |E::Gs,F,G,i+1,h,e,hF,hd=>by
  rw[fg,fCq,nAq];rw[fCq,nAq]at h;have l:Gs[i]?=some G:=by simpa using e
  refine⟨h.1,Al i h.2.1 l hF λp n=>(hd p n).imp id λz m=>z (by rw[fCq];exact aq _ m),λa ha b hb e=>?_⟩
  subst e;rcases sv hb with q|q
  .rcases hd a q with z|z
   .exact h.2.2 a ha a (mFq.mpr ⟨G,mGq l,z⟩) rfl
   .exact z (by rw[fCq];exact bG _ ha)
  .exact h.2.2 a ha a q rfl
theorem GO:∀{Fs:List Δ}{F G:Δ}{i j:Nat}{p:Addr},Fs.flatten.Nodup->Fs[i]?=some F->Fs[j]?=some G->i≠j->p∈F->p∉G
 | [],F,G,i,j,p,_,e,_,_,_,_=>by simp at e
 |E::Es,F,G,0,0,p,h,e,f,n,_,_=>n rfl
 |E::Es,F,G,0,j+1,p,h,e,f,n,hp,m=>by
  simp at e;subst e;rw[fCq,nAq]at h;exact h.2.2 p hp p (mFq.mpr ⟨G,mGq (i:=j) (by simpa using f),m⟩) rfl
 |E::Es,F,G,i+1,0,p,h,e,f,n,hp,m=>by
  simp at f;subst f;rw[fCq,nAq]at h;exact h.2.2 p m p (mFq.mpr ⟨F,mGq (i:=i) (by simpa using e),hp⟩) rfl
 |E::Es,F,G,i+1,j+1,p,h,e,f,n,hp,m=>by
  rw[fCq,nAq]at h;exact GO h.2.1 (i:=i) (j:=j) (by simpa using e) (by simpa using f) (λz=>n (by rw[z])) hp m
theorem qa.path:∀{path:Θ}{M:AV}{v:V}{F:Δ}{as:List AV},qa K Hf H M v F->F.Nodup->qg M path=some as->∃p vs J,J2 H v path (.ref p)/\H p=some (.lst vs)/\Hf p=none/\pT K Hf H as vs J/\p∈F/\p∉J.flatten/\J.flatten.Nodup/\(∀q∈J.flatten,q∈F) /\
  ∀t s l,pT K Hf (qC H p (.lst s)) t s l->(p::l.flatten).Nodup->(∀q∈l.flatten,q∈J.flatten∨q∉F)->∃F',qa K Hf (qC H p (.lst s)) (putAt M path t) v F'/\F'.Nodup/\∀q∈F',q∈F∨q∈l.flatten
 | [],M,v,F,as,r,nd,e=>by
  cases M with
  |ow u=>
   cases e;obtain⟨p,vs,J,rfl,rfl,X,Y,E⟩:=r.ow_inv;have n:=ah.mp nd;refine⟨p,vs,J,rfl,X,Y,E,by simp,n.1,n.2,λq B=>mCo _ B,λt s l r' O _=>⟨p::l.flatten,qa.news oS Y r',O,λq B=>?_⟩⟩
   rcases ab.mp B with z|z
   .exact .inl (by rw[z];simp)
   .exact .inr z
  |_=>cases e
 |j::js,M,v,F,as,r,nd,e=>by
  cases M with
  |ow u=>
   obtain⟨a,e1,e2⟩:=oBq.mp (show(u[j]?).bind (λa=>qg a js)=some as from e)
   obtain⟨L,I,Gs0,rfl,rfl,X,Y,E⟩:=r.ow_inv;have n:=ah.mp nd;have Q:j<u.length:=(gSq.mp e1).1;have hv:I[j]?=some (I[j]'(E.1 ▸ Q)):=gEg _;have R:Gs0[j]?=some (Gs0[j]'(E.2.1 ▸ Q)):=gEg _;generalize I[j]'(E.1 ▸ Q)=vj at hv;generalize Gs0[j]'(E.2.1 ▸ Q)=Fj at R;have rj:=E.2.2 j a vj Fj e1 hv R;have ndj:Fj.Nodup:=aJ.sublist (aE (mGq R)) n.2;have sub:∀q∈Fj,q∈Gs0.flatten:=λq B=>qw R B
   obtain⟨p,vs,J,g1,g2,g3,g4,g5,g6,g6',g7,g8⟩:=qa.path rj ndj e2;have pne:L≠p:=λz=>n.1 (z ▸ sub p g5)
   refine⟨p,vs,J,⟨L,I,vj,rfl,X,hv,g1⟩,g2,g3,g4,mCo _ (sub p g5),g6,g6',λq B=>mCo _ (sub q (g7 q B)),λt s l r' O hd=>?_⟩
   obtain⟨F',k1,k2,k3⟩:=g8 t s l r' O λq B=>(hd q B).imp id λz m=>z (mCo _ (sub q m))
   have hF':∀q∈F',q∈Fj∨q∉Gs0.flatten:=λq B=>by
    rcases k3 q B with z|z
    .exact .inl z
    .rcases hd q z with y|y
     .exact .inl (g7 q y)
     .exact .inr λm=>y (mCo _ m)
   refine⟨L::(Gs0.set j F').flatten,?_,ah.mpr ⟨λm=>?_,Al j n.2 R k2 hF'⟩,λq B=>?_⟩
   .show qa K Hf (qC H p (.lst s)) (match u[j]? with|some a=>.ow (u.set j (putAt a js t))|none=>.ow u) (.ref L) _
    rw[e1];refine .ow (vs:=I) (by rw[oQ pne];exact X) Y (by rw[lZq];exact E.1) (by rw[lZq,lZq];exact E.2.1) λi b w G U q2 T=>?_
    rw[bQ]at U T
    by_cases P:j=i
    .subst P;rw[pB rfl,pB Q]at U;rw[pB rfl,pB (E.2.1 ▸ Q)]at T;rw[hv]at q2;cases U;cases q2;cases T;exact k1
    .rw[oZ P]at U T;exact(E.2.2 i b w G U q2 T).keepUpd λm=>GO n.2 R T P g5 m
   .rcases sv m with z|z
    .rcases k3 L z with y|y
     .exact n.1 (sub L y)
     .rcases hd L y with x|x
      .exact n.1 (sub L (g7 L x))
      .exact x (by simp)
    .exact n.1 z
   .rcases ab.mp B with z|z
    .exact .inl (by rw[z];simp)
    .rcases sv z with z|z
     .exact(k3 q z).imp (λy=>mCo _ (sub q y)) id
     .exact .inl (mCo _ z)
  |_=>cases e
def qj.turnAny(R:qj K H₀ Hf₀ Hf S σ H Fs){i:Nat}{B:AV}{p:Addr}{o:HO}{v:V}{F F':Δ}(s1:σ[i]?=some (some v))(s2:Fs[i]?=some F)(s:p∈F)(r:qa K Hf (qC H p o) B v F')(nd:F'.Nodup)
  (I:∀q∈F',H₀ q=none/\q∉(Fs.set i []).flatten):qj K H₀ Hf₀ Hf (S.set i (some B)) σ (qC H p o) (Fs.set i F'):=by
 have t:p∈Fs.flatten:=mFq.mpr ⟨F,mGq s2,s⟩;have pn:Hf p=none:=(R.mem t).2;have J:H₀ p=none:=R.fresh p t;have out:=vq R.nd s2 s;have L:qj K H₀ Hf₀ Hf (S.set i none) σ (qC H p o) (Fs.set i []):=by
  refine⟨by simp[R.len],by simp[R.lenF],λj a n=>?_,λj n=>?_,rX i R.nd aV (λp s=>by cases s),λp s=>R.fresh p (qV s),λb u e=>?_,λb u e=>?_,R.lim,R.sf⟩
  .rw[bQ]at n
   by_cases l:i=j
   .subst l;rw[pB rfl]at n;split at n <;> cases n
   .rw[oZ l]at n;obtain⟨w,G,M,E,q⟩:=R.rep j a n;refine⟨w,G,M,by rw[aF l];exact E,q.keep (.refl _) (λc x=>oQ λe=>out ?_) λc x=>(q.owned c x).2⟩
    subst e;exact mFq.mpr ⟨G,mGq (i:=j) (by rw[aF l];exact E),x⟩
  .rw[bQ]at n
   by_cases l:i=j
   .subst l;rw[pB rfl]at n;split at n
    .rename_i hi;rw[aS (R.lenF.symm ▸ hi)]
    .cases n
   .rw[oZ l]at n;rw[aF l];exact R.emp j n
  .rw[oQ λz=>by rw[z,pn]at e;cases e]
   exact R.sub b u e
  .rw[oQ λz=>by rw[z,J]at e;cases e]
   exact R.fr b u e
 exact L.again (F:=F) s1 r nd I
def qj.kill(R:qj K H₀ Hf₀ Hf S σ H Fs)(x:Nat):qj K H₀ Hf₀ Hf (S.set x none) σ H (Fs.set x []):=by
 refine⟨by simp[R.len],by simp[R.lenF],λj a n=>?_,λj n=>?_,rX x R.nd aV (λp s=>by cases s),λp s=>R.fresh p (qV s),R.sub,R.fr,R.lim,R.sf⟩
 .rw[bQ]at n
  by_cases l:x=j
  .subst l;rw[pB rfl]at n;split at n <;> cases n
  .rw[oZ l]at n;obtain⟨w,G,t,u,q⟩:=R.rep j a n;exact⟨w,G,t,by rw[aF l];exact u,q⟩
 .rw[bQ]at n
  by_cases l:x=j
  .subst l;rw[pB rfl]at n;split at n
   .rename_i hi;rw[aS (R.lenF.symm ▸ hi)]
   .cases n
  .rw[oZ l]at n;rw[aF l];exact R.emp j n
def qj.any(R:qj K H₀ Hf₀ Hf (S.set x none) σ H Fs)(v:V):qj K H₀ Hf₀ Hf (S.set x none) (σ.set x (some v)) H Fs where
 len:=by rw[R.len,lZq]
 lenF:=R.lenF
 rep:=λi n e=>by
  by_cases l:x=i
  .subst l;rw[bQ]at e;rw[pB rfl]at e;split at e <;> cases e
  .obtain⟨w,G,s,t,q⟩:=R.rep i n e;exact⟨w,G,by rw[aF l];exact s,t,q⟩
 emp:=R.emp
 nd:=R.nd
 fresh:=R.fresh
 sub:=R.sub
 fr:=R.fr
 lim:=R.lim
 sf:=R.sf
end
def UF(d:D):List AV->Option (List AV)
 | []=>some []
 | .ow as::r=>wH (as.length<qE) ((UF d r).map (.ow (as++[.sh d]) :: ·))
 |_=>none
def aac(i x:Nat)(d:D):MS:=λS=>if i=x∨S.length<=x then none else if d.scal=true then (qL S i).bind λl=>(UF d l).map λbs=>.nx ((S.set i (some (.ow bs))).set x none)else none
noncomputable abbrev aI(ns:Ϝ):AV:=.ow (ns.map λn=>.sh (.int n))
def Eu:List AV->Option Ϝ
 | []=>some []
 | .sh (.int i)::r=>(Eu r).map (i :: ·)
 |_=>none
def FW:List AV->Option Λ
 | []=>some []
 | .ow as::r=>(Eu as).bind λns=>(FW r).map (ns :: ·)
 |_=>none
theorem LC:∀{as:List AV}{ns:Ϝ},Eu as=some ns->as=ns.map λn=>.sh (.int n)
 | [],ns,h=>by cases h;rfl
 |a::as,ns,h=>by
  cases a with
  |sh d=>
   cases d with
   |int i=>
    obtain⟨t,l,s⟩:=oMq.mp (show(Eu as).map (i :: ·)=some ns from h)
    subst s;rw[LC l];rfl
   |_=>cases h
  |_=>cases h
theorem Lj:∀{as:List AV}{rs:Λ},FW as=some rs->as=rs.map aI
 | [],rs,h=>by cases h;rfl
 |a::as,rs,h=>by
  cases a with
  |ow l=>
   obtain⟨r,n,h⟩:=oBq.mp (show(Eu l).bind (λns=>(FW as).map (ns :: ·))=some rs from h)
   obtain⟨u,s,t⟩:=oMq.mp h;subst t;rw[Lj s,LC n];rfl
  |_=>cases h
@[simp] theorem Ri (ns:Ϝ):Eu (ns.map λn=>.sh (.int n))=some ns:=by
 induction ns with
 |nil=>rfl
 |cons n ns l=>show(Eu (ns.map λn=>.sh (.int n))).map (n :: ·)=_;rw[l];rfl
@[simp] theorem P8 (rs:Λ):FW (rs.map aI)=some rs:=by
 induction rs with
 |nil=>rfl
 |cons r rs l=>show(Eu (r.map λn=>.sh (.int n))).bind (λns=>(FW (rs.map aI)).map (ns :: ·))=_;rw[Ri,l];rfl
def Fw(k:MK):MK:=λS=>(k S).bind λx=>match x.1 with
 | .ow l=>(FW l).map λrs=>(.ow ((rY rs).map aI),x.2)
 |_=>none
section
variable {K:Ζ}{Hf H:Hp}
def NL{ns:Ϝ}{v:V}{F:Δ}(h:qa K Hf H (aI ns) v F):∃p,v = .ref p/\F=[p]/\H p=some (.lst (ns.map V.int))/\Hf p=none:=by
 obtain⟨p,l,s,rfl,rfl,t,u,x⟩:=h.ow_inv;have e:∀{ns:Ϝ}{l:List V}{s:List Δ},pT K Hf H (ns.map λn=>AV.sh (.int n)) l s->l=ns.map V.int/\s.flatten=[]:=by
  intro ns
  induction ns with
  |nil=>
   intro l s h;obtain⟨a,b⟩:=h.nil_inv;exact⟨a,by rw[b];rfl⟩
  |cons n ns z=>
   intro l s h;obtain⟨v,P,F,B,rfl,rfl,E,G⟩:=pT.cons_inv (a:=.sh (.int n)) h;obtain⟨I,J⟩:=E.sh_inv;subst I;cases J;obtain⟨L,g2⟩:=z G;rw[L];exact⟨rfl,by rw[fCq,g2];rfl⟩
 obtain⟨M,O⟩:=e x;rw[O];subst M;exact⟨p,rfl,rfl,t,u⟩
def aae{ns:Ϝ}{p:Addr}(l:H p=some (.lst (ns.map V.int)))(n:Hf p=none):qa K Hf H (aI ns) (.ref p) [p]:=by
 have:=qa.new (K:=K) (Hf:=Hf) (H:=H) (ds:=ns.map D.int) l n (vK ns);rw[←AB]at this;exact this
theorem Ba:∀{rs:Λ}{vs:List V}{l:List Δ},pT K Hf H (rs.map aI) vs l->∃ps,vs=ps.map V.ref/\l=ps.map (λp=>[p])/\qU H ps rs/\∀p∈ps,Hf p=none
 | [],vs,l,h=>by
  obtain⟨a,b⟩:=h.nil_inv;exact⟨[],a,b,.nil,λp n=>by cases n⟩
 |r::rs,vs,l,h=>by
  obtain⟨v,I,F,s,rfl,rfl,t,u⟩:=pT.cons_inv (a:=aI r) (as:=rs.map aI) h;obtain⟨p,rfl,rfl,x,z⟩:=NL t;obtain⟨ps,rfl,rfl,B,E⟩:=Ba u;exact⟨p::ps,rfl,rfl,qU.cons_iff.mpr ⟨x,B⟩,λq G=>(ab.mp G).elim (λe=>e ▸ z) (E q)⟩
theorem Ha:∀{rs:Λ}{ps:Δ},qU H ps rs->(∀p∈ps,Hf p=none)->pT K Hf H (rs.map aI) (ps.map V.ref) (ps.map λp=>[p])
 | [],[],_,_=>.nil
 | [],_::_,h,_=>by have:=h.length;simp at this
 |_::_,[],h,_=>by have:=h.length;simp at this
 |r::rs,p::ps,h,n=>by
  obtain⟨l,s⟩:=qU.cons_iff.mp h;exact .cons (aae l (n p (by simp))) (Ha s λq t=>n q (mCo _ t))
def Le(ps:Δ):(ps.map λp=>[p]).flatten=ps:=by
 induction ps with
 |nil=>rfl
 |cons p ps l=>rw[ai,fCq,l];rfl
def Q8{te:TE}{k:MK}(hk:SK K te k):SK K (tCB (λxs H Q=>∃(a:Addr) (ps:Δ) (rs:Λ),xs=[.ref a]/\rz K H a (ps.map V.ref)/\qU H ps rs /\
  ∀p l,H p=none->l.Perm ps->qU (qC H p (.lst (l.map V.ref))) l (rY rs)->Q (.ref p) (qC H p (.lst (l.map V.ref)))) (uf te vI)) (Fw k):=by
 intro H₀ u Hf S σ H Fs av S' R e Q q;obtain⟨x,O,e⟩:=oBq.mp e;refine hk R (a:=x.1) (S':=x.2) O _ λP T Fs1 v F I U J s=>?_
 split at e
 .rename_i X Y;obtain⟨rs,e2,e⟩:=oMq.mp e;cases e;rw[Y,Lj e2]at J;obtain⟨L,vs,Gs,rfl,rfl,h1,h2,h3⟩:=J.ow_inv;obtain⟨ps,rfl,rfl,M,hn⟩:=Ba h3;rw[Le]at s;refine⟨L,ps,rs,rfl,rz.of h1,M,λp l B t E=>?_⟩
  obtain⟨t4,R4,n1,n2,n3⟩:=U.new (o:=.lst (l.map V.ref)) B;have pq:p∉l:=λm=>M.free (H:=T) B (t.mem_iff.mp m)
  have G:∀z∈l,z∈L::ps:=λz n=>mCo _ (t.mem_iff.mp n)
  refine q _ _ _ (.ref p) (p::(l.map λp=>[p]).flatten) (I.trans t4) R4 (qa.news oS n1 (Ha E λz n=>hn z (t.mem_iff.mp n))) ?_
  rw[Le];refine⟨ah.mpr ⟨pq,t.nodup_iff.mpr (ah.mp s.nd).2⟩,λz n=>?_,λz n=>?_,λz n=>?_⟩
  .rcases ab.mp n with y|y
   .rw[y];exact n2
   .exact s.fr z (G z y)
  .rcases ab.mp n with y|y
   .rw[y];exact n3
   .exact s.out z (G z y)
  .rcases ab.mp n with y|y
   .rw[y];exact .inl (I.sh.free B)
   .exact s.new z (G z y)
 .cases e
def QN:AV->Option D
 | .sh d=>if d.scal=true then some d else none
 |_=>none
def qP(f:MF)(a:ML):ME:=λS=>(a S).bind λx=>(f x.1).bind λr=>(QN r).map λd=>(d,x.2)
def Xj{f:MF}{u:TA}{a:ML}(ha:W6 K u a):SR K (GR (qo K f) [] E0 u) (qP f a):=by
 intro H₀ t Hf S σ H Y d S' R e Q q;obtain⟨x,G,e⟩:=oBq.mp e;obtain⟨r,I,e⟩:=oBq.mp e;obtain⟨z,n,e⟩:=oMq.mp e;cases e;refine ha R (ds:=x.1) (S':=x.2) G _ λs B Fs1 vs J L M=>?_
 rw[aNq];refine⟨B,x.1,r,.refl _,M,I,λO P v F s1 E s3 l T nd fr=>?_⟩
 have U:AM s B Fs1 s P Fs1:=⟨.refl _,E,λ_ h=>h,λb h g=>absurd h g⟩
 cases r with
 |sh d'=>
  simp only[QN]at n;split at n
  .rename_i X;cases n;exact q _ _ _ v (J.trans U) (L.laid E) (T.sh_inv.2.scal X)
  .cases n
 |_=>cases n
end
section
variable (S:AS)
@[simp] theorem ady (i:Nat):oj i S=(S[i]?.join).map λa=>(oB a,S):=rfl
@[simp] theorem adR (i:Nat):oy i S=(S[i]?.join).map λa=>(.sh (oB a),S.set i (some (.sh (oB a)))):=rfl
@[simp] theorem adD (i:Nat):EV i S=(S[i]?.join).map λa=>(a,S.set i none):=rfl
@[simp] theorem afb (k:MK):rOf k S=(k S).map λx=>(oB x.1,x.2):=rfl
@[simp] theorem af3 (m:ME):kSc m S=(m S).bind λx=>if x.1.scal then some (.sh x.1,x.2)else none:=rfl
@[simp] theorem ad5 (k:MK):uR k S=(k S).map λx=>(.sh (oB x.1),x.2):=rfl
@[simp] theorem rC_ (d:D):rC d S=if d.scal then some (d,S)else none:=rfl
@[simp] theorem afA (f:D->D->Option D)(a b:ME):oV f a b S=(a S).bind λx=>(b x.2).bind λy=>(f x.1 y.1).map λd=>(d,y.2):=rfl
@[simp] theorem af4 (f:D->Option D)(a:ME):Ak f a S=(a S).bind λx=>(f x.1).map λd=>(d,x.2):=rfl
@[simp] theorem adv (a:ME):aai a S=(a S).bind λx=>(Rc x.1).map λd=>(d,x.2):=rfl
@[simp] theorem abo (a b:MT):Lh a b S=(a S).bind λx=>if x.1=true then b x.2 else some (false,x.2):=rfl
@[simp] theorem aen (a b:MT):Oc a b S=(a S).bind λx=>if x.1=true then some (true,x.2)else b x.2:=rfl
@[simp] theorem acr (a:MT):vD a S=(a S).map λx=>(!x.1,x.2):=rfl
def abu:D->Option Bool
 | .bl b=>some b
 |_=>none
@[simp] theorem afk (a:ME):rA a S=(a S).bind λx=>(abu x.1).map λb=>(b,x.2):=by
 show(a S).bind _=_;congr 1;funext x;obtain⟨d,l⟩:=x;cases d <;> rfl
@[simp] theorem adU (a b:ME):Rh a b S=(a S).bind λx=>(abu x.1).bind λc=>if c=true then b x.2 else some (.bl false,x.2):=by
 show(a S).bind _=_;congr 1;funext x;obtain⟨d,l⟩:=x;cases d <;> try rfl
 rename_i c;cases c <;> rfl
@[simp] theorem Xb (b:Bool):abu (.bl b)=some b:=rfl
@[simp] theorem adG:oC S=some ([],S):=rfl
@[simp] theorem abw (k:MK)(r:MA):om k r S=(k S).bind λx=>(r x.2).map λy=>(x.1::y.1,y.2):=rfl
@[simp] theorem abh:ox S=some ([],S):=rfl
@[simp] theorem XE (k:ME)(r:ML):oi k r S=(k S).bind λx=>(r x.2).map λy=>(x.1::y.1,y.2):=rfl
@[simp] theorem adn (a:MA):qF a S=(a S).bind λx=>wH (x.1.length<=qE) (some (.ow x.1,x.2)):=rfl
@[simp] theorem ac1 (a:MA):Av a S=(a S).bind λx=>wH (x.1.length<=qE) (some (.sh (.tup (x.1.map oB)),x.2)):=rfl
@[simp] theorem aeb (a b:ML):BP a b S=(a S).bind λx=>(b x.2).bind λy=>wH (x.1.length+y.1.length<=qE) (some (.ow ((x.1++y.1).map .sh),y.2)):=rfl
@[simp] theorem aax:Ap S=some (none,S):=rfl
@[simp] theorem ZV (m:ME):wK m S=(m S).bind λx=>(intOf x.1).map λi=>(some i,x.2):=by
 show(m S).bind _=_;congr 1;funext x;obtain⟨d,l⟩:=x;cases d <;> rfl
@[simp] theorem Q3 (i:Int):intOf (.int i)=some i:=rfl
@[simp] theorem afH (l:ML)(lo hi:MO):Ot l lo hi S=(l S).bind λx=>(lo x.2).bind λy=>(hi y.2).map λz=>(.ow ((xa x.1 y.1 z.1).map .sh),z.2):=rfl
@[simp] theorem afN (l:ML)(b:ME):RB l b S=(l S).bind λx=>(b x.2).bind λy=>(intOf y.1).bind λi=>(atI x.1 i).map λd=>(.sh d,y.2):=by
 show(l S).bind _=_;congr 1;funext x;show(b x.2).bind _=_;congr 1;funext y;obtain⟨d,n⟩:=y;cases d <;> rfl
@[simp] theorem afr (f:List D->Option D)(a:ML):tT f a S=(a S).bind λx=>(f x.1).map λd=>(d,x.2):=rfl
@[simp] theorem aad (f:MF)(a:MA):oJ f a S=(a S).bind λx=>(f (x.1.map oB)).map λr=>(r,x.2):=rfl
@[simp] theorem aba (f:MF)(a:ML):qP f a S=(a S).bind λx=>(f x.1).bind λr=>(QN r).map λd=>(d,x.2):=rfl
@[simp] theorem abN:pH S=some (.nx S):=rfl
@[simp] theorem YM:AF S=none:=rfl
def U2(o:Option PM)(b:MS):Option PM:=o.bind λo=>match o with
 | .nx S'=>b S'
 |o=>some o
@[simp] theorem Tv (b:MS):U2 (some (.nx S)) b=b S:=rfl
@[simp] theorem RW (a:AV)(b:MS):U2 (some (.rt a)) b=some (.rt a):=rfl
@[simp] theorem aew (a b:MS):oz a b S=U2 (a S) b:=rfl
@[simp] theorem aez (i:Nat)(k:MK):oN i k S=(k S).map λx=>.nx (x.2.set i (some x.1)):=rfl
@[simp] theorem ZN (k:MK):Vp k S=(k S).map λx=>.nx x.2:=rfl
@[simp] theorem adh (k:MK):pZ k S=(k S).map λx=>.rt x.1:=rfl
@[simp] theorem aff (c:MT)(a b:MS):wk c a b S=(c S).bind λx=>if x.1=true then a x.2 else b x.2:=rfl
@[simp] theorem adx (i:Nat)(k:MK):yN i k S=(qL S i).bind λ_=>(k S).bind λx=>(qL x.2 i).bind λl=>wH (l.length<qE) (some (.nx (x.2.set i (some (.ow (l++[x.1])))))):=rfl
@[simp] theorem ad2 (i:Nat)(l:ML):N4 i l S=(qL S i).bind λ_=>(l S).bind λx=>(qL x.2 i).bind λn=>wH (n.length+x.1.length<=qE) (some (.nx (x.2.set i (some (.ow (n++x.1.map .sh)))))):=rfl
@[simp] theorem abb (i:Nat)(b:ME)(k:MK):yG i b k S=(uR k S).bind λx=>(wL x.2 i).bind λ_=>(b x.2).bind λy=>(wL y.2 i).bind λkvs=>(we y.1).bind λkey=>
 wH (kvs.length<qE) (some (.nx (y.2.set i (some (.owd (Ax kvs key (oB x.1))))))):=rfl
def dictOf:D->Option (List (pE×D))
 | .dict kvs=>some kvs
 |_=>none
@[simp] theorem KS (kvs:List (pE×D)):dictOf (.dict kvs)=some kvs:=rfl
@[simp] theorem QC (i:Int):we (.int i)=some (.inl i):=rfl
@[simp] theorem RU (a b:ME):sZ a b S=(a S).bind λx=>(b x.2).bind λy=>(dictOf y.1).bind λkvs=>(we x.1).map λkey=>(.bl (!(getD kvs key).isSome),y.2):=by
 show(a S).bind _=_;congr 1;funext x;show(b x.2).bind _=_;congr 1;funext y;obtain⟨d,l⟩:=y;cases d <;> rfl
@[simp] theorem Z1 (a b:ME):IR a b S=(a S).bind λx=>(b x.2).bind λy=>(dictOf x.1).bind λkvs=>(we y.1).bind λkey=>(getD kvs key).map λd=>(d,y.2):=by
 show(a S).bind _=_;congr 1;funext x;show(b x.2).bind _=_;congr 1;funext y;obtain⟨d,l⟩:=x;cases d <;> rfl
@[simp] theorem aag:yB S=some (.owd [],S):=rfl
@[simp] theorem ac6 (x:Nat)(k:MK)(body:MS):A5 x k body S=(uR k S).bind λy=>(sD (oB y.1)).bind λds=>qR x body ds y.2:=rfl
@[simp] theorem Wz (x:Nat)(a:ML)(body:MS):AY x a body S=(a S).bind λy=>(Ht y.1).bind λds=>qR x body ds y.2:=rfl
@[simp] theorem ab8 (x y:Nat)(k:MK)(body:MS):TK x y k body S=(uR k S).bind λz=>(sD (oB z.1)).bind λds=>Ed x y body 0 ds z.2:=rfl
@[simp] theorem Z3 (x y:Nat)(k l:MK)(body:MS):Uu x y k l body S=(uR k S).bind λz=>(uR l z.2).bind λw=>(sD (oB z.1)).bind λds=>(sD (oB w.1)).bind λes=>
 if ds.length=es.length then Cg x y body ds es w.2 else none:=rfl
@[simp] theorem aaG (l:MI)(fr:Θ)(tf:MT)(te:MK):tj l fr tf te S=(l S).bind λy=>(fzAll fr y.2).bind λs=>(Hq s fr).bind λcap=>wH (y.1.length<=qE) ((rm tf te cap y.1).map λn=>(.ow n,s)):=rfl
@[simp] theorem aer (k:MK):Bh k S=(uR k S).bind λy=>(sD (oB y.1)).map λds=>(ds,y.2):=rfl
@[simp] theorem afd (a:ML):Zb a S=(a S).bind λy=>(Ht y.1).map λds=>(ds,y.2):=rfl
@[simp] theorem Rx:fzAll [] S=some S:=rfl
@[simp] theorem MQ (j:Nat)(l:Θ):fzAll (j::l) S=(S[j]?.join).bind λa=>fzAll l (S.set j (some (.sh (oB a)))):=rfl
@[simp] theorem Tr:Hq S []=some []:=rfl
@[simp] theorem PZ (j:Nat)(l:Θ):Hq S (j::l)=(abK S[j]?.join).bind λa=>(Hq S l).map (some a :: ·):=rfl
@[simp] theorem aaX (l:ML):Am l S=(l S).map λx=>(.ow (x.1.map .sh),x.2):=rfl
@[simp] theorem Yw (l:ML):M9 l S=(l S).bind λx=>(rB x.1).map λns=>(.ow ((uk ns).map λn=>.sh (.int n)),x.2):=rfl
def acC:AV->Option (List AV)
 | .ow l=>some l
 |_=>none
@[simp] theorem Yt (l:List AV):acC (.ow l)=some l:=rfl
@[simp] theorem T9 (k:MK):Fw k S=(k S).bind λx=>(acC x.1).bind λl=>(FW l).map λrs=>(.ow ((rY rs).map aI),x.2):=by
 show(k S).bind _=_;congr 1;funext x;obtain⟨d,n⟩:=x;cases d <;> rfl
@[simp] theorem afc (T:String)(f:D->List D->Option D)(a:ME)(as:ML):rBM T f a as S=(a S).bind λx=>if tyD T x.1=true then (as x.2).bind λy=>(f x.1 y.1).map λd=>(d,y.2)else none:=rfl
def Ks:D->Option (List D)
 | .list ds=>some ds
 |_=>none
@[simp] theorem Mz (ds:List D):Ks (.list ds)=some ds:=rfl
@[simp] theorem aar (a:ME):Pf a S=(a S).bind λx=>(Ks x.1).bind λds=>(uH ds).map λrs=>(.int (rs.countP (·=([]:Ϝ)):Nat),x.2):=by
 show(a S).bind _=_;congr 1;funext x;obtain⟨d,l⟩:=x;cases d <;> rfl
@[simp] theorem adF (a:ME):C5 a S=(a S).bind λx=>(Co x.1).map λb=>(b,x.2):=rfl
def lsA:AV->Option (List D)
 | .sh (.list ds)=>some ds
 | .ow l=>some (l.map oB)
 |_=>none
@[simp] theorem aci (ds:List D):lsA (.sh (.list ds))=some ds:=rfl
@[simp] theorem aas (l:List AV):lsA (.ow l)=some (l.map oB):=rfl
@[simp] theorem afh (k:MK):lOf k S=(k S).bind λx=>(lsA x.1).map λds=>(ds,x.2):=by
 show(k S).bind _=_;congr 1;funext x;obtain⟨a,l⟩:=x;cases a with
 |sh d=>cases d <;> rfl
 |_=>rfl
end
@[simp] theorem RG (ds:List D):(ds.map AV.sh).map oB=ds:=by
 rw[mPq];have:oB∘AV.sh=id:=by funext d;simp
 rw[this,de]
def hlf:AV->AV
 | .ow l=>.ow ((l.map oB).map .sh)
 |a=>a
@[simp] theorem acL (d:D):hlf (.sh d) = .sh d:=rfl
@[simp] theorem aaH (l:List AV):hlf (.ow l) = .ow ((l.map oB).map .sh):=rfl
noncomputable def Gw{S:AS}{i:Nat}{a:AV}(h:S[i]?=some (some a)):S.set i (some a)=S:=by
 obtain⟨hk,l⟩:=gSq.mp h;rw[←l];exact fI hk
@[simp] theorem adk (S:AS)(i:Nat):Au i S=(S[i]?.join).bind λa=>(lsA a).map λds=>(ds,S.set i (some (hlf a))):=by
 unfold Au;cases e:S[i]?.join with
 |none=>rfl
 |some a=>
  cases a with
  |sh d=>
   cases d with
   |list ds=>
    show some (ds,S)=some (ds,S.set i (i5 ds));rw[Gw (qh e)]
   |_=>rfl
  |ow n=>rfl
  |owd l=>rfl
  |owl l=>rfl
def lsQ:AV->Option (List D)
 | .sh (.scr ns)=>some (ns.map .int)
 |a=>lsA a
@[simp] theorem WE (ns:Ϝ):lsQ (.sh (.scr ns))=some (ns.map .int):=rfl
@[simp] theorem Z9 (ds:List D):lsQ (.sh (.list ds))=some ds:=rfl
@[simp] theorem abZ (l:List AV):lsQ (.ow l)=some (l.map oB):=rfl
@[simp] theorem aeI (S:AS)(i:Nat):uj i S=(S[i]?.join).bind λa=>(lsQ a).map λds=>(ds,S.set i (some (hlf a))):=by
 unfold uj;cases e:S[i]?.join with
 |none=>rfl
 |some a=>
  cases a with
  |sh d=>
   cases d with
   |list ds=>
    show some (ds,S)=some (ds,S.set i (i5 ds));rw[Gw (qh e)]
   |scr ns=>
    show some (ns.map D.int,S)=some (ns.map D.int,S.set i (some (.sh (.scr ns))));rw[Gw (qh e)]
   |_=>rfl
  |ow n=>rfl
  |owd l=>rfl
  |owl l=>rfl
@[simp] theorem Sd (i:Int):(D.int i).scal=true:=rfl
@[simp] theorem W9 (i:Bool):(D.bl i).scal=true:=rfl
@[simp] theorem Th (i:Str):(D.str i).scal=true:=rfl
@[simp] theorem Vx:D.non.scal=true:=rfl
@[simp] theorem Wx (i:String):(D.ty i).scal=true:=rfl
@[simp] theorem U8 (i:Int):QN (.sh (.int i))=some (.int i):=rfl
@[simp] theorem W4 (i:Bool):QN (.sh (.bl i))=some (.bl i):=rfl
@[simp] theorem Tc:QN (.sh .non)=some .non:=rfl
@[simp] theorem WM (i j:Int):GP (.int i) (.int j)=some (.bl (decide (i=j))):=rfl
@[simp] theorem W0 (i j:Str):GP (.str i) (.str j)=some (.bl (decide (i=j))):=rfl
@[simp] theorem WI (b:Bool):Rc (.bl b)=some (.bl (!b)):=rfl
@[simp] theorem Xp (i j:Int):Yz (.int i) (.int j)=some (.bl (!decide (i=j))):=rfl
@[simp] theorem Rq (ds:List D):qM [.list ds]=some (.int ds.length):=rfl
@[simp] theorem VD (ns:Ϝ):qM [.scr ns]=some (.int ns.length):=rfl
@[simp] theorem T1 (ds:List D):qM [.tup ds]=some (.int ds.length):=rfl
@[simp] theorem IT (i j:Int):EC [.int i,.int j]=some (.int (if j<i then j else i)):=rfl
@[simp] theorem Jb (ds:List D):sD (.list ds)=some ds:=rfl
@[simp] theorem Vq (ds:List D)(i:Int):zh (.list ds) (.int i)=atI ds i:=rfl
@[simp] theorem XD (ns:Ϝ)(i:Int):zh (.scr ns) (.int i)=(atI ns i).map .int:=rfl
@[simp] theorem Xl (d:D):abK (some (.sh d))=some (.sh d):=rfl
@[simp] theorem UJ (ds:List D):tyD "list" (.list ds)=true:=rfl
def WB(S:AS)(i:Nat):qL S i=(S[i]?.join).bind acC:=by
 unfold qL;cases S[i]?.join with
 |none=>rfl
 |some a=>cases a <;> rfl
def Zg:AV->Option (List (pE×D))
 | .owd kvs=>some kvs
 |_=>none
@[simp] theorem QL (kvs:List (pE×D)):Zg (.owd kvs)=some kvs:=rfl
def U9(S:AS)(i:Nat):wL S i=(S[i]?.join).bind Zg:=by
 unfold wL;cases S[i]?.join with
 |none=>rfl
 |some a=>cases a <;> rfl
theorem LV{x:Nat}{body:MS}(P:Nat->AS->Prop):∀{ds:List D}{S:AS}{k:Nat},P k S->(∀i d S,ds[i]?=some d->P (k+i) S->∃S',(body (S.set x (some (.sh d)))=some (.nx S')∨body (S.set x (some (.sh d)))=some (.ct S'))/\P (k+i+1) S')->∃S',qR x body ds S=some (.nx S')/\P (k+ds.length) S'
 | [],S,k,l,_=>⟨S,rfl,l⟩
 |d::ds,S,k,l,hs=>by
  obtain⟨S',e,s⟩:=hs 0 d S rfl l;have n:∀i d S,ds[i]?=some d->P (k+1+i) S->∃S',(body (S.set x (some (.sh d)))=some (.nx S')∨body (S.set x (some (.sh d)))=some (.ct S'))/\P (k+1+i+1) S':=λi d S h p=>by
   have:=hs (i+1) d S (by simpa using h) (by rw[show k+(i+1)=k+1+i by lia];exact p)
   rw[show k+(i+1)=k+1+i by lia]at this
   exact this
  obtain⟨t,u,z⟩:=LV P (k:=k+1) s n;refine⟨t,?_,by rw[lCq,show k+(ds.length+1)=k+1+ds.length by lia];exact z⟩
  show(body _).bind _=_;rcases e with e|e <;> (rw[e];exact u)
def uQ{x:Nat}{body:MS}(P:Nat->AS->Prop){ds:List D}{S:AS}(l:P 0 S)(n:∀i d S,ds[i]?=some d->P i S->∃S',body (S.set x (some (.sh d)))=some (.nx S')/\P (i+1) S'):∃S',qR x body ds S=some (.nx S')/\P ds.length S':=by
 have:=LV (x:=x) (body:=body) P (ds:=ds) (k:=0) l λi d S h p=>by
  rw[bC]at p ⊢;obtain⟨S',e,q⟩:=n i d S h p;exact⟨S',.inl e,q⟩
 rw[bC]at this;exact this
theorem Zx{x y:Nat}{body:MS}(P:Nat->AS->Prop):∀{ds:List D}{S:AS}{k:Nat},P k S->(∀i d S,ds[i]?=some d->P (k+i) S->∃S',body ((S.set x (i0 (k+i:Nat))).set y (some (.sh d)))=some (.nx S')/\P (k+i+1) S')->∃S',Ed x y body k ds S=some (.nx S')/\P (k+ds.length) S'
 | [],S,k,l,_=>⟨S,rfl,l⟩
 |d::ds,S,k,l,hs=>by
  obtain⟨S',e,s⟩:=hs 0 d S rfl l;have n:∀i d S,ds[i]?=some d->P (k+1+i) S->∃S',body ((S.set x (i0 (k+1+i:Nat))).set y (some (.sh d)))=some (.nx S')/\P (k+1+i+1) S':=λi d S h p=>by
   have:=hs (i+1) d S (by simpa using h) (by rw[show k+(i+1)=k+1+i by lia];exact p)
   rw[show k+(i+1)=k+1+i by lia]at this
   exact this
  obtain⟨t,u,z⟩:=Zx P (k:=k+1) s n;refine⟨t,?_,by rw[lCq,show k+(ds.length+1)=k+1+ds.length by lia];exact z⟩
  show(body ((S.set x (i0 (k:Nat))).set y (some (.sh d)))).bind _=_;rw[iN]at e;rw[e];exact u
theorem Zn{x y:Nat}{body:MS}(P:Nat->AS->Prop):∀{ds es:List D}{S:AS}{k:Nat},ds.length=es.length->P k S->(∀i d e S,ds[i]?=some d->es[i]?=some e->P (k+i) S->∃S',body ((S.set x (some (.sh d))).set y (some (.sh e)))=some (.nx S')/\P (k+i+1) S')->∃S',Cg x y body ds es S=some (.nx S')/\P (k+ds.length) S'
 | [],[],S,k,_,l,_=>⟨S,rfl,l⟩
 | [],_::_,S,k,hl,_,_=>by simp at hl
 |_::_,[],S,k,hl,_,_=>by simp at hl
 |d::ds,b::es,S,k,hl,l,hs=>by
  obtain⟨S',e,s⟩:=hs 0 d b S rfl rfl l;have n:∀i d e S,ds[i]?=some d->es[i]?=some e->P (k+1+i) S->∃S',body ((S.set x (some (.sh d))).set y (some (.sh e)))=some (.nx S')/\P (k+1+i+1) S':=λi d e S h t p=>by
   have:=hs (i+1) d e S (by simpa using h) (by simpa using t) (by rw[show k+(i+1)=k+1+i by lia];exact p)
   rw[show k+(i+1)=k+1+i by lia]at this
   exact this
  obtain⟨u,z,B⟩:=Zn P (k:=k+1) (by simpa using hl) s n
  refine⟨u,?_,by rw[lCq,show k+(ds.length+1)=k+1+ds.length by lia];exact B⟩
  show(body _).bind _=_;rw[e];exact z
theorem um{te:MK}{cap:AS}(g:D->AV):∀{ds:List D},(∀d∈ds,∃S',te (some (.sh d)::cap)=some (g d,S'))->rm rZ te cap ds=some (ds.map g)
 | [],_=>rfl
 |d::ds,h=>by
  obtain⟨S',e⟩:=h d (by simp)
  show(te (some (.sh d)::cap)).bind (λa=>(rm rZ te cap ds).map (a.1 :: ·))=_
  rw[e,um g λx l=>h x (mCo _ l)]
  rfl
theorem uN{tf:MT}{te:MK}{cap:AS}(p:D->Bool)(g:D->AV):∀{ds:List D},(∀d∈ds,∃l,tf (some (.sh d)::cap)=some (p d,l)/\(p d=true->∃S',te l=some (g d,S')))->rm tf te cap ds=some ((ds.filter p).map g)
 | [],_=>rfl
 |d::ds,h=>by
  obtain⟨l,s,t⟩:=h d (by simp)
  have n:=uN (tf:=tf) (te:=te) (cap:=cap) p g λx u=>h x (mCo _ u)
  show(tf (some (.sh d)::cap)).bind _=_;rw[s];show(if p d=true then _ else _)=_
  by_cases c:p d=true
  .obtain⟨S',z⟩:=t c;rw[pB c,z,bU c];show(rm tf te cap ds).map _=_;rw[n];rfl
  .rw[oZ c,bO c,n]
def uo{α β:Type}(f:α->β)(xs:List α)(lo hi:Option Int):xa (xs.map f) lo hi=(xa xs lo hi).map f:=by
 unfold xa;rw[lMq,iD,List.map_drop]
def Ek{α:Type}(xs:List α)(i:Nat)(h:i<=xs.length):xa xs (some (i:Int)) none=xs.drop i:=by
 unfold xa;rw[HT.BH,HT.Dm,dG h,bR (by rw[ax];exact aa _)]
def Ft{α:Type}(xs:List α)(i:Nat)(h:i<=xs.length):xa xs none (some (i:Int))=xs.take i:=by
 unfold xa;rw[HT.BH,HT.Dm,dG h,eT,jA]
def UM{α:Type}(xs:List α)(i j:Nat):xa xs (some (i:Int)) (some (j:Int))=(xs.drop i).take (j-i):=by
 unfold xa;rw[HT.BH,HT.BH]
 by_cases h:i<=xs.length
 .rw[dG h]
  by_cases l:j<=xs.length
  .rw[dG l]
  .rw[fJ (by lia),bR (by rw[ax];exact aa _),bR (by rw[ax];lia)]
 .have e:min i xs.length=xs.length:=fJ (by lia)
  rw[e,dk (aa xs.length),dk (show xs.length<=i by lia)]
  simp
def Jj{α:Type}{xs:List α}{i:Int}(l:0<=i):atI xs i=xs[i.toNat]?:=by
 unfold atI Je;rw[pB l]
 by_cases h:i<xs.length
 .rw[pB h];rfl
 .rw[oZ h,bK (by lia)]
  rfl
def Xu{α β:Type}(f:α->β)(xs:List α)(i:Int):atI (xs.map f) i=(atI xs i).map f:=by
 unfold atI;rw[lMq];cases Je xs.length i with
 |none=>rfl
 |some j=>show(xs.map f)[j]?=_;rw[gMq];rfl
def Pd{n:Nat}{i:Nat}(h:i<n):Je n (i:Int)=some i:=by
 unfold Je;rw[pB (by lia),pB (by lia)]
 simp
noncomputable def C6(ns:Ϝ):(ns.map D.int).map AV.sh=ns.map λn=>AV.sh (.int n):=by rw[mPq];rfl
def Jt(ns:Ϝ):(ns.map λn=>AV.sh (.int n)).map oB=ns.map D.int:=by rw[mPq];exact mCq λn _=>by simp
def vU(rs:Λ):(rs.map aI).map oB=rs.map dI:=by
 rw[mPq];refine mCq λr _=>?_
 show oB (.ow (r.map λn=>AV.sh (.int n)))=_
 rw[rJ,Jt]
def Og(rs:Λ):(rs.map dI).map AV.sh=rs.map λr=>AV.sh (dI r):=by rw[mPq];rfl
def J5(rs:Λ):(rs.map λr=>AV.sh (dI r)).map oB=rs.map dI:=by rw[mPq];exact mCq λn _=>by simp
def pV(ns:Ϝ):oB (aI ns)=dI ns:=by
 show oB (.ow (ns.map λn=>AV.sh (.int n)))=_
 rw[rJ,Jt]
def YQ(i j:Int):uJ (.int i) (.int j)=some (.int (i+j)):=yZ _
def W3(i j:Int):GF (.int i) (.int j)=some (.int (i-j)):=yZ _
def aby(i j:Int):M0 (.int i) (.int j)=some (.bl (decide (i<j))):=yZ _
def ZS(i j:Int):Lu (.int i) (.int j)=some (.bl (decide (j<i))):=yZ _
noncomputable def ZT(i:Int):vz (.int i)=some (.int (-i)):=rfl
def p58:E5 (.int 10) (.int 58)=some (.int (10 ^ 58)):=vS ⟨by decide,by decide,by decide⟩ _
def p59:E5 (.int 10) (.int 59)=some (.int (10 ^ 59)):=vS ⟨by decide,by decide,by decide⟩ _
def p57:E5 (.int 10) (.int 57)=some (.int (10 ^ 57)):=vS ⟨by decide,by decide,by decide⟩ _
def SJ{i j:Int}(l:-(2 ^ 64)<i)(n:i<2 ^ 64):D4 (.int i) (.int j)=some (.int (i*j)):=vS (.inl ⟨l,n⟩) _
def adX{i j:Int}(l:-(2 ^ 64)<j)(n:j<2 ^ 64):D4 (.int i) (.int j)=some (.int (i*j)):=vS (.inr ⟨l,n⟩) _
def tP{i j:Int}(h:0<j):ur (.int i) (.int j)=some (.int (i % j)):=vS h _
def Aa{i j:Int}(h:0<j)(l:j<1073741824):CL (.int i) (.int j)=some (.int (i / j)):=vS ⟨h,l⟩ _
def adb:(0:Nat)<=qE:=by decide
def adq:(1:Nat)<=qE:=by decide
def ad6:(2:Nat)<=qE:=by decide
def ac9:(3:Nat)<=qE:=by decide
def aeE:(5:Nat)<=qE:=by decide
def rP{n:Nat}(h:n<=16777216):n<=qE:=h
def RZ{n:Nat}(h:n<16777216):n<qE:=h
def vn{n:Nat}(h:n<1000000):Ht [.int (n:Int)]=some (qd 0 n):=by
 have e:Ht [.int (n:Int)]=some (qd 0 (n:Int).toNat):=vS ⟨by lia,by lia⟩ _
 rw[e,cu]
def Bf(n:Nat):qd 0 n=(bI n).map λi:Nat=>D.int i:=by
 unfold qd;exact mCq λi _=>by rw[iR]
def aey(l n:Nat)(m:MS)(ds:List D):qK l n m ds=if ds.length=l then (m (ds.map (λd=>some (.sh d))++ay (n-ds.length) none)).bind λo=>match o with
  | .rt a=>some a
  | .nx _=>some (.sh .non)
  |_=>none
 else none:=rfl
noncomputable def gt1{α:Type}{a b:α}{l:List α}:(a::b::l)[1]?=some b:=rfl
noncomputable def st1{α:Type}{a b v:α}{l:List α}:(a::b::l).set 1 v=a::v::l:=rfl
noncomputable def gt2{α:Type}{a b c:α}{l:List α}:(a::b::c::l)[2]?=some c:=rfl
noncomputable def Ko{α:Type}{a b c v:α}{l:List α}:(a::b::c::l).set 2 v=a::b::v::l:=rfl
noncomputable def gt3{α:Type}{a b c d:α}{l:List α}:(a::b::c::d::l)[3]?=some d:=rfl
noncomputable def V5{α:Type}{a b c d v:α}{l:List α}:(a::b::c::d::l).set 3 v=a::b::c::v::l:=rfl
noncomputable def gt4{α:Type}{a b c d:α}{l:List α}{n:Nat}:(a::b::c::d::l)[n+4]?=l[n]?:=rfl
noncomputable def st4{α:Type}{a b c d v:α}{l:List α}{n:Nat}:(a::b::c::d::l).set (n+4) v=a::b::c::d::l.set n v:=rfl
def XI{K:Ζ}{f:MF}(h:∀ns:Ϝ,ns.length<=63->f [.scr ns]=i6 true):∀vs H Q E,Pl K vs H Q E->qo K f vs H Q E:=by
 rintro vs H Q E ⟨a,ns,rfl,l,hl,q⟩;refine⟨H,[.scr ns],_,.refl _,.cons (.scr l) .nil,h ns hl,λn s v F _ _ _ _ r _ _=>?_⟩
 cases r.sh_inv.2;exact q s
end Z
namespace Mr
open PySem PySem.Spec PyProof.Rows L2
section
variable {X:Cx}{tg:Expr}
def NB{α:Type}(P:α->Prop):List α->Prop
 | []=>True
 |a::l=>P a/\NB P l
theorem NB.mem{α:Type}{P:α->Prop}:∀{l:List α},NB P l->∀a∈l,P a
 | [],_,a,h=>by cases h
 |b::l,hp,a,h=>(ab.mp h).elim (λe=>e ▸ hp.1) (NB.mem hp.2 a)
def ue.of{scope:kJ}{cl:List (Str×Addr)}{x:Str}{N:List Str}{fr:Θ}(n:N.Nodup)(s:N[0]?=some x)(t:N.length=fr.length+1)
  (u:NB (λp=>X.env.cells.lookup p.1=some p.2) cl) (l:NB (λp=>(p.2 = .cell∨p.2 = .free)->∃c,cl.lookup p.1=some c) (lH scope X.env).names)
  (z:NB (λp=>X.N[p.1]?=some p.2/\X.env.scope.names.lookup p.2=some .cell/\(lH scope X.env).names.lookup p.2=some .cell) (fr.zip (N.drop 1))):ue X scope cl x N fr where
 names:=n
 own:=s
 len:=t
 sub:=λy c e=>u.mem (y,c) (PySem.mem_of_lookup e)
 has:=λy e=>by
  rcases e with e|e
  .exact l.mem _ (PySem.mem_of_lookup e) (.inl rfl)
  .exact l.mem _ (PySem.mem_of_lookup e) (.inr rfl)
 get:=λk j y B E=>by
  have G:(j,y)∈fr.zip (N.drop 1):=by
   refine mGq (i:=k) ?_;rw[dR];exact⟨B,by rw[dB,gS];exact E⟩
  exact z.mem _ G
end
end Mr
namespace Mr
open PySem PySem.W PySem.Spec PyProof.Rows L2
abbrev g2(K:Ζ):TG:=Mo K 2 (Aj (rS 0) (Aj (rS 1) Mx))
end Mr
namespace Xe
open PySem PySem.Spec PySem.W PyProof.Rows L2 Mr
section
variable {X:Cx}
def Itk(o:Obj)(d:Addr)(kvs:List (pE×V)):It:=
  ⟨λi H=>H d=some (.frz o (.dK kvs))/\∃p,kvs[i]?=some p,
   λi H x l=>l=H/\∃p,kvs[i]?=some p/\x=kV p.1,
   λi H=>H d=some (.frz o (.dK kvs))/\kvs.length<=i⟩
def Qh{P:jS}{w:jU}{K:Frag}{tg:Expr}(o:Obj)(d n:Addr)(kvs:List (pE×V))(vs:List (pE×Value))(ep:Nat)(hne:d≠n)
  (ho:∀h:Heap,h.get? d=some o->h.DictAt (qS P w) d vs ep) (kv:KV kvs vs):NG P w K tg (Itk o d kvs) [n] n (λi h=>h.IsKeyIter n d i vs.length ep) where
 mem:=by simp
 obj:=λi h st b hb=>by
  have e:b=n:=by simpa using hb
  subst e;obtain⟨G,e,c,dd⟩:=st;exact⟨G,e,λv z=>by rw[dd]at z;cases z⟩
 keep:=λi h h' st k=>by
  obtain⟨G,e,c,dd⟩:=st;exact⟨G,k n (by simp) _ e,c,dd⟩
 item:=by
  intro X L hw M hc i oh s σ H E I J st O;subst L hw M;obtain⟨hd,p,hp⟩:=O;have Q:s.heap.get? d=some o:=(show rO X.prog X.w H s.heap d (.frz o (.dK kvs))from I.hok d _ hd).1
  obtain⟨u,hx,ru⟩:=kv_get kv hp;obtain⟨R,S,f2,T,U,Y⟩:=J n (by simp)
  refine wpAny_pyNext_dict_item st (ho _ Q) hx λkey h' x B sb=>?_
  have I1:L2.Inv X oh σ H { s with heap:=h' }:=I.turned (t':=s.toks) (λb o hb e=>(sb.2 b hb).trans e) R S T U Y
  have rk:qA (kV p.1) key:=by
   rcases qO x with⟨j,t,e,rfl⟩|⟨z,t,e,rfl⟩
   .rw[e];exact⟨t,rfl⟩
   .rw[e];exact⟨t,rfl⟩
  obtain⟨G,e,c,dd⟩:=id B;exact⟨key,rfl,SU (s:={ s with heap:=h' }) e c dd (by decide) ⟨_,H,I1,rk,⟨rfl,p,hp,rfl⟩,B,λb hb=>(J b hb).1⟩⟩
 done:=by
  intro X L hw M hc i oh s σ H E I J st O;subst L hw M;obtain⟨hd,hl⟩:=O;have Q:s.heap.get? d=some o:=(show rO X.prog X.w H s.heap d (.frz o (.dK kvs))from I.hok d _ hd).1
  have l:=Paired.length kv;obtain⟨R,S,f2,T,U,Y⟩:=J n (by simp)
  exact wpAny_pyNext_dict_end (I.ok.hd hc) st (ho _ Q) (bK (by lia)) λh' eb=>⟨rfl,I.turned (t':=s.toks) (λb o hb e=>eb b o hb e) R S T U Y⟩
 self:=λ_ _ _ _ _ st h=>wpAny_pyIter_keyiter st h
def ZH(te:TE):TI:=λσ H R=>te σ H λx l=>∃d kvs,x = .ref d/\l d=some (.dK kvs)/\∀o,R (Itk o d kvs) (qC l d (.frz o (.dK kvs)))
def OB{Q o:Expr}{te:TE}(S:PE X o te):PI X Q o (ZH te):=by
 intro O s σ H R I h;refine rQ (S O s σ H _ I h) λv l L=>?_
 obtain⟨x,P,G,T,d,t,ex,ha,q⟩:=L;subst ex;obtain rfl:=(show v=aW d from T)
 obtain⟨U,sa,B,kv,dd⟩:=(show rO X.prog X.w P l.heap d (.dK t)from G.hok d _ ha)
 obtain⟨J,z,Y,n,rest⟩:=dd.dictAt;have M:∀h:Heap,h.get? d=some z->h.DictAt (qS X.prog X.w) d B J:=λh e=>⟨z,Y,e,rest⟩
 have E:d<l.heap.objs.size:=ar n;refine wpAny_pyIter_dict sa (M _ n) ?_;have kp:∀b u,l.heap.get? b=some u->(l.heap.push { cls:=.type "dict_keyiterator", data:=.fields #[.ref d,.int 0 0,.int B.length 0,.int J 0] }).get? b=some u:=λb u e=>ak _ e
 have I2:L2.Inv X O σ (qC P d (.frz z (.dK t))) { l with heap:=l.heap.push { cls:=.type "dict_keyiterator", data:=.fields #[.ref d,.int 0 0,.int B.length 0,.int J 0] } }:=
  (G.kept (t':=l.toks) kp).write (x:=d) (e:=d) (o:=.frz z (.dK t)) (t':=l.toks) (by rw[ha];trivial) (.inl rfl) (λb u _ e=>e) ⟨_,kp _ _ n⟩ ⟨kp _ _ n,U,sa,B,kv,(M _ (kp _ _ n)).dictOf⟩
 refine⟨l.heap.objs.size,[l.heap.objs.size],_,_,_,rfl,I2,Qh z d _ t B J (aN E) M kv,?_,λb hb=>?_,q z⟩
 .exact⟨_,bu _ rfl,rfl,rfl⟩
 .have e:b=l.heap.objs.size:=by simpa using hb
  subst e;exact G.fpOk (aa _) (by rw[oQ (fi E)];exact G.hok.fresh (aa _))
end
end Xe
namespace Z
open PySem L2 Mr
def WO(c:MT)(body:MS)(n:Nat)(S:AS):rq c body (n+1) S=(c S).bind λx=>if x.1=true then (body x.2).bind λo=>match o with
   | .nx l=>rq c body n l
   | .ct l=>rq c body n l
   | .bk l=>some (.nx l)
   | .rt a=>some (.rt a)
  else some (.nx x.2):=rfl
end Z
namespace Z
open PySem L2 Mr Xe
inductive Res where
 |ok (a:AV)|ex (c:Str) (fs:List (Str×Int))
abbrev Sr:=List D->Option Res
def okR:Res->Option AV
 | .ok a=>some a
 |_=>none
def okX(f:Sr):MF:=λds=>(f ds).bind okR
inductive Vb where
 |ok (o:PM)|ex (c:Str) (fs:List (Str×Int))
abbrev MX:=AS->Option Vb
def Qp(m:MS):MX:=λS=>(m S).map .ok
def E3(a b:MX):MX:=λS=>(a S).bind λo=>match o with
 | .ok (.nx S')=>b S'
 |o=>some o
noncomputable def xIf(c:MT)(a b:MX):MX:=λS=>(c S).bind λx=>if x.1=true then a x.2 else b x.2
def NR(c fld:Str)(a:ML):MX:=λS=>(a S).bind λx=>match x.1 with
 | [.int n]=>some (.ex c [(fld,n)])
 |_=>none
def Rj(l n:Nat)(m:MX):Sr:=λds=>if ds.length=l then (m (ds.map (λd=>some (.sh d))++ay (n-ds.length) none)).bind λo=>match o with
  | .ok (.rt a)=>some (.ok a)
  | .ok (.nx _)=>some (.ok (.sh .non))
  | .ex c fs=>some (.ex c fs)
  |_=>none
 else none
noncomputable def kD:pE->D
 | .inl i=>.int i
 | .inr x=>.str x
def WY{K:Ζ}{H:Hp}(k:pE):rE K H (kD k) (kV k):=by
 cases k with
 |inl i=>exact .int
 |inr x=>exact .str
section
variable {K:Ζ}{te tf:TE}{k:MK}{tb:TS}{body:MS}{x y:Nat}
def qj.fix{H₀ l Hf H:Hp}{S:AS}{σ:St}{B:List Δ}(R:qj K H₀ l Hf S σ H B){p:Addr}{o:HO}(J:p∉B.flatten)(L:Hf p=none)(E:H₀ p=none):qj K H₀ l (qC Hf p o) S σ (qC H p o) B:=by
 have s:Same Hf (qC Hf p o):=vf L;refine⟨R.len,R.lenF,λi M e=>?_,R.emp,R.nd,R.fresh,λb u z=>?_,λb u z=>?_,λb O G=>?_,R.sf.trans s⟩
 .obtain⟨v,F,P,I,r⟩:=R.rep i M e;have t:∀q∈F,q≠p:=λq n z=>J (by rw[←z];exact mFq.mpr ⟨F,mGq I,n⟩)
  exact⟨v,F,P,I,r.keep s (λq n=>oQ (t q n)) λq n=>by rw[oQ (t q n)];exact(r.owned q n).2⟩
 .by_cases hb:b=p
  .subst hb;rw[oS]at z ⊢;exact z
  .rw[oQ hb]at z ⊢;exact R.sub b u z
 .have hb:b≠p:=λq=>by rw[q,E]at z;cases z
  rw[oQ hb];exact R.fr b u z
 .have hb:b≠p:=λq=>G (by rw[q];exact E)
  rw[oQ hb];exact R.lim b O G
end
def TR(x:Nat)(body:MX):List D->AS->Option Vb
 | [],S=>some (.ok (.nx S))
 |d::ds,S=>(body (S.set x (some (.sh d)))).bind λo=>match o with
  | .ok (.nx S')=>TR x body ds S'
  | .ok (.ct S')=>TR x body ds S'
  | .ok (.bk S')=>some (.ok (.nx S'))
  | .ok (.rt a)=>some (.ok (.rt a))
  | .ex c fs=>some (.ex c fs)
def abM(x:Nat)(k:MK)(body:MX):MX:=λS=>(uR k S).bind λy=>(sD (oB y.1)).bind λds=>TR x body ds y.2
def Zw(f:AV->Option Vb):Res->Option Vb
 | .ok r=>f r
 | .ex c fs=>some (.ex c fs)
def Oz(f:Sr)(a:MA):MX:=λS=>(a S).bind λx=>(f (x.1.map oB)).bind (Zw λ_=>some (.ok (.nx x.2)))
def agb(f:Sr)(a:MA):MX:=λS=>(a S).bind λx=>(f (x.1.map oB)).bind (Zw λr=>some (.ok (.rt r)))
noncomputable def OW(c:Str):MX:=λ_=>some (.ex c [])
section
variable {K:Ζ}{E:XK}{te:TE}{tb:TS}{k:MK}{body:MX}{x:Nat}{ta:TA}{a:MA}{f:Sr}
def agP(c fld:Str)(S:AS):List D->Option (D×AS)
 | [.int n]=>some (.exc c [(fld,n)],S)
 |_=>none
def Kw:D->D->Option D
 | .tup [.str u,.int i],.tup [.str v,.int j]=>some (.bl (decide (u=v/\i=j)))
 |_,_=>none
def Pe{H:Hp}{u:Str}{i:Int}{v:V}(r:rE K H (.tup [.str u,.int i]) v):∃p,v = .ref p/\H p=some (.tup [.str u,.int i]):=by
 obtain⟨p,B,rfl,h,r⟩:=r.tup_inv;obtain⟨G,l,rfl,n,s⟩:=r.cons_inv;obtain⟨I,l,rfl,t,z⟩:=s.cons_inv;obtain rfl:=z.nil_inv;cases n;cases t;exact⟨p,rfl,h⟩
def ZL:II K (adi K false) Kw:=by
 intro x y H Q z B d l n e q;unfold Kw at e;split at e
 .cases e;obtain⟨p,rfl,s⟩:=Pe l;obtain⟨t,rfl,u⟩:=Pe n;exact⟨p,t,_,_,_,_,rfl,rfl,Ej.of s,Ej.of u,q _ .bl⟩
 .cases e
end
def Vd:D->Option Str
 | .str x=>some x
 |_=>none
def ae7:D->List D->Option D
 | .str a,[.str b]=>some (.bl (Txt.startswith a b))
 |_,_=>none
def agN:D->D->Option D
 | .str i,.str j=>some (.bl (!(Builtin.Str.occurrences j i 0 j.length 1).isEmpty))
 |_,_=>none
def aeV:D->D->Option D
 | .str i,.str j=>some (.bl (!(!(Builtin.Str.occurrences j i 0 j.length 1).isEmpty)))
 |_,_=>none
def Aq(x y:D):Option D:=match y with
 | .non=>(match x with|.non=>some (.bl true)|.int _=>some (.bl false)|.str _=>some (.bl false)|.bl _=>some (.bl false)|.list _=>some (.bl false)|.tup _=>some (.bl false)|_=>none)
 |_=>none
def agz:List D->Option D
 | [.str x]=>(intText? x).bind λn=>wH (x.length<=640) (some (.int n))
 |_=>none
def ae4:D->List D->Option D
 | .str a,[.str b]=>((Builtin.Str.occurrences a b 0 a.length 1).head?).map λi=>.int (i:Nat)
 |_,_=>none
def Pz:List D->Option (List Bool)
 | []=>some []
 | .bl b::ds=>(Pz ds).map (b :: ·)
 |_=>none
def agX:List D->Option D
 | [.list ds]=>(Pz ds).map λbs=>.bl (bs.all id)
 |_=>none
section
variable {K:Ζ}
def acN:II K (λx y H Q=>y = .non/\Q (.bl (decide (x = .non))) H) Aq:=by
 intro x y H Q s t d l n e q;unfold Aq at e;cases n <;> first|(cases e;done)|skip
 cases l <;> first|(cases e;done)|(cases e;exact⟨rfl,q _ (by simpa using rE.bl)⟩)
def agT(a:ME)(lo hi:MO):ME:=λS=>(a S).bind λx=>(lo x.2).bind λy=>(hi y.2).bind λz=>(Vd x.1).bind λt=>wH (t.length<=qE) (some (.str (Txt.slice t y.1 z.1),z.2))
def XU:D->List D->Option (List Str)
 | .str a,[.str b]=>wH ((b.length == 0)=false/\a.length<=qE/\(Builtin.Str.partsBetween a (Builtin.Str.occurrences a b 0 a.length (a.length+1)) b.length).length<=qE/\(Txt.split a b).length<=qE) (some (Txt.split a b))
 |_,_=>none
def afz(a:ME)(as:ML):MK:=λS=>(a S).bind λx=>(as x.2).bind λy=>(XU x.1 y.1).map λws=>(.ow (ws.map λw=>.sh (.str w)),y.2)
noncomputable def Zy(x:Str):List D:=x.cps.toList.map λc=>.str ⟨#[c]⟩
def iSg(a:ME):MI:=λS=>(a S).bind λx=>(Vd x.1).map λt=>(Zy t,x.2)
def agp(x:Nat)(a:ME)(body:MS):MS:=λS=>(a S).bind λy=>(Vd y.1).bind λt=>qR x body (Zy t) y.2
def Mw(x y:Nat)(body:MX):Nat->List D->AS->Option Vb
 |_,[],S=>some (.ok (.nx S))
 |i,d::ds,S=>(body ((S.set x (some (.sh (.int i)))).set y (some (.sh d)))).bind λo=>match o with
  | .ok (.nx S')=>Mw x y body (i+1) ds S'
  | .ok (.ct S')=>Mw x y body (i+1) ds S'
  | .ok (.bk S')=>some (.ok (.nx S'))
  | .ok (.rt a)=>some (.ok (.rt a))
  | .ex c fs=>some (.ex c fs)
def agk(x y:Nat)(k:MK)(body:MX):MX:=λS=>(uR k S).bind λz=>(sD (oB z.1)).bind λds=>Mw x y body 0 ds z.2
end
def K3(i:Int):Aq (.int i) .non=some (.bl false):=rfl
def Kv(x:Str):Aq (.str x) .non=some (.bl false):=rfl
abbrev U6:=Oe SZ λi j=>.int (i / j)
def SM(K:Ζ)(te:TE)(m:ME):Prop:=∀{H₀ l Hf:Hp}{S:AS}{σ:St}{H:Hp}{u:List Δ}{d:D}{S':AS},qj K H₀ l Hf S σ H u->m S=some (d,S')->∀Q:VK,
 (∀n t s v,Same Hf n->qj K H₀ l n S' σ t s->rE K n d v->Q v t)->te σ H Q
def VR:AV->Option D
 | .sh d=>some d
 |_=>none
def NA{a:AV}{d:D}(h:VR a=some d):a = .sh d:=by
 unfold VR at h;split at h <;> cases h
 rfl
def BD(i:Nat)(b:ME):ME:=λS=>(qL S i).bind λ_=>(b S).bind λy=>(intOf y.1).bind λz=>(qL y.2 i).bind λl=>wH (0<=z/\z<l.length/\l.length<=qE) ((l[z.toNat]?.bind VR).map λd=>(d,y.2.set i (some (.ow (l.eraseIdx z.toNat)))))
def IU(i:Nat):ME:=λS=>(qL S i).bind λl=>(l[l.length-1]?.bind VR).map λd=>(d,S.set i (some (.ow l.dropLast)))
def aei(kvs:List (pE×D))(k:pE):List (pE×D):=kvs.filter λkv=>decide (kv.1≠k)
def agu(i:Nat)(b:ME):ME:=λS=>(wL S i).bind λ_=>(b S).bind λy=>(we y.1).bind λkey=>(wL y.2 i).bind λkvs=>(getD kvs key).map λd=>(d,y.2.set i (some (.owd (aei kvs key))))
section
variable {K:Ζ}
def Xh:II K (rI SZ λi j=>.int (i / j)) U6:=Lb λ_ _ _=>.int
def pT.erase{Hf H:Hp}{as:List AV}{vs:List V}{t:List Δ}(r:pT K Hf H as vs t)(k:Nat):pT K Hf H (as.eraseIdx k) (vs.eraseIdx k) (t.eraseIdx k):=by
 obtain⟨x,z,u⟩:=r;refine⟨by rw[dS,dS,x],by rw[dS,dS,z],λi b w G s l n=>?_⟩
 rw[List.getElem?_eraseIdx]at s l n;split at s
 .rename_i q;rw[pB q]at l n;exact u i b w G s l n
 .rename_i q;rw[oZ q]at l n;exact u (i+1) b w G s l n
def N9{l:List Δ}{k:Nat}(h:l[k]?=some []):(l.eraseIdx k).flatten=l.flatten:=by
 induction l generalizing k with
 |nil=>cases h
 |cons g r n=>
  cases k with
  |zero=>
   simp at h;subst h;rfl
  |succ k=>
   rw[cj,fCq,fCq,n (by simpa using h)]
def qj.lose{H₀ l Hf H:Hp}{S:AS}{σ:St}{u:List Δ}(R:qj K H₀ l Hf S σ H u){i k:Nat}{n:List AV}{d:D}(h:S[i]?=some (some (.ow n)))(hk:n[k]?=some (.sh d)) :
  ∃p vs y F',σ[i]?=some (some (.ref p))/\H p=some (.lst vs)/\n.length=vs.length/\vs[k]?=some y/\rE K Hf d y/\qj K H₀ l Hf (S.set i (some (.ow (n.eraseIdx k)))) σ (qC H p (.lst (vs.eraseIdx k))) (u.set i F'):=by
 obtain⟨p,vs,x,z,L,M,O,s,B,P,Q⟩:=R.ow h;have lk:k<n.length:=(gSq.mp hk).1;obtain⟨y,E⟩:∃y,vs[k]?=some y:=⟨_,gEg (by rw[←s.1];exact lk)⟩
 obtain⟨G,I⟩:∃G,x[k]?=some G:=⟨_,gEg (by rw[←s.2.1];exact lk)⟩
 obtain⟨t,T⟩:=(s.2.2 k _ _ _ hk E I).sh_inv;subst t;have J:=N9 I;refine⟨p,vs,y,p::(x.eraseIdx k).flatten,z,M,s.1,E,T,R.turn z L (by simp) (qa.news oS O ((s.keepUpd B).erase k)) ?_ ?_⟩
 .rw[J];exact ah.mpr ⟨B,P⟩
 .rw[J];exact Q
def RQ{i:Nat}{G:TE}{b:ME}(hb:SR K G b):SM K (Pu K "list" Vo (vA i) (uf G vI)) (BD i b):=by
 intro H₀ s Hf S σ H Fs d S' R e Q q;obtain⟨a0,L,e⟩:=oBq.mp e;obtain⟨y,M,e⟩:=oBq.mp e;obtain⟨z,t,e⟩:=oBq.mp e;obtain⟨l,O,e⟩:=oBq.mp e;rcases pR e with⟨⟨P,T,U⟩,e⟩|e
 .obtain⟨d',u,e⟩:=oMq.mp e;cases e;obtain⟨a,u,x⟩:=oBq.mp u;have x:=NA x;subst x;obtain⟨p,X,Gs,I,_,Y,_⟩:=R.ow (pQ L);refine⟨.ref p,I,.inl ⟨rfl,X,rz.of Y⟩,hb R (d:=y.1) (S':=y.2) M _ λHf1 H1 Fs1 v t1 R1 J=>?_⟩
  obtain⟨p',B,w,F',n,hp,hl,hw,E,R2⟩:=R1.lose (pQ O) u;rw[I]at n;cases n;have hv:v = .int z:=by
   have:y.1 = .int z:=by
    revert t
    unfold intOf;split <;> intro t <;> cases t
    assumption
   rw[this]at J;cases J;rfl
  subst hv;have hz:(l.length:Int)<=16777216:=by
   have:l.length<=16777216:=U;lia
  refine⟨p,B,z,z.toNat,w,rfl,rfl,hp,by lia,by lia,?_,hw,q _ _ _ _ t1.sf R2 E⟩
  rw[←hl];unfold mQ;have n1:¬ z<0:=by lia
  have n2:(decide (0<=z) && decide (z<(l.length:Int)))=true:=by
   rw[d4 P,d4 T];rfl
  simp only[n1,if_false];exact pB n2
 .cases e
def abm{i:Nat}:SM K (Pu K "list" aaE (vA i) vI) (IU i):=by
 intro H₀ l Hf S σ H G d I R e Q q;obtain⟨z,B,e⟩:=oBq.mp e;obtain⟨J,n,e⟩:=oMq.mp e;cases e;obtain⟨a,n,s⟩:=oBq.mp n;have s:=NA s;subst s;obtain⟨p,u,w,L,E,x,hl,hw,t,R2⟩:=R.lose (pQ B) n;refine⟨.ref p,E,.inl ⟨rfl,u,rz.of x⟩,p,u,w,rfl,rfl,x,by rw[←hl];exact hw,?_⟩
 rw[Cb,hl,Cb]at R2;exact q _ _ _ _ (.refl _) R2 t
def VF(i:Nat)(m:ME):MS:=λS=>(m S).map λx=>.nx (x.2.set i (some (.sh x.1)))
def Yu{i:Nat}{te:TE}{m:ME}(h:SM K te m):SS K (HD te (rS i)) (VF i m):=by
 intro H₀ l Hf S σ H B o R e D hd;obtain⟨x,n,e⟩:=oMq.mp e;cases e;refine h R (d:=x.1) (S':=x.2) n _ λs E Fs1 v t u z=>?_
 exact hd _ _ _ _ t (u.setD i z)
def agA(i:Nat)(m:ME):MS:=λS=>(qL S i).bind λ_=>(m S).bind λx=>(qL x.2 i).bind λl=>wH (l.length<qE) (some (.nx (x.2.set i (some (.ow (l++[.sh x.1]))))))
def M7(i:Nat)(b:ME)(m:ME):MS:=λS=>(m S).bind λx=>(wL x.2 i).bind λ_=>(b x.2).bind λy=>(wL y.2 i).bind λkvs=>(we y.1).bind λkey=>
 wH (kvs.length<qE) (some (.nx (y.2.set i (some (.owd (Ax kvs key x.1))))))
def Tu{i:Nat}{te I:TE}{m b:ME}(hk:SM K te m)(hb:SR K I b):SS K (U1 (vA i) I te) (M7 i b m):=by
 intro H₀ s Hf S σ H Fs o R e D h;obtain⟨x,O,e⟩:=oBq.mp e;obtain⟨a0,P,e⟩:=oBq.mp e;obtain⟨y,Q,e⟩:=oBq.mp e;obtain⟨T,U,e⟩:=oBq.mp e;obtain⟨key,X,e⟩:=oBq.mp e;rcases pR e with⟨hl,e⟩|e
 .cases e;refine hk R (d:=x.1) (S':=x.2) O _ λY H1 Fs1 v t1 J r1=>?_
  obtain⟨L,_,t,_⟩:=J.owd (xA P);refine⟨_,t,hb J (d:=y.1) (S':=y.2) Q _ λHf2 H2 Fs2 w M R2 r2=>?_⟩
  obtain⟨q',kv,l,u,z,B,n,E,G⟩:=R2.owd (xA U);rw[t]at l;cases l;have rv:=r1.mono M.sf;have hw:=xn X r2;subst hw;refine⟨L,_,rfl,Q4.k z (by rw[vv,←n.len];exact hl),h _ _ _ _ (t1.trans M.sf) (R2.turn t u (by simp) (F':=[L]) (.owd oS B (L1 n rv)) (by simp) λq hq=>by rw[mSq.mp hq];exact⟨E,G⟩)⟩
 .cases e
end
def acg(d:D):VR (.sh d)=some d:=rfl
def RP(S:AS)(i:Nat)(b:ME):BD i b S=(qL S i).bind λ_=>(b S).bind λy=>(intOf y.1).bind λz=>(qL y.2 i).bind λl=>wH (0<=z/\z<l.length/\l.length<=qE) ((l[z.toNat]?.bind VR).map λd=>(d,y.2.set i (some (.ow (l.eraseIdx z.toNat))))):=rfl
def abj(S:AS)(i:Nat):IU i S=(qL S i).bind λl=>(l[l.length-1]?.bind VR).map λd=>(d,S.set i (some (.ow l.dropLast))):=rfl
def abL(S:AS)(i:Nat)(m:ME):VF i m S=(m S).map λx=>.nx (x.2.set i (some (.sh x.1))):=rfl
def YG(S:AS)(i:Nat)(b m:ME):M7 i b m S=(m S).bind λx=>(wL x.2 i).bind λ_=>(b x.2).bind λy=>(wL y.2 i).bind λkvs=>(we y.1).bind λkey=>
 wH (kvs.length<qE) (some (.nx (y.2.set i (some (.owd (Ax kvs key x.1)))))):=rfl
def Qx(x y:D):Option D:=match x with
 | .tup _=>DU x y
 |_=>zh x y
def UE:MF:=λ_=>none
def agJ(i:Nat)(b:ME)(k:MK):MS:=λS=>(qL S i).bind λ_=>(b S).bind λy=>(intOf y.1).bind λz=>(uR k y.2).bind λx=>(qL x.2 i).bind λl=>wH (0<=z/\z<=l.length/\l.length<qE) (some (.nx (x.2.set i (some (.ow (l.take z.toNat++x.1::l.drop z.toNat))))))
section
variable {K:Ζ}
def ZW:II K (λx y H Q=>TF K x y H Q∨acw K x y H Q) Qx:=by
 intro x y H Q s t d l n e q;unfold Qx at e;split at e
 .exact .inr (Sx l n e q)
 .exact .inl (ZA l n e q)
def YF{P:jS}{w:jU}{mg:Str->Υ}{base:Heap}{k:Nat}{x:Str}{st:Stmt}{ps:List Str}{f:Addr}{fd:jX}(D:xC K mg x st ps f fd):Fn P w K mg base k x st ps (qo K UE) f fd:=
 ⟨D,⟨λn H Q E h=>(by obtain⟨Hf,t,a,s,r,e,q⟩:=h;cases e),λA outer s H l us n Q E _ _ _ _ h=>(by obtain⟨Hf,t,a,s,r,e,q⟩:=h;cases e)⟩⟩
end
def QS(ds:List D)(i:Int):Qx (.list ds) (.int i)=atI ds i:=rfl
def U3(ds:List D)(i:Int):Qx (.tup ds) (.int i)=atI ds i:=rfl
def OX:D->String->Option D
 | .int _,T=>if T = "list" ∨ T = "tuple" ∨ T = "str" then some (.bl false)else none
 | .str _,T=>if T = "list" ∨ T = "tuple" then some (.bl false)else none
 | .non,T=>if T = "list" ∨ T = "tuple" then some (.bl false)else none
 | .list _,T=>if T = "tuple" then some (.bl false)else none
 | .tup _,T=>if T = "list" then some (.bl false)else none
 |_,_=>none
def Ci:List D->Option D
 | [x,.ty T]=>OX x T
 |_=>none
def tE(ds:List D):Option D:=match Ct ds with
 |some d=>some d
 |none=>Ci ds
section
variable {K:Ζ}
def abV:Zp K (λxs H Q=>∃x T,xs=[x,.ty T]/\abH K x H T/\Q (.bl false) H) Ci:=by
 intro B H Q E d r e q;unfold Ci at e;split at e
 rotate_left
 .cases e
 rename_i x T;obtain⟨v,G,rfl,l,s⟩:=r.cons_inv;obtain⟨u,I,rfl,t,z⟩:=s.cons_inv;rw[z.nil_inv];cases t;unfold OX at e;cases x <;> first|(cases e;done)|dsimp only at e
 all_goals
  split at e
  rotate_left
  .cases e
  rename_i n;cases e
 .cases l;exact⟨_,_,rfl,n,q _ .bl⟩
 .cases l;exact⟨_,_,rfl,n,q _ .bl⟩
 .cases l;exact⟨_,_,rfl,n,q _ .bl⟩
 .obtain⟨p,xs,rfl,h,_⟩:=l.list_inv;exact⟨_,_,rfl,.inl ⟨n,xs,rz.of h⟩,q _ .bl⟩
 .obtain⟨p,xs,rfl,h,_⟩:=l.tup_inv;exact⟨_,_,rfl,.inr ⟨n,xs,Ej.of h⟩,q _ .bl⟩
def aa8:Zp K (λxs H Q=>(∃x T b,xs=[x,.ty T]/\ab0 K x H T b/\Q (.bl b) H)∨∃x T,xs=[x,.ty T]/\abH K x H T/\Q (.bl false) H) tE:=by
 intro n H Q s d r e q;unfold tE at e;split at e
 .rename_i l;cases e;exact .inl (abJ r l q)
 .exact .inr (abV r e q)
end
def abR(ds:List D):tE [.list ds,.ty "list"]=some (.bl true):=by simp[tE,Ct,Ci,Po,OX]
def aaB(ds:List D):tE [.list ds,.ty "tuple"]=some (.bl false):=by simp[tE,Ct,Ci,Po,OX]
def aat(ds:List D):tE [.tup ds,.ty "list"]=some (.bl false):=by simp[tE,Ct,Ci,Po,OX]
def abO(ds:List D):tE [.tup ds,.ty "tuple"]=some (.bl true):=by simp[tE,Ct,Ci,Po,OX]
def aaf(x:Str):tE [.str x,.ty "list"]=some (.bl false):=by simp[tE,Ct,Ci,Po,OX]
def aaV(x:Str):tE [.str x,.ty "tuple"]=some (.bl false):=by simp[tE,Ct,Ci,Po,OX]
def Z8(x:Str):tE [.str x,.ty "str"]=some (.bl true):=by simp[tE,Ct,Ci,Po,OX]
def acm(i:Int):tE [.int i,.ty "list"]=some (.bl false):=by simp[tE,Ct,Ci,Po,OX]
def Z0(i:Int):tE [.int i,.ty "tuple"]=some (.bl false):=by simp[tE,Ct,Ci,Po,OX]
def acD(i:Int):tE [.int i,.ty "str"]=some (.bl false):=by simp[tE,Ct,Ci,Po,OX]
def acK(i:Int):tE [.int i,.ty "int"]=some (.bl true):=by simp[tE,Ct,Ci,Po,OX]
def acM(i:Int):tE [.int i,.ty "bool"]=some (.bl false):=by simp[tE,Ct,Ci,Po,OX]
section
variable {K:Ζ}{H₀ Hf₀ Hf H:Hp}{S:AS}{σ:St}{Fs:List Δ}{te tb:TE}{k:MK}{b:ME}
def qj.poke(R:qj K H₀ Hf₀ Hf S σ H Fs){p:Addr}{o:HO}(pn:Hf p=none)(s:H₀ p=none)(pf:p∉Fs.flatten):qj K H₀ Hf₀ Hf S σ (qC H p o) Fs:=by
 refine⟨R.len,R.lenF,λj a t=>?_,R.emp,R.nd,R.fresh,λb u e=>?_,λb u e=>?_,R.lim,R.sf⟩
 .obtain⟨w,G,x,n,q⟩:=R.rep j a t;refine⟨w,G,x,n,q.keep (.refl _) (λc l=>oQ λe=>pf ?_) λc l=>(q.owned c l).2⟩
  subst e;exact qw n l
 .rw[oQ λz=>by rw[z,pn]at e;cases e]
  exact R.sub b u e
 .rw[oQ λz=>by rw[z,s]at e;cases e]
  exact R.fr b u e
def AM.stays{l s:Hp}{n:List Δ}(t:AM Hf H Fs l s n){p:Addr}(pn:Hf p=none)(u:H p≠none)(pf:p∉Fs.flatten):l p=none/\p∉n.flatten:=by
 refine⟨?_,λm=>pf (t.own p m)⟩
 by_cases h:l p=none
 .exact h
 .exact((t.gr p pn h).elim (λe=>absurd e u) λm=>absurd m pf)
def NZ(b:ME)(k:MK):MK:=λS=>(b S).bind λy=>(uR k y.2).bind λx=>(we y.1).map λkey=>(.owd [(key,oB x.1)],x.2)
def Sq(hb:SR K tb b)(hk:SK K te k):SK K (Zo [(tb,te)]) (NZ b k):=by
 intro H₀ Hf₀ Hf S σ H Fs av S' R e Q q;obtain⟨y,X,e⟩:=oBq.mp e;obtain⟨x,L,e⟩:=oBq.mp e;obtain⟨key,Y,e⟩:=oMq.mp e;cases e;have B:SK K te (uR k):=SK.frz hk;intro p t;obtain⟨t0,R0,n1,n2,n3⟩:=R.new (o:=.dK []) t;have M:=A9.one R t;refine hb R0 (d:=y.1) (S':=y.2) X _ λHf1 H1 Fs1 w E R1 r1=>?_
 have O:qC H p (HO.dK []) p=some (.dK []):=oS;have P:H1 p=some (.dK []):=E.sh p _ O;obtain⟨a1,a2⟩:=E.stays n1 (by rw[O];simp) n3
 refine B R1 (a:=x.1) (S':=x.2) L _ λG T Fs2 v F I R2 U o2=>?_
 have p2:T p=some (.dK []):=I.sh p _ P;obtain⟨b1,b2⟩:=I.stays a1 (by rw[P];simp) a2
 obtain⟨x1,n⟩:∃d,x.1 = .sh d:=by
  obtain⟨w,_,e⟩:=oMq.mp L;rw[←e];exact⟨_,rfl⟩
 rw[n]at U;have rv:=U.sh_inv.2;have hw:=xn Y r1;subst hw;refine⟨p2,[(key,v)],rfl,by simp,?_⟩
 have l:=(t0.trans E).trans I;have hs:Same H (qC T p (HO.dK (DY [] [(key,v)]))):=λc u e=>by
  rw[oQ λz=>by rw[z,t]at e;cases e]
  exact l.sh c u e
 refine q G _ Fs2 (.ref p) [p] ⟨l.sf,hs,l.own,l.gr⟩ (R2.poke b1 n2 b2) (.owd oS b1 ⟨rfl,λi d u s J=>?_⟩) ⟨by simp,λc h=>by rw[mSq.mp h];exact n2,λc h=>by rw[mSq.mp h];exact b2,λc h=>by rw[mSq.mp h];exact .inl t⟩
 match i,s,J with
 |0,s,J=>
  cases s;cases J;rw[n,rV];exact rv
 |i+1,s,_=>simp at s
def Yh{i:Nat}:SM K (aeh K "list" aaE (vA i)) (IU i):=abm
def B1:List (pE×D)->Option Ϝ
 | []=>some []
 | (.inl i,_)::r=>(B1 r).map (i :: ·)
 |_=>none
theorem K7:∀{kvs:List (pE×D)}{ns:Ϝ},B1 kvs=some ns->kvs.map (·.1)=ns.map aO
 | [],ns,h=>by cases h;rfl
 | (.inl i,d)::r,ns,h=>by
  obtain⟨s,l,n⟩:=oMq.mp (show(B1 r).map (i :: ·)=some ns from h)
  subst n;rw[ai,ai,K7 l]
 | (.inr _,_)::_,_,h=>by cases h
def JB(a:ME):MK:=λS=>(a S).bind λx=>match x.1 with
 | .dict kvs=>(B1 kvs).map λns=>(.ow ((uk ns).map λn=>.sh (.int n)),x.2)
 |_=>none
def Up(hb:SR K te b):SK K (tCB (λxs H Q=>∃(a:Addr) (kvs:List (pE×V)) (ns:Ϝ),xs=[.ref a]/\H a=some (.dK kvs)/\kvs.map (·.1)=ns.map aO/\∀p,H p=none->Q (.ref p) (qC H p (.lst ((uk ns).map V.int)))) (uf te vI)) (JB b):=by
 intro H₀ Hf₀ Hf S σ H Fs z l R e Q q;obtain⟨x,B,e⟩:=oBq.mp e;obtain⟨E,G⟩:=x;cases E with
 |dict kvs=>
  obtain⟨ns,I,e⟩:=oMq.mp (show(B1 kvs).map (λns=>(AV.ow ((uk ns).map λn=>.sh (.int n)),G))=some (z,l)from e)
  cases e;refine hb R (d:=.dict kvs) (S':=l) B _ λJ Y Fs1 w s t L=>?_
  obtain⟨M,O,rfl,P,T⟩:=L.dict_inv;refine⟨M,O,ns,rfl,P,by rw[←T.1];exact K7 I,λp u=>?_⟩
  obtain⟨U,X,n1,n2,n3⟩:=t.new (o:=.lst ((uk ns).map V.int)) u;rw[AB]at q;exact q _ _ _ (.ref p) [p] (s.trans U) X (qa.new oS n1 (vK _)) ((A9.one t u).back s)
 |_=>cases e
end
def Xs(S:AS)(b:ME)(k:MK):NZ b k S=(b S).bind λy=>(uR k y.2).bind λx=>(we y.1).map λkey=>(.owd [(key,oB x.1)],x.2):=rfl
def ZD:D->AS->Option (AV×AS)
 | .dict kvs,S=>(B1 kvs).map λns=>(.ow ((uk ns).map λn=>.sh (.int n)),S)
 |_,_=>none
def We(S:AS)(a:ME):JB a S=(a S).bind λx=>ZD x.1 x.2:=by
 unfold JB;congr 1;funext x;obtain⟨l,n⟩:=x;cases l <;> rfl
def abg(kvs:List (pE×D))(S:AS):ZD (.dict kvs) S=(B1 kvs).map λns=>(.ow ((uk ns).map λn=>.sh (.int n)),S):=rfl
theorem HX{α:Type}(f:α->Int)(g:α->D):∀l:List α,B1 (l.map λx=>(aO (f x),g x))=some (l.map f)
 | []=>rfl
 |x::l=>by
  show(B1 (l.map λx=>(aO (f x),g x))).map (f x :: ·)=_
  rw[HX f g l];rfl
def UX:D->Option V
 | .non=>some .non
 | .bl b=>some (.bl b)
 | .int i=>some (.int i)
 | .str s=>some (.str s)
 |_=>none
def DZ:List D->Option (List V)
 | []=>some []
 |d::ds=>(UX d).bind λv=>(DZ ds).map (v :: ·)
def abW:D->Option (List D)
 | .list ds=>some ds
 | .tup ds=>some ds
 |_=>none
def ES(neg:Bool)(x y:D):Option D:=(UX x).bind λv=>(abW y).bind λds=>(DZ ds).map λvs=>.bl (if neg then !inV v vs else inV v vs)
section
variable {K:Ζ}{te:TE}
def Iu{H:Hp}{d:D}{v w:V}(e:UX d=some v)(r:rE K H d w):w=v/\BU v=true:=by
 cases d <;> first|(cases e;cases r;exact⟨rfl,rfl⟩)|cases e
theorem Be{H:Hp}:∀{ds:List D}{vs ws:List V},DZ ds=some vs->qv K H ds ws->ws=vs/\vs.all BU=true
 | [],vs,ws,e,r=>by
  cases e;exact⟨r.nil_inv,rfl⟩
 |d::ds,vs,ws,e,r=>by
  obtain⟨v,l,e⟩:=oBq.mp e;obtain⟨us,n,rfl⟩:=oMq.mp e;obtain⟨w,s,rfl,t,u⟩:=r.cons_inv;obtain⟨rfl,x⟩:=Iu l t;obtain⟨rfl,z⟩:=Be n u;exact⟨rfl,by rw[iy,x,z];rfl⟩
def ZY(neg:Bool):II K (rIn K neg) (ES neg):=by
 intro x y H Q L E d G u e q;obtain⟨v,I,e⟩:=oBq.mp e;obtain⟨M,l,e⟩:=oBq.mp e;obtain⟨O,z,e⟩:=oMq.mp e;subst e;obtain⟨rfl,B⟩:=Iu I G;cases E with
 |list J=>
  cases l;obtain⟨p,us,rfl,n,s⟩:=u.list_inv;obtain⟨rfl,t⟩:=Be z s;exact⟨p,us,rfl,.inl (rz.of n),B,t,q _ .bl⟩
 |tup J=>
  cases l;obtain⟨p,us,rfl,n,s⟩:=u.tup_inv;obtain⟨rfl,t⟩:=Be z s;exact⟨p,us,rfl,.inr (Ej.of n),B,t,q _ .bl⟩
 |_=>cases l
end
def KO(ns:Ϝ):DZ (ns.map D.int)=some (ns.map V.int):=by
 induction ns with
 |nil=>rfl
 |cons n ns l=>rw[ai,DZ,l];rfl
def Uo(i:Int)(ns:Ϝ):inV (.int i) (ns.map V.int)=decide (i∈ns):=by
 unfold inV
 induction ns with
 |nil=>rfl
 |cons n ns l=>
  rw[ai,dO,l];show(n == i || decide (i∈ns))=_
  by_cases h:i=n
  .subst h;simp
  .have s:¬ n=i:=λz=>h z.symm
   simp[h,s]
def DS(neg:Bool)(i:Int)(ns:Ϝ):ES neg (.int i) (.list (ns.map D.int))=some (.bl (if neg then !decide (i∈ns)else decide (i∈ns))):=by
 show(DZ (ns.map D.int)).map _=_;rw[KO,cK,Uo]
noncomputable def Jq(tf:MT)(te:MK)(cap:AS):List (D×D)->Option (List AV)
 | []=>some []
 |d::ds=>(tf (some (.sh d.1)::some (.sh d.2)::cap)).bind λb=>if b.1=true then (te b.2).bind λa=>(Jq tf te cap ds).map (a.1 :: ·)else Jq tf te cap ds
noncomputable def Zz:Nat->List D->List (D×D)
 |_,[]=>[]
 |n,d::ds=>(.int (n:Int),d)::Zz (n+1) ds
def afP(k:MK)(fr:Θ)(tf:MT)(te:MK):MK:=λS=>(uR k S).bind λy=>(sD (oB y.1)).bind λds=>(fzAll fr y.2).bind λn=>(Hq n fr).bind λcap=>wH (ds.length<=qE) ((Jq tf te cap (Zz 0 ds)).map λl=>(.ow l,n))
section
variable {K:Ζ}{H₀ Hf₀ Hf Hf' H H':Hp}{S S':AS}{σ σ':St}{Fs Fs':List Δ}
theorem J2.same(s:Same H H'):∀{path:Θ}{v w:V},J2 H v path w->J2 H' v path w
 | [],v,w,h=>h
 |j::js,v,w,⟨p,vs,u,h1,h2,h3,h4⟩=>⟨p,vs,u,h1,s _ _ h2,h3,J2.same s h4⟩
theorem J2.one:∀{path:Θ}{v w l:V},J2 H v path w->J2 H v path l->w=l
 | [],v,w,l,h,t=>h.symm.trans t
 |j::js,v,w,l,hz,hy=>by
  obtain⟨p,J,u,x,z,B,E⟩:=hz;obtain⟨L,G,M,n,g2,s,I⟩:=hy;rw[x]at n;cases n;rw[z]at g2;cases g2;rw[B]at s;cases s;exact E.one I
theorem J2.snoc:∀{path:Θ}{v:V}{p:Addr}{vs:List V}{n:Nat}{u:V},J2 H v path (.ref p)->H p=some (.lst vs)->vs[n]?=some u->J2 H v (path++[n]) u
 | [],v,p,vs,n,u,h,l,s=>⟨p,vs,u,h,l,s,rfl⟩
 |j::js,v,p,vs,n,u,⟨p',vs',u',g1,g2,g3,g4⟩,l,s=>⟨p',vs',u',g1,g2,g3,g4.snoc l s⟩
theorem J2.kept:∀{path:Θ}{l:AV}{v w:V}{F:Δ}{as:List AV},qa K Hf H l v F->qg l path=some as->J2 H v path w->(∀q∈F,H' q=H q)->J2 H' v path w
 | [],l,v,w,F,as,_,_,h,_=>h
 |j::js,l,v,w,F,as,r,e,hz,hk=>by
  obtain⟨p,L,u,s,t,x,M⟩:=hz;cases l with
  |ow n=>
   obtain⟨T,O,U,z,B,E,X,G⟩:=r.ow_inv;rw[s]at z;cases z;rw[t]at E;cases E;obtain⟨a,I,e⟩:=oBq.mp (show(n[j]?).bind (λa=>qg a js)=some as from e)
   have P:j<n.length:=(gSq.mp I).1;have J:=gEg (G.2.1 ▸ P);have Q:=G.2.2 j a u _ I x J;refine⟨p,L,u,s,by rw[hk p (by rw[B];simp)];exact t,x,M.kept Q e λq R=>hk q ?_⟩
   rw[B];exact mCo _ (qw J R)
  |_=>cases e
noncomputable def frm(H₀ H:Hp)(F:Δ):Hp:=λb=>if b∈F then H b else H₀ b
def J0{F:Δ}{b:Addr}(h:b∈F):frm H₀ H F b=H b:=pB h
def BC{F:Δ}{b:Addr}(h:b∉F):frm H₀ H F b=H₀ b:=oZ h
def qj.frame(R:qj K H₀ Hf₀ Hf S σ H Fs){i:Nat}{F:Δ}(s2:Fs[i]?=some F):qj K (frm H₀ H F) Hf₀ Hf (S.set i none) σ H (Fs.set i []):=by
 have l:=R.kill i;have t:∀q∈F,q∈Fs.flatten:=λq x=>qw s2 x
 refine⟨l.len,l.lenF,l.rep,l.emp,l.nd,λp n=>?_,l.sub,λb u e=>?_,λb B s=>?_,l.sf⟩
 .have hn:p∉F:=λz=>vq R.nd s2 z n
  rw[BC hn];exact l.fresh p n
 .by_cases hb:b∈F
  .rw[J0 hb]at e;exact e
  .rw[BC hb]at e;exact R.fr b u e
 .by_cases hb:b∈F
  .exact(R.mem (t b hb)).2
  .rw[BC hb]at s;exact R.lim b B s
noncomputable def MM{α:Type}{l:List α}{i:Nat}{a:α}(h:l[i]?=some a):l.set i a=l:=by
 obtain⟨hk,n⟩:=gSq.mp h;rw[←n];exact fI hk
def qj.unframe(R:qj K H₀ Hf₀ Hf S σ H Fs){i:Nat}{t:AV}{v:V}{F:Δ}(s2:Fs[i]?=some F)(r:qa K Hf H t v F)(nd:F.Nodup)(s:∀q∈F,H₀ q=none)
  (l:qj K (frm H₀ H F) Hf₀ Hf' S' σ' H' Fs') (x:S'[i]?=some none) (s1:σ'[i]?=some (some v)) (sf:Same Hf Hf') :
  (∀q∈F,H' q=H q)/\qa K Hf' H' t v F/\qj K H₀ Hf₀ Hf' (S'.set i (some t)) σ' H' (Fs'.set i F):=by
 have hk:∀q∈F,H' q=H q:=λq n=>by
  have hn:=(R.mem (qw s2 n)).1;cases E:H q with
  |none=>exact absurd E hn
  |some u=>exact l.fr q u (by rw[J0 n];exact E)
 have J:∀q∈F,Hf' q=none:=λq n=>by
  have B:=R.mem (qw s2 n);refine l.lim q ?_ (by rw[J0 n];exact B.1)
  cases L:Hf₀ q with
  |none=>rfl
  |some u=>rw[R.sf q u L]at B;exact absurd B.2 (by simp)
 have G:=r.keep sf hk J;refine⟨hk,G,?_⟩;have M:qj K H₀ Hf₀ Hf' (S'.set i none) σ' H' (Fs'.set i []):=by
  rw[MM x,MM (l.emp i x)];refine⟨l.len,l.lenF,l.rep,l.emp,l.nd,λp O=>?_,l.sub,λb u e=>?_,λb P I=>?_,l.sf⟩
  .have:=l.fresh p O
   by_cases hb:p∈F
   .exact s p hb
   .rwa [BC hb]at this
  .refine l.fr b u ?_;rw[BC λz=>by rw[s b z]at e;cases e]
   exact e
  .refine l.lim b P ?_;rw[BC λz=>I (s b z)]
   exact I
 refine M.again (F:=F) s1 G nd λq n=>⟨s q n,λm=>?_⟩
 rw[MM (l.emp i x)]at m;have:=l.fresh q m;rw[J0 n]at this;exact(R.mem (qw s2 n)).1 this
end
abbrev MP:=AS->Option (List Nat×AS)
def MN(i:Nat):MP:=λS=>(qL S i).map λ_=>([],S)
def VW(i:Nat)(pf:MP)(b:ME):MP:=λS=>(pf S).bind λx=>(b x.2).bind λy=>(intOf y.1).bind λj=>(qL y.2 i).bind λl=>(qg (.ow l) x.1).bind λas=>(Je as.length j).map λn=>(x.1++[n],y.2)
def SPh(K:Ζ)(i:Nat)(te:TE)(pf:MP):Prop:=∀{H₀ l Hf:Hp}{S:AS}{σ:St}{H:Hp}{u:List Δ}{path:Θ}{S':AS},qj K H₀ l Hf S σ H u->pf S=some (path,S')->∀Q:VK,
 (∀n t s v w,AM Hf H u n t s->qj K H₀ l n S' σ t s->σ[i]?=some (some v)->J2 t v path w->Q w t)->te σ H Q
section
variable {K:Ζ}
def WX(i:Nat):SPh K i (vA i) (MN i):=by
 intro H₀ l Hf S σ H u path x R e Q q;obtain⟨s,t,e⟩:=oMq.mp e;cases e;obtain⟨p,z,B,n,_⟩:=R.ow (pQ t);exact⟨_,n,q _ _ _ _ _ .refl R n rfl⟩
def zz{H₀ l Hf H:Hp}{S:AS}{σ:St}{t:List Δ}{i:Nat}{n as:List AV}{path:Θ}{v w:V}(R:qj K H₀ l Hf S σ H t)(e:S[i]?=some (some (.ow n)))(s1:σ[i]?=some (some v))(u:qg (.ow n) path=some as)(h:J2 H v path w) :
  ∃p vs,w = .ref p/\H p=some (.lst vs)/\vs.length=as.length:=by
 obtain⟨B,F,s,E,r,nd,_⟩:=R.move e;rw[s1]at s;cases s;obtain⟨p,vs,G,x,g2,I,z,_⟩:=r.path nd u;exact⟨p,vs,h.one x,g2,z.1.symm⟩
def acJ{i:Nat}{te E:TE}{pf:MP}{b:ME}(T:SPh K i te pf)(hb:SR K E b):SPh K i (YV (TF K) te E) (VW i pf b):=by
 intro H₀ l Hf S σ H Fs path S' R e Q q;obtain⟨x,U,e⟩:=oBq.mp e;obtain⟨y,X,e⟩:=oBq.mp e;obtain⟨j,s,e⟩:=oBq.mp e;obtain⟨Y,e4,e⟩:=oBq.mp e;obtain⟨as,e5,e⟩:=oBq.mp e;obtain⟨n,t,e⟩:=oMq.mp e;cases e;refine T R (path:=x.1) (S':=x.2) U _ λHf1 H1 Fs1 v w t1 R1 G a1=>hb R1 (d:=y.1) (S':=y.2) X _ λHf2 H2 Fs2 u I R2 J=>?_
 have hy:y.1 = .int j:=by
  cases hx:y.1 <;> rw[hx]at s <;> first|(cases s;rfl)|cases s
 rw[hy]at J;cases J;have L:=a1.same I.sh;obtain⟨p,z,rfl,M,O⟩:=zz R2 (pQ e4) G e5 L;have hix:=t;obtain⟨_,hn,_⟩:=PH t;have B:n<z.length:=by rw[O];exact hn
 obtain⟨u,P⟩:∃u,z[n]?=some u:=⟨_,gEg B⟩;refine⟨p,z,j,u,rfl,rfl,rz.of M,?_,q _ _ _ v _ (t1.trans I) R2 G (L.snoc M P)⟩;unfold atI;rw[O,t];exact P
end
section
variable {K:Ζ}
def qj.grow{H₀ l Hf H:Hp}{S:AS}{σ:St}{J:List Δ}{i:Nat}{s as:List AV}{path:Θ}{v:V}{p:Addr}(R:qj K H₀ l Hf S σ H J)(e:S[i]?=some (some (.ow s)))(s1:σ[i]?=some (some v))(X:qg (.ow s) path=some as)(h:J2 H v path (.ref p)) :
  ∃vs,H p=some (.lst vs)/\as.length=vs.length/\∀(bs:List AV) (ws:List V) (n:List Δ),pT K Hf H bs ws n->n.flatten.Nodup->(∀q∈n.flatten,H₀ q=none/\q∉J.flatten) ->
   ∃B,qj K H₀ l Hf (S.set i (some (putAt (.ow s) path (as++bs)))) σ (qC H p (.lst (vs++ws))) B:=by
 obtain⟨v',F,L,u,r,nd,M,_⟩:=R.move e;rw[s1]at L;cases L;obtain⟨Y,vs,E,g1,g2,g3,O,P,Q,G,T,g8⟩:=r.path nd X;have I:V.ref p=V.ref Y:=h.one g1;cases I;refine⟨vs,g2,O.1,λbs ws n rb nG oG=>?_⟩
 have U:p∉n.flatten:=λm=>(oG p m).2 (qw u P)
 have t:(E++n).flatten=E.flatten++n.flatten:=fAq;obtain⟨F',k1,k2,k3⟩:=g8 (as++bs) (vs++ws) (E++n) ((O.keepUpd Q).append (rb.keepUpd U)) (by
  rw[t];refine ah.mpr ⟨λm=>(mAq.mp m).elim Q U,nAq.mpr ⟨G,nG,λa ha b hb z=>(oG b hb).2 (qw u (T b (z ▸ ha)))⟩⟩) (λq x=>by
  rw[t]at x;exact(mAq.mp x).imp id λm z=>(oG q m).2 (qw u z))
 refine⟨_,R.turnAny s1 u P k1 k2 λq x=>?_⟩
 rcases k3 q x with z|z
 .exact M q z
 .rw[t]at z;rcases mAq.mp z with z|z
  .exact M q (T q z)
  .exact⟨(oG q z).1,λm=>(oG q z).2 (qV m)⟩
def Pm(i:Nat)(pf:MP)(k:MK):MS:=λS=>(pf S).bind λx=>(qL x.2 i).bind λn=>(qg (.ow n) x.1).bind λ_=>(k x.2).bind λy=>(qL y.2 i).bind λl=>(qg (.ow l) x.1).bind λas=>wH (as.length<qE) (some (.nx (y.2.set i (some (putAt (.ow l) x.1 (as++[y.1]))))))
def W1{i:Nat}{z te:TE}{pf:MP}{k:MK}(J:SPh K i z pf)(hk:SK K te k):SS K (AC (Pu K "list" CY z (uf te vI))) (Pm i pf k):=by
 intro H₀ l Hf S σ H Fs o R e D h;obtain⟨x,L,e⟩:=oBq.mp e;obtain⟨a0,M,e⟩:=oBq.mp e;obtain⟨n0,O,e⟩:=oBq.mp e;obtain⟨y,P,e⟩:=oBq.mp e;obtain⟨Q,T,e⟩:=oBq.mp e;obtain⟨as,U,e⟩:=oBq.mp e;rcases pR e with⟨hl,e⟩|e
 .cases e;refine J R (path:=x.1) (S':=x.2) L _ λX H1 Fs1 v w Y B E G=>?_
  obtain⟨p,vs,rfl,h1,h2⟩:=zz B (pQ M) E O G;refine⟨.inl ⟨rfl,vs,rz.of h1⟩,hk B (a:=y.1) (S':=y.2) P _ λHf2 H2 Fs2 u F I R2 r2 n=>?_⟩
  obtain⟨s,g1,g2,g3⟩:=R2.grow (pQ T) E U (G.same I.sh);obtain⟨Fs',R3⟩:=g3 [y.1] [u] [F] (pT.nil.snoc r2) (by rw[aQ];exact n.nd) (λq t=>by rw[aQ]at t;exact⟨n.fr q t,n.out q t⟩)
  exact⟨p,s,u,rfl,rfl,g1,by rw[vv,←g2];exact hl,h _ _ _ _ (Y.sf.trans I.sf) R3⟩
 .cases e
def RJ(i:Nat)(pf:MP)(l:ML):MS:=λS=>(pf S).bind λx=>(qL x.2 i).bind λs=>(qg (.ow s) x.1).bind λ_=>(l x.2).bind λy=>(qL y.2 i).bind λn=>(qg (.ow n) x.1).bind λas=>wH (as.length+y.1.length<=qE) (some (.nx (y.2.set i (some (putAt (.ow n) x.1 (as++y.1.map .sh))))))
def YD{i:Nat}{t te:TE}{pf:MP}{l:ML}(L:SPh K i t pf)(hk:SL K te l):SS K (AC (Pu K "list" Fv t (uf te vI))) (RJ i pf l):=by
 intro H₀ n Hf S σ H Fs o R e D h;obtain⟨x,M,e⟩:=oBq.mp e;obtain⟨a0,O,e⟩:=oBq.mp e;obtain⟨n0,P,e⟩:=oBq.mp e;obtain⟨y,Q,e⟩:=oBq.mp e;obtain⟨T,U,e⟩:=oBq.mp e;obtain⟨as,X,e⟩:=oBq.mp e;rcases pR e with⟨hl,e⟩|e
 .cases e;refine L R (path:=x.1) (S':=x.2) M _ λY H1 Fs1 v w t1 u z B=>?_
  obtain⟨p,vs,rfl,h1,h2⟩:=zz u (pQ O) z P B;refine⟨.inl ⟨rfl,vs,rz.of h1⟩,hk u (ds:=y.1) (S':=y.2) Q _ λHf2 H2 Fs2 b E G R2 hb I=>?_⟩
  obtain⟨s,g1,g2,g3⟩:=R2.grow (pQ U) z X (B.same G.sh);obtain⟨Fs',R3⟩:=g3 (y.1.map .sh) E (ay y.1.length []) (Kg I) (by rw[sU];exact aV) (λq J=>by rw[sU]at J;cases J)
  exact⟨p,b,s,E,rfl,rfl,g1,hb,by rw[vv,←g2,←I.1];exact hl,h _ _ _ _ (t1.sf.trans G.sf) R3⟩
 .cases e
def Als(x i:Nat)(path:Θ)(S:AS)(σ:St)(H:Hp):Prop:=∃v p l as,S[i]?=some (some (.ow l))/\qg (.ow l) path=some as/\σ[x]?=some (some (.ref p))/\σ[i]?=some (some v)/\J2 H v path (.ref p)
def RD(K:Ζ)(x i:Nat)(t:TS)(m:Θ->MS):Prop:=∀{path:Θ}{H₀ l Hf:Hp}{S:AS}{σ:St}{H:Hp}{n:List Δ}{o:PM},qj K H₀ l Hf S σ H n->Als x i path S σ H->m path S=some o->∀D:AN,Il K H₀ l Hf D o->t D σ H
def Ye(x i:Nat)(pf:MP)(m:Θ->MS):MS:=λS=>(pf S).bind λy=>(qL y.2 i).bind λl=>(qg (.ow l) y.1).bind λ_=>wH (x≠i/\x<y.2.length) (m y.1 (y.2.set x none))
def ace{x i:Nat}{te:TE}{pf:MP}{t:TS}{m:Θ->MS}(J:SPh K i te pf)(L:RD K x i t m):SS K (MV (HD te (rS x)) t) (Ye x i pf m):=by
 intro H₀ n Hf S σ H T o R e D h;obtain⟨y,M,e⟩:=oBq.mp e;obtain⟨s,B,e⟩:=oBq.mp e;obtain⟨O,E,e⟩:=oBq.mp e;rcases pR e with⟨⟨l,u⟩,e⟩|e
 .refine J R (path:=y.1) (S':=y.2) M _ λP U Fs1 v w Q z G I=>?_
  obtain⟨p,X,rfl,Y,h2⟩:=zz z (pQ B) G E I;have R2:=(z.kill x).any (V.ref p);refine L R2 ⟨v,p,s,O,?_,E,?_,?_,I⟩ e D (h.mono Q.sf)
  .rw[aF l];exact pQ B
  .exact aS (by rw[←z.len];exact u)
  .rw[aF l];exact G
 .cases e
noncomputable def aet{x i:Nat}{t:TS}{m:MS}(h:SS K t m):RD K x i t (λ_=>m):=λR _ e D o=>h R e D o
def ab5{x i:Nat}{t u:TS}{a:Θ->MS}{b:MS}(ha:RD K x i t a)(hb:SS K u b):RD K x i (MV t u) (λpath=>oz (a path) b):=by
 intro path H₀ l Hf S σ H I o R A e D h;obtain⟨y,n,e⟩:=oBq.mp e;refine ha R A n _ ?_;cases y with
 |nx J=>exact λz B L E s G=>hb G e D (h.mono s)
 |rt a=>cases e;exact h
 |bk a=>cases e;exact h
 |ct a=>cases e;exact h
def Hy(i:Nat)(c:MT)(a b:Θ->MS):Θ->MS:=λpath S=>(c S).bind λy=>(qL y.2 i).bind λl=>(qg (.ow l) path).bind λ_=>if y.1=true then a path y.2 else b path y.2
def aeP{x i:Nat}{c:TT}{m:MT}{t u:TS}{a b:Θ->MS}(I:Kp K c m)(ha:RD K x i t a)(hb:RD K x i u b):RD K x i (V4 c t u) (Hy i m a b):=by
 intro path H₀ n Hf S σ H X o R A e D h;obtain⟨y,J,e⟩:=oBq.mp e;obtain⟨s,L,e⟩:=oBq.mp e;obtain⟨M,O,e⟩:=oBq.mp e;obtain⟨v,p,_,_,_,_,P,Q,z⟩:=A;refine I R (b:=y.1) (S':=y.2) J _ λT U Fs1 B E=>?_
 have G:Als x i path y.2 σ U:=⟨v,p,s,M,pQ L,O,P,Q,z.same B.sh⟩;split at e
 .rename_i l;rw[l];exact LW (ha E G e D (h.mono B.sf))
 .rename_i l;rw[dt]at l;rw[l];exact LU (hb E G e D (h.mono B.sf))
def OC(i:Nat)(k:MK):Θ->MS:=λpath S=>(k S).bind λy=>(qL y.2 i).bind λl=>(qg (.ow l) path).bind λas=>wH (as.length<qE) (some (.nx (y.2.set i (some (putAt (.ow l) path (as++[y.1]))))))
def aaJ{x i:Nat}{te:TE}{k:MK}(hk:SK K te k):RD K x i (AC (Pu K "list" CY (vA x) (uf te vI))) (OC i k):=by
 intro path H₀ n Hf S σ H Fs o R A e D h;obtain⟨y,G,e⟩:=oBq.mp e;obtain⟨I,J,e⟩:=oBq.mp e;obtain⟨as,L,e⟩:=oBq.mp e;rcases pR e with⟨hl,e⟩|e
 .cases e;obtain⟨v,p,a0,n0,M,O,P,B,l⟩:=A;obtain⟨p',Q,T,U,h2⟩:=zz R M B O l;cases T;refine⟨.ref p,P,.inl ⟨rfl,Q,rz.of U⟩,hk R (a:=y.1) (S':=y.2) G _ λX H2 Fs2 u F E R2 Y s=>?_⟩
  obtain⟨t,g1,g2,g3⟩:=R2.grow (pQ J) B L (l.same E.sh);obtain⟨Fs',R3⟩:=g3 [y.1] [u] [F] (pT.nil.snoc Y) (by rw[aQ];exact s.nd) (λq z=>by rw[aQ]at z;exact⟨s.fr q z,s.out q z⟩)
  exact⟨p,t,u,rfl,rfl,g1,by rw[vv,←g2];exact hl,h _ _ _ _ E.sf R3⟩
 .cases e
def Ol(i:Nat)(l:ML):Θ->MS:=λpath S=>(l S).bind λy=>(qL y.2 i).bind λn=>(qg (.ow n) path).bind λas=>wH (as.length+y.1.length<=qE) (some (.nx (y.2.set i (some (putAt (.ow n) path (as++y.1.map .sh))))))
def acG{x i:Nat}{te:TE}{l:ML}(hk:SL K te l):RD K x i (AC (Pu K "list" Fv (vA x) (uf te vI))) (Ol i l):=by
 intro path H₀ s Hf S σ H Fs o R A e D h;obtain⟨y,I,e⟩:=oBq.mp e;obtain⟨J,L,e⟩:=oBq.mp e;obtain⟨as,M,e⟩:=oBq.mp e;rcases pR e with⟨hl,e⟩|e
 .cases e;obtain⟨v,p,a0,n0,O,P,Q,u,n⟩:=A;obtain⟨p',T,U,X,h2⟩:=zz R O u P n;cases U;refine⟨.ref p,Q,.inl ⟨rfl,T,rz.of X⟩,hk R (ds:=y.1) (S':=y.2) I _ λY H2 Fs2 b z B R2 hb E=>?_⟩
  obtain⟨t,g1,g2,g3⟩:=R2.grow (pQ L) u M (n.same B.sh);obtain⟨Fs',R3⟩:=g3 (y.1.map .sh) z (ay y.1.length []) (Kg E) (by rw[sU];exact aV) (λq G=>by rw[sU]at G;cases G)
  exact⟨p,b,t,z,rfl,rfl,g1,hb,by rw[vv,←g2,←E.1];exact hl,h _ _ _ _ B.sf R3⟩
 .cases e
def Jr(i:Nat)(n:ME):Θ->MS:=λpath S=>(qL S i).bind λl=>(qg (.ow l) path).bind λas=>(n (S.set i none)).bind λy=>wH (y.2[i]?=some none/\as.length<qE) (some (.nx (y.2.set i (some (putAt (.ow l) path (as++[.sh y.1]))))))
def YS{x i:Nat}{te:TE}{J:ME}(hk:SM K te J):RD K x i (AC (Pu K "list" CY (vA x) (uf te vI))) (Jr i J):=by
 intro path H₀ z Hf S σ H Fs o R A e D h;obtain⟨l,Q,e⟩:=oBq.mp e;obtain⟨as,B,e⟩:=oBq.mp e;obtain⟨y,T,e⟩:=oBq.mp e;rcases pR e with⟨⟨hn,hl⟩,e⟩|e
 .cases e;obtain⟨v,p,a0,n0,_,_,U,t,n⟩:=A;have s:=pQ Q;obtain⟨p',X,Y,h1,h2⟩:=zz R s t B n;cases Y;obtain⟨v',F,L,M,r,nd,oo,_⟩:=R.move s;rw[t]at L;cases L;refine⟨.ref p,U,.inl ⟨rfl,X,rz.of h1⟩,hk (R.frame M) (d:=y.1) (S':=y.2) T _ λHf2 H2 Fs2 u O R2 r2=>?_⟩
  obtain⟨k1,k2,R3⟩:=R.unframe M r nd (λq E=>(oo q E).1) R2 hn t O
  have G:i<y.2.length:=(gSq.mp hn).1;have e5:(y.2.set i (some (.ow l)))[i]?=some (some (.ow l)):=aS G;obtain⟨I,g1,g2,g3⟩:=R3.grow e5 t B (n.kept r B k1);obtain⟨Fs',P⟩:=g3 [.sh y.1] [u] [[]] (pT.nil.snoc (.sh r2)) (by simp) (λq E=>by simp at E)
  rw[iO]at P;exact⟨p,I,u,rfl,rfl,g1,by rw[vv,←g2];exact hl,h _ _ _ _ O P⟩
 .cases e
def SSk(K:Ζ)(J:Θ)(t:TS)(m:MS):Prop:=∀{H₀ l Hf:Hp}{S:AS}{σ:St}{H:Hp}{z:List Δ}{S':AS},qj K H₀ l Hf S σ H z->m S=some (.nx S')->∀D:AN,(∀s n x u,Same Hf s->qj K H₀ l s S' n x u->(∀j∈J,n[j]?=σ[j]?)->D.nx n x)->t D σ H
def Uc{J:Θ}{t:TS}(h:∀D σ H,D.nx σ H->t D σ H):SSk K J t pH:=by
 intro H₀ l Hf S σ H n s R e D q;cases e;exact h _ _ _ (q _ _ _ _ (.refl _) R λ_ _=>rfl)
def Yk{J:Θ}{y:Nat}{te:TE}{k:MK}(hk:SK K te k)(t:y∉J):SSk K J (HD te (rS y)) (oN y k):=by
 intro H₀ l Hf S σ H M O R e D q;obtain⟨x,u,e⟩:=oMq.mp e;cases e;refine hk R (a:=x.1) (S':=x.2) u _ λB P Fs1 v F E G I n=>?_
 exact q _ _ _ _ E.sf (G.set y I n.nd λq s=>⟨n.fr q s,n.out q s⟩) λj L=>aF (show y≠j from λz=>t (by rw[z];exact L))
def aa7{J:Θ}{c:TT}{m:MT}{t u:TS}{a b:MS}(M:Kp K c m)(ha:SSk K J t a)(hb:SSk K J u b):SSk K J (V4 c t u) (wk m a b):=by
 intro H₀ n Hf S σ H T U R e D q;obtain⟨x,O,e⟩:=oBq.mp e;refine M R (b:=x.1) (S':=x.2) O _ λP X Fs1 I L=>?_
 split at e
 .rename_i l;rw[l];exact LW (ha L e D λz B Q E s G j=>q _ _ _ _ (I.sf.trans s) G j)
 .rename_i l;rw[dt]at l;rw[l];exact LU (hb L e D λz B Q E s G j=>q _ _ _ _ (I.sf.trans s) G j)
def Nq(i:Nat)(a:MS)(m:Θ->MS):Θ->MS:=λpath S=>(qL S i).bind λl=>(a (S.set i none)).bind λo=>match o with
 | .nx n=>wH (n[i]?=some none) (m path (n.set i (some (.ow l))))
 |_=>none
def acp{x i:Nat}{t u:TS}{a:MS}{m:Θ->MS}(ha:SSk K [x,i] t a)(U:RD K x i u m):RD K x i (MV t u) (Nq i a m):=by
 intro path H₀ B Hf S σ H Fs o R A e D h;obtain⟨l,X,e⟩:=oBq.mp e;obtain⟨Y,e3,e⟩:=oBq.mp e;cases Y with
 |nx E=>
  rcases pR (show wH (E[i]?=some none) (m path (E.set i (some (.ow l))))=some o from e)with⟨hn,e⟩|e
  .obtain⟨v,p,a0,n0,n,L,s2,G,I⟩:=A;have M:=pQ X;rw[M]at n;cases n;obtain⟨v',F,O,P,r,nd,ow,_⟩:=R.move M;rw[G]at O;cases O;refine ha (R.frame P) e3 _ λHf' z H' Fs' s R' Q=>?_
   have j1:z[x]?=σ[x]?:=Q x (by simp)
   have T:z[i]?=σ[i]?:=Q i (by simp)
   obtain⟨k1,k2,R3⟩:=R.unframe P r nd (λq hq=>(ow q hq).1) R' hn (T.trans G) s
   have J:i<E.length:=(gSq.mp hn).1;exact U R3 ⟨v,p,l,n0,aS J,L,j1.trans s2,T.trans G,I.kept r L k1⟩ e D (h.mono s)
  .cases e
 |_=>cases e
end
def adP(S:AS)(i:Nat):MN i S=(qL S i).map λ_=>([],S):=rfl
def afT(S:AS)(i:Nat)(pf:MP)(b:ME):VW i pf b S=(pf S).bind λx=>(b x.2).bind λy=>(intOf y.1).bind λj=>(qL y.2 i).bind λl=>(qg (.ow l) x.1).bind λas=>(Je as.length j).map λn=>(x.1++[n],y.2):=rfl
def aah(S:AS)(i:Nat)(pf:MP)(k:MK):Pm i pf k S=(pf S).bind λx=>(qL x.2 i).bind λn=>(qg (.ow n) x.1).bind λ_=>(k x.2).bind λy=>(qL y.2 i).bind λl=>(qg (.ow l) x.1).bind λas=>wH (as.length<qE) (some (.nx (y.2.set i (some (putAt (.ow l) x.1 (as++[y.1])))))):=rfl
def aab(S:AS)(i:Nat)(pf:MP)(l:ML):RJ i pf l S=(pf S).bind λx=>(qL x.2 i).bind λs=>(qg (.ow s) x.1).bind λ_=>(l x.2).bind λy=>(qL y.2 i).bind λn=>(qg (.ow n) x.1).bind λas=>wH (as.length+y.1.length<=qE) (some (.nx (y.2.set i (some (putAt (.ow n) x.1 (as++y.1.map .sh)))))):=rfl
def ac7(S:AS)(x i:Nat)(pf:MP)(m:Θ->MS):Ye x i pf m S=(pf S).bind λy=>(qL y.2 i).bind λl=>(qg (.ow l) y.1).bind λ_=>wH (x≠i/\x<y.2.length) (m y.1 (y.2.set x none)):=rfl
def aec(S:AS)(i:Nat)(c:MT)(a b:Θ->MS)(path:Θ):Hy i c a b path S=(c S).bind λy=>(qL y.2 i).bind λl=>(qg (.ow l) path).bind λ_=>if y.1=true then a path y.2 else b path y.2:=rfl
def aa5(S:AS)(i:Nat)(k:MK)(path:Θ):OC i k path S=(k S).bind λy=>(qL y.2 i).bind λl=>(qg (.ow l) path).bind λas=>wH (as.length<qE) (some (.nx (y.2.set i (some (putAt (.ow l) path (as++[y.1])))))):=rfl
def ab3(S:AS)(i:Nat)(l:ML)(path:Θ):Ol i l path S=(l S).bind λy=>(qL y.2 i).bind λn=>(qg (.ow n) path).bind λas=>wH (as.length+y.1.length<=qE) (some (.nx (y.2.set i (some (putAt (.ow n) path (as++y.1.map .sh)))))):=rfl
def W5(S:AS)(i:Nat)(n:ME)(path:Θ):Jr i n path S=(qL S i).bind λl=>(qg (.ow l) path).bind λas=>(n (S.set i none)).bind λy=>wH (y.2[i]?=some none/\as.length<qE) (some (.nx (y.2.set i (some (putAt (.ow l) path (as++[.sh y.1])))))):=rfl
def aed(i:Nat)(l:List AV)(m:Θ->MS)(path:Θ):PM->Option PM
 | .nx n=>wH (n[i]?=some none) (m path (n.set i (some (.ow l))))
 |_=>none
def aeD(S:AS)(i:Nat)(a:MS)(m:Θ->MS)(path:Θ):Nq i a m path S=(qL S i).bind λl=>(a (S.set i none)).bind (aed i l m path):=by
 unfold Nq;congr 1
def XB(i:Nat)(l:List AV)(m:Θ->MS)(path:Θ)(n:AS):aed i l m path (.nx n)=wH (n[i]?=some none) (m path (n.set i (some (.ow l)))):=rfl
def Nv(l:List AV):qg (.ow l) []=some l:=rfl
def A7(l:List AV)(j:Nat)(n:Θ):qg (.ow l) (j::n)=(l[j]?).bind λa=>qg a n:=rfl
def B8{l:List AV}{j:Nat}{n:Θ}{as:List AV}{a:AV}(h:l[j]?=some a):putAt (.ow l) (j::n) as = .ow (l.set j (putAt a n as)):=by
 show(match l[j]? with|some a=>_|none=>_)=_
 rw[h]
section
variable {K:Ζ}
def JV(m:ME):MS:=λS=>(m S).map λx=>.nx x.2
def Ti{te:TE}{m:ME}(h:SM K te m):SS K (AC te) (JV m):=by
 intro H₀ l Hf S σ H z o R e D hd;obtain⟨x,n,e⟩:=oMq.mp e;cases e;exact h R (d:=x.1) (S':=x.2) n _ λs B Fs1 v t u E=>hd _ _ _ _ t u
def agU(i:Nat):MS:=λS=>(qL S i).map λl=>.nx (S.set i (some (.ow l.reverse)))
end
def WL(S:AS)(m:ME):JV m S=(m S).map λx=>.nx x.2:=rfl
section
variable {K:Ζ}
def rE.fd_inv{H:Hp}{ds:List (pE×D)}{v:V}(h:rE K H (.fd ds) v):∃p o kvs,v = .ref p/\H p=some (.frz o (.dK kvs))/\vC K H ds kvs:=by
 cases h with
 |fd h l e=>exact⟨_,_,_,rfl,h,l,e⟩
def V9:D->Option (List (pE×D))
 | .fd kvs=>some kvs
 |_=>none
def W8{d:D}{kvs:List (pE×D)}(h:V9 d=some kvs):d = .fd kvs:=by
 cases d <;> first|(cases h;rfl)|cases h
def JQ(a b:ME):ME:=λS=>(a S).bind λx=>(b x.2).bind λy=>(V9 x.1).bind λkvs=>(we y.1).bind λkey=>(getD kvs key).map λd=>(d,y.2)
def Vl{n s:TE}{a b:ME}(ha:SR K n a)(hb:SR K s b):SR K (Ug n s) (JQ a b):=by
 intro H₀ l Hf S σ H Fs d S' R e Q q;obtain⟨x,z,e⟩:=oBq.mp e;obtain⟨y,B,e⟩:=oBq.mp e;obtain⟨E,G,e⟩:=oBq.mp e;obtain⟨key,I,e⟩:=oBq.mp e;obtain⟨d',J,e⟩:=oMq.mp e;cases e;refine ha R (d:=x.1) (S':=x.2) z _ λL H1 Fs1 v1 M O t=>hb O (d:=y.1) (S':=y.2) B _ λP H2 Fs2 v2 u R2 T=>?_
 rw[W8 G]at t;obtain⟨p,o,U,rfl,X,Y⟩:=(t.mono u.sh).fd_inv;have g:=DN (key:=key) Y;rw[J]at g;obtain⟨v,g1,g2⟩:=g;exact⟨p,v,rfl,by rw[xn I T,←g1];exact .inl ⟨U,key,.inr ⟨o,X⟩,rfl,rfl⟩,q _ _ _ _ (M.trans u) R2 g2⟩
def US{u:Obj}{d:Addr}{kvs:List (pE×V)}{B:Nat}{E:TS}{D:AN}{σ:St}{H:Hp}(l:Nat->St->Hp->Prop)(I:l 0 σ H)(hl:∀i σ H,l i σ H->H d=some (.frz u (.dK kvs)))
  (J:∀i p σ H,kvs[i]?=some p->l i σ H->E { D with nx:=l (i+1),ct:=l (i+1),bk:=D.nx } (σ.set B (some (kV p.1))) H) (hd:∀σ H,l kvs.length σ H->D.nx σ H) :
  ∃W:Nat->Nat->St->Hp->Prop,(∃m,W 0 m σ H)/\∀i m σ H,W i m σ H ->
   ((Itk u d kvs).stop i H/\D.nx σ H)∨((Itk u d kvs).go i H/\∃N:St->Hp->Prop,(∀s n,N s n->∃G,G<m/\W (i+1) G s n)/\∀x n,(Itk u d kvs).yld i H x n->rS B x σ n λz L=>E { D with nx:=N,ct:=N,bk:=D.nx } z L):=by
 refine⟨λi m σ H=>m=kvs.length-i/\i<=kvs.length/\l i σ H,⟨kvs.length,by simp,aT _,I⟩,?_⟩
 rintro i m σ H ⟨rfl,hi,p⟩;have q:=hl i σ H p
 by_cases t:i<kvs.length
 .refine .inr ⟨⟨q,kvs[i],by simp[t]⟩,l (i+1),λs n M=>⟨kvs.length-(i+1),by lia,rfl,t,M⟩,λv n y=>?_⟩
  obtain⟨rfl,x,O,rfl⟩:=y;exact J i x σ n O p
 .have e:i=kvs.length:=by lia
  subst e;exact .inl ⟨⟨q,aa _⟩,hd σ H p⟩
def OV(x i:Nat)(body:MS):MS:=λS=>(wL S i).bind λkvs=>wH (x≠i) (qR x body (kvs.map λp=>kD p.1) (S.set i (some (.sh (.fd kvs)))))
def X5{x i:Nat}{tb:TS}{body:MS}(hb:SS K tb body):SS K (Qs (ZH (vA i)) (rS x) tb) (OV x i body):=by
 intro H₀ t Hf S σ H Fs o R e D h;obtain⟨z,e1,e⟩:=oBq.mp e;rcases pR e with⟨hne,e⟩|e
 .have M:=xA e1;obtain⟨p,s,s1,s2,h1,h2,h3,h4,h5⟩:=R.owd M;refine⟨_,s1,p,s,rfl,h1,λL=>?_⟩
  obtain⟨v,F,t1,t2,r,nd,oo,R1⟩:=R.move M;rw[s2]at t2;cases t2;have R2:=qj.fix R1 (p:=p) (o:=.frz L (.dK s)) h5 h2 h4;have s3:Same Hf (qC Hf p (.frz L (.dK s))):=vf h2;have O:vC K (qC Hf p (.frz L (.dK s))) z s:=⟨h3.1,λi d v a b=>(h3.2 i d v a b).mono s3⟩
  have R3:qj K H₀ t (qC Hf p (.frz L (.dK s))) (S.set i (some (.sh (.fd z)))) σ (qC H p (.frz L (.dK s))) (Fs.set i []):=
   R2.again (F:=[]) s1 (.sh (.fd oS O.1 O.2)) aV λq hq=>by cases hq
  have I:z.length=s.length:=by have:=congrArg bV h3.1;simpa using this
  refine US (λn B H'=>∃u P E,qj K H₀ t u P B H' E/\Same (qC Hf p (.frz L (.dK s))) u/\qR x body ((z.map λp=>kD p.1).drop n) P=some o) ⟨_,_,_,R3,.refl _,e⟩
   (λn B H' ⟨u,P,E,Q,J,_⟩=>Q.sub _ _ (J _ _ oS)) ?_ ?_
  .rintro n w B H' hw ⟨u,P,E,Q,J,T⟩;have hn:n<z.length:=by rw[I];exact(gSq.mp hw).1
   have hk:(z.map λp=>kD p.1)[n]?=some (kD w.1):=by
    have:=congrArg (λl=>l[n]?) h3.1
    simp only[gMq,hw,cK]at this;rw[gMq];cases hd:z[n]? with
    |none=>rw[hd]at this;cases this
    |some dd=>
     rw[hd]at this;rw[cK,show dd.1=w.1 from aw.inj this]
   have hlt:n<(z.map λp=>kD p.1).length:=by rw[lMq];exact hn
   rw[aK hlt,(gSq.mp hk).2]at T;obtain⟨o2,e3,e4⟩:=oBq.mp T;refine hb (Q.setD x (WY w.1)) e3 _ ?_;cases o2 with
   |nx S2=>exact λG U H2 Fs2 X Y=>⟨G,S2,Fs2,Y,J.trans X,e4⟩
   |ct S2=>exact λG U H2 Fs2 X Y=>⟨G,S2,Fs2,Y,J.trans X,e4⟩
   |bk S2=>cases e4;exact λG U H2 Fs2 X Y=>h _ _ _ _ ((s3.trans J).trans X) Y
   |rt a=>cases e4;exact h
  .rintro B H' ⟨u,P,E,Q,J,T⟩;rw[←I,show z.length=(z.map λp=>kD p.1).length from (lMq _).symm,dh]at T
   cases T;exact h _ _ _ _ (s3.trans J) Q
 .cases e
end
def Ya(kvs:List (pE×D)):V9 (.fd kvs)=some kvs:=rfl
def WA(S:AS)(a b:ME):JQ a b S=(a S).bind λx=>(b x.2).bind λy=>(V9 x.1).bind λkvs=>(we y.1).bind λkey=>(getD kvs key).map λd=>(d,y.2):=rfl
def aaD(S:AS)(x i:Nat)(body:MS):OV x i body S=(wL S i).bind λkvs=>wH (x≠i) (qR x body (kvs.map λp=>kD p.1) (S.set i (some (.sh (.fd kvs))))):=rfl
end Z
local macro_rules | `(tactic| simp_arith $c:optConfig [$ls,*]$[$l:location]?) => `(tactic| simp $c:optConfig only [Z.yZ,Z.adb,Z.adq,Z.ad6,Z.ac9,Z.aeE,Z.ady,Z.adR,Z.adD,Z.afb,Z.af3,Z.ad5,Z.rC_,Z.afA,Z.af4,Z.adv,Z.abo,Z.aen,Z.acr,Z.afk,Z.adU,Z.Xb,Z.adG,Z.abw,Z.abh,Z.XE,Z.adn,Z.ac1,Z.aeb,Z.aax,Z.ZV,Z.Q3,Z.afH,Z.afN,Z.afr,Z.aad,Z.aba,Z.abN,Z.YM,Z.Tv,Z.RW,Z.aew,Z.aez,Z.ZN,Z.adh,Z.aff,Z.adx,Z.ad2,Z.abb,Z.KS,Z.QC,Z.RU,Z.Z1,Z.aag,Z.ac6,Z.Wz,Z.ab8,Z.Z3,Z.aaG,Z.aer,Z.afd,Z.Rx,Z.MQ,Z.Tr,Z.PZ,Z.aaX,Z.Yw,Z.Yt,Z.T9,Z.afc,Z.Mz,Z.aar,Z.adF,Z.aci,Z.aas,Z.afh,Z.RG,Z.acL,Z.aaH,Z.adk,Z.WE,Z.Z9,Z.abZ,Z.aeI,Z.Sd,Z.W9,Z.Th,Z.Vx,Z.Wx,Z.U8,Z.W4,Z.Tc,Z.YQ,Z.W3,Z.aby,Z.ZS,Z.ZT,Z.p57,Z.p58,Z.p59,Z.C6,Z.Jt,Z.vU,Z.Og,Z.J5,Z.WM,Z.W0,Z.WI,Z.Xp,Z.Rq,Z.VD,Z.T1,Z.Jb,Z.Vq,Z.XD,Z.Xl,Z.UJ,Z.WB,Z.U9,Z.QL,Z.rV,Z.rJ,Z.D6,Z.aey,Z.sj,Z.FT,Z.P8,List.getElem?_cons_zero,Z.gt1,Z.gt2,Z.gt3,Z.gt4,dC,Z.st1,Z.Ko,Z.V5,Z.st4,Option.join_some,cK,je,lCq,cF,ai,eB,bA,bE,lMq,iE,Bool.not_false,eE,decide_true,decide_false,bC,List.replicate_zero,aNq,Z.K3,Z.Kv,Z.acg,Z.RP,Z.abj,Z.abL,Z.YG,Z.QS,Z.U3,Z.abR,Z.aaB,Z.aat,Z.abO,Z.aaf,Z.aaV,Z.Z8,Z.acm,Z.Z0,Z.acD,Z.acK,Z.acM,Z.Xs,Z.We,Z.abg,Z.DS,Z.adP,Z.afT,Z.aah,Z.aab,Z.ac7,Z.aec,Z.aa5,Z.ab3,Z.W5,Z.aeD,Z.XB,Z.Nv,Z.WL,Z.Ya,Z.WA,Z.aaD,Nat.reduceAdd,Nat.reduceSub,Nat.reduceEqDiff,Nat.reduceLeDiff,List.reduceReplicate,↓reduceIte,reduceCtorEq,$ls,*]$[$l:location]?)
namespace Z
open PySem L2 Mr
def Y2(d c:D):AV->Option AV
 | .ow (.ow bs::rest)=>wH (bs.length<qE/\rest.length+1<qE) (some (.ow (.ow (bs++[.sh d])::rest++[.ow [.sh c]])))
 |_=>none
end Z
namespace Z
open PySem L2 Mr Xe
structure xO (K:Ζ)(c:Str)(C:Addr):Prop where
 ns:W.nsIn K jQ c=some (some (.ref C))
 cl:Lc K C
def AJ(c f:Str):D->Option D
 | .ins l fs=>if l=c then fs.lookup f else none
 |_=>none
def EX(c m:Str):AV->Option D
 | .sh (.ins l fs)=>if l=c/\fs.lookup m=none then some (.ins l fs)else none
 |_=>none
def Ze(ds:List D):Bool:=ds.all D.scal
def Df(c:Str)(fl:List Str)(a:ML):MK:=λS=>(a S).bind λx=>if x.1.length=fl.length/\Ze x.1=true then some (.sh (.ins c (fl.zip x.1)),x.2)else none
section
variable {K:Ζ}{H:Hp}
def rE.ins_inv{c:Str}{fs:List (Str×D)}{v:V}(h:rE K H (.ins c fs) v):∃a C s n,v = .ref a/\W.nsIn K jQ c=some (some (.ref C))/\H a=some (.ins C s n)/\fs.map (·.1)=n.map (·.1)/\∀(i:Nat) (d:Str×D) (v:Str×V),fs[i]?=some d->n[i]?=some v->rE K H d.2 v.2:=by
 cases h with
 |ins t h l e=>exact⟨_,_,_,_,rfl,t,h,l,e⟩
theorem Cf{f:Str}:∀{fs:List (Str×D)}{l:List (Str×V)},fs.map (·.1)=l.map (·.1)->(∀(i:Nat) (d:Str×D) (v:Str×V),fs[i]?=some d->l[i]?=some v->rE K H d.2 v.2)->(fs.lookup f=none->l.lookup f=none)/\∀d,fs.lookup f=some d->∃v,l.lookup f=some v/\rE K H d v
 | [],[],_,_=>⟨λ_=>rfl,λd h=>by cases h⟩
 | [],_::_,h,_=>by cases h
 |_::_,[],h,_=>by cases h
 | (k,d)::fs,(k',v)::l,h,e=>by
  rw[ai,ai]at h;injection h with n s
  have n:k=k':=n;subst n;obtain⟨t,u⟩:=Cf (f:=f) s λi d v a b=>e (i+1) d v (by simpa using a) (by simpa using b)
  rw[jf,jf];cases hk:(f == k)with
  |true=>
   refine⟨λq=>?_,λx q=>?_⟩
   .cases q
   .cases q;exact⟨v,rfl,e 0 _ _ rfl rfl⟩
  |false=>exact⟨t,u⟩
variable {c f m:Str}{C:Addr}{ta:TE}{t:TA}
def yv{a:ME}(I:xO K c C)(L:oW K C f)(ha:SR K ta a):SR K (aej K ta f) (Ak (AJ c f) a):=by
 intro H₀ s Hf S σ H Fs d S' R e Q q;obtain⟨x,M,e⟩:=oBq.mp e;obtain⟨z,l,e⟩:=oMq.mp e;cases e;refine ha R (d:=x.1) (S':=x.2) M _ λO H1 Fs1 v P T G=>?_
 cases J:x.1 with
 |ins U fs=>
  rw[J]at G l;have u:(if U=c then fs.lookup f else none)=some d:=l
  clear l
  split at u
  .rename_i X;subst X;obtain⟨Y,C',dx,gs,rfl,n,B,hk,he⟩:=G.ins_inv;rw[I.ns]at n;cases n;obtain⟨w,hw,E⟩:=(Cf (f:=f) hk he).2 d u;exact⟨Y,C,dx,gs,w,rfl,B,I.cl,L,hw,q _ _ _ w P T E⟩
  .cases u
 |_=>rw[J]at l;cases l
def DX(C:Addr)(fl:List Str):Sp:=λvs H Q _=>∃(x l:Addr) (ws:List V),vs = .ref x::ws/\ws.length=fl.length/\H x=some (.ins C l [])/\Q .non (qC H x (.ins C l (fl.zip ws)))
def RV{H:Hp}:∀{fl:List Str}{ds:List D}{vs:List V},ds.length=fl.length->qv K H ds vs->(fl.zip ds).map (·.1)=(fl.zip vs).map (·.1)/\∀(i:Nat) (d:Str×D) (v:Str×V),(fl.zip ds)[i]?=some d->(fl.zip vs)[i]?=some v->rE K H d.2 v.2:=by
 intro fl ds vs hl hr;refine⟨?_,λi d v l n=>?_⟩
 .rw[gO (by lia),gO (by rw[←hr.1];lia)]
 .obtain⟨_,s⟩:=dR.mp l;obtain⟨_,g2⟩:=dR.mp n;exact hr.2 i _ _ s g2
def Ni{fl:List Str}{a:ML}{E:XK}(I:xO K c C)(ha:W6 K t a):SK K (Sg C (DX C fl) [] E t) (Df c fl a):=by
 intro H₀ s Hf S σ H Fs av S' R e Q q;obtain⟨x,O,e⟩:=oBq.mp e;split at e
 .rename_i u;cases e;refine ha R (ds:=x.1) (S':=x.2) O _ λz P Fs1 n T U B p l X G J=>?_
  rw[aNq];have L:qC P l (.own p) p=none:=by rw[oQ (Ne.symm J)];exact X
  refine⟨p,l,n,rfl,by rw[←B.1,u.1],oS,rfl,?_⟩
  rw[Jn];obtain⟨Y,R2⟩:=U.layF (o:=.own p) G;obtain⟨t3,R3⟩:=R2.layF (o:=.ins C l (fl.zip n)) L;have sc:∀(i:Nat) (d:D) (v:V),x.1[i]?=some d->n[i]?=some v->rE K (qC (qC z l (.own p)) p (.ins C l (fl.zip n))) d v:=λi d v M h2=>(B.2 i d v M h2).scal (List.all_eq_true.mp u.2 d (mGq M))
  obtain⟨z1,z2⟩:=RV (K:=K) (fl:=fl) u.1 ⟨B.1,sc⟩;exact q _ _ _ (.ref p) [] ((T.trans Y).trans t3) R3 (.sh (.ins I.ns oS z1 z2)) .nil
 .cases e
end
def O5(S:AS)(c:Str)(fl:List Str)(a:ML):Df c fl a S=(a S).bind λx=>if x.1.length=fl.length/\Ze x.1=true then some (.sh (.ins c (fl.zip x.1)),x.2)else none:=rfl
end Z
namespace Xe
open PySem PySem.Spec PySem.W PyProof.Rows L2 Mr
def aaQ(C:Addr)(m:Str)(n:TE)(t:TA):TA:=λσ H Q=>n σ H λx l=>∃a s fs,x = .ref a/\l a=some (.ins C s fs)/\fs.lookup m=none/\t σ l λvs u=>Q (x::vs) u
structure Mg (P:jS)(w:jU)(K:Frag)(mg:Str->Υ)(base:Heap)(k:Nat)(C:Addr)(m:Str)(ps:List Str)(sp:Sp)(f:Addr)(fd:jX):Prop where
 cl:Lc K C
 mt:Hk K C m f
 b:rR K fd ps []
 ok:Aw P w K mg base VS k f fd ps sp
section
variable {X:Cx}{k:Nat}{C:Addr}{m:Str}{ps:List Str}{sp:Sp}{f:Addr}{fd:jX}{p pos pos2 pos3 apos:Pos}{o e:Expr}{es:List Expr}{ta:TE}{t:TA}{h₀:ExceptHandler}{hs:List ExceptHandler}{th:XH}
def IQ{pl:Sem Bool}(G:Mg X.prog X.w X.K X.mg X.base k C m ps sp f fd)(hr:tV k X.A)(u:PE X o ta)(ha:PA X (e::es) t)
  (l:jT (e::es) X.env=(false,eval e X.env)::jT es X.env:=by rfl) (n:(ko pos (jT es X.env)).any (·.1)=false:=by rfl)
  (ht:eval (.Call (.Attribute o m apos) (e::es) [] pos) X.env=(do
   let s ←eval o X.env
   lU apos.atName
   let (f,first) ←lY [s] (lK s m pl)
   callWith pos f first (ko pos (jT (e::es) X.env)) (mj pos (kS [] X.env))):=by rfl):PE X (.Call (.Attribute o m apos) (e::es) [] pos) (GR sp [] E0 (aaQ C m ta t)):=
 WG u G.cl G.mt G.ok hr G.b .nil OQ ha l n ht
def UA{pl:Sem Bool}(G:Mg X.prog X.w X.K X.mg X.base k C m ps sp f fd)(hr:tV k X.A)(n:PE X o ta)
  (ht:eval (.Call (.Attribute o m apos) [] [] pos) X.env=(do
   let l ←eval o X.env
   lU apos.atName
   let (f,first) ←lY [l] (lK l m pl)
   callWith pos f first (ko pos (jT [] X.env)) (mj pos (kS [] X.env))):=by rfl):PE X (.Call (.Attribute o m apos) [] [] pos) (GR sp [] E0 (aaQ C m ta vI)):=
 Ub n G.cl G.mt G.ok hr G.b .nil OQ ht
end
end Xe
namespace Z
open PySem L2 Mr Xe
def Hn(c m:Str)(k:MK)(a:MA):MA:=λS=>(k S).bind λo=>(EX c m o.1).bind λd=>(a o.2).map λx=>(.sh d::x.1,x.2)
section
variable {K:Ζ}{c m:Str}{C:Addr}{ta:TE}{t:TA}
def WW{o:AV}{d:D}(h:EX c m o=some d):∃fs,o = .sh (.ins c fs)/\d = .ins c fs/\fs.lookup m=none:=by
 unfold EX at h;split at h
 .rename_i n fs;split at h
  .rename_i l;cases h;obtain⟨rfl,l⟩:=l;exact⟨fs,rfl,rfl,l⟩
  .cases h
 .cases h
def pT.cons'{Hf H:Hp}{a:AV}{as:List AV}{v:V}{vs:List V}{F:Δ}{l:List Δ}(h:qa K Hf H a v F)(r:pT K Hf H as vs l):pT K Hf H (a::as) (v::vs) (F::l):=by
 obtain⟨x,z,e⟩:=r;refine⟨by simp[x],by simp[z],λi b w G n s u=>?_⟩
 cases i with
 |zero=>cases n;cases s;cases u;exact h
 |succ i=>exact e i b w G (by simpa using n) (by simpa using s) (by simpa using u)
def acs{k:MK}{a:MA}(I:xO K c C)(hk:SK K ta k)(ha:SA K t a):SA K (aaQ C m ta t) (Hn c m k a):=by
 intro H₀ n Hf S σ H Fs as S' R e Q q;obtain⟨o,L,e⟩:=oBq.mp e;obtain⟨d,M,e⟩:=oBq.mp e;obtain⟨x,O,e⟩:=oMq.mp e;cases e;refine hk R (a:=o.1) (S':=o.2) L _ λP H0 T v0 F0 t0 z B o0=>?_
 obtain⟨fs,U,hd,hl⟩:=WW M;rw[U]at B;obtain⟨hF,E⟩:=B.sh_inv;obtain⟨G,C',X,Y,rfl,l,s,u,he⟩:=(E.mono z.sub).ins_inv;rw[I.ns]at l;cases l;refine⟨G,X,Y,rfl,s,(Cf (f:=m) u he).1 hl,ha z (as:=x.1) (S':=x.2) O _ λHf1 H1 Fs1 vs Gs J R1 r1 o1=>?_⟩
 subst hd;refine q _ _ _ (.ref G::vs) ([]::Gs) (t0.trans J) R1 (pT.cons' (.sh (E.mono J.sf)) r1) ?_;rw[fCq,bA];exact o1.back t0
end
def RY(S:AS)(c m:Str)(k:MK)(a:MA):Hn c m k a S=(k S).bind λo=>(EX c m o.1).bind λd=>(a o.2).map λx=>(.sh d::x.1,x.2):=rfl
structure Gm (P:jS)(w:jU)(K:Ζ)(mg:Str->Υ)(base:Heap)(c:Str)(C f:Addr)(fd:jX)(ps fl:List Str):Prop where
 mki:Mk K C f
 ok:Aw P w K mg base VS 1 f fd ps (DX C fl)
 b:rR K fd ps []
 m:mg c=some (.ref C)
def Ef{X:Cx}{c:Str}{C f:Addr}{fd:jX}{ps fl:List Str}{p pos:Pos}{e:Expr}{es:List Expr}{t:TA}(G:Gm X.prog X.w X.K X.mg X.base c C f fd ps fl)(hr:tV 2 X.A)(ha:PA X (e::es) t)(s:Gl X c:=by rfl)(l:(c == ("__debug__" : Str))=false:=by decide)
  (u:jT (e::es) X.env=(false,eval e X.env)::jT es X.env:=by rfl) (n:(ko pos (jT es X.env)).any (·.1)=false:=by rfl):PE X (.Call (.Name c p) (e::es) [] pos) (Sg C (DX C fl) [] E0 t):=
 Yn G.mki G.ok hr s G.m G.b .nil OQ ha l u n
section
variable {K:Ζ}{C:Addr}{vs:List V}{H:Hp}{Q:VK}{E:XK}{f1 f2 f3 p1 p2 p3:Str}
def Ah{fl:List Str}(h:DX C fl vs H Q E):vs.length=fl.length+1:=by
 obtain⟨x,l,n,rfl,hl,_⟩:=h;rw[lCq,hl]
def Zk(cl:Lc K C)(n1:oW K C f1)(h:DX C [f1] vs H Q E):VA K (vA 0) (vA 1) f1 { nx:=λ_ n=>Q .non n,rt:=Q } (xS ["self", p1] vs) H:=by
 obtain⟨x,s,t,rfl,hl,u,q⟩:=h;obtain - | ⟨w, - | ⟨z,l⟩⟩:=t <;> cases hl
 exact⟨w,rfl,.ref x,rfl,x,C,s,[],rfl,u,cl,n1,by decide,q⟩
def ZF(cl:Lc K C)(n1:oW K C f1)(n2:oW K C f2)(J:oW K C f3)(z:¬ f1=f2)(B:¬ f1=f3)(G:¬ f2=f3)(h:DX C [f1,f2,f3] vs H Q E) :
  MV (VA K (vA 0) (vA 1) f1) (MV (VA K (vA 0) (vA 2) f2) (VA K (vA 0) (vA 3) f3)) { nx:=λ_ L=>Q .non L,rt:=Q } (xS ["self", p1,p2,p3] vs) H:=by
 obtain⟨x,t,M,rfl,hl,O,q⟩:=h;obtain - | ⟨n, - | ⟨s, - | ⟨u, - | ⟨R,l⟩⟩⟩⟩:=M <;> cases hl
 have I:xt f2 s [(f1,n)]=[(f1,n),(f2,s)]:=by simp[xt,z]
 have P:xt f3 u [(f1,n),(f2,s)]=[(f1,n),(f2,s),(f3,u)]:=by simp[xt,B,G]
 refine⟨n,rfl,.ref x,rfl,x,C,t,[],rfl,O,cl,n1,by decide,s,rfl,.ref x,rfl,x,C,t,_,rfl,oS,cl,n2,hU rfl,u,rfl,.ref x,rfl,x,C,t,_,rfl,oS,cl,J,?_,?_⟩
 .show(xt f2 s [(f1,n)]).length<1000;rw[I];exact hU rfl
 .show Q .non (qC (qC (qC H x _) x _) x (.ins C t (xt f3 u (xt f2 s [(f1,n)]))));rw[Jn,Jn,I,P];exact q
end
end Z
namespace Mr
open PySem PySem.Spec PySem.W PyProof.Rows L2 HT
section
variable {X:Cx}
def Hd{G:Φ}{s:jJ}{σ:St}{H:Hp}{ps:Δ}{rs:Λ}{r:Ϝ}{p b:Addr}(I:Inv X G σ H s)(O:X.A.units+65<ku)(u:qU H ps rs)(x:p∈ps)(B:H b=some (.lst (r.map V.int))):SeqAt.EqAt X.A.in1 s (.ref p) (.ref b) (decide (rW H p=r)):=by
 by_cases e:p=b
 .subst e;have l:=u.fn_row x;rw[B]at l;have J:r.map V.int=(rW H p).map V.int:=by injection l with l;injection l
  have L:r=rW H p:=(List.map_inj_right (λ_ _ z=>by injection z)).mp J
  rw[d4 L.symm];exact SeqAt.EqAt.same _
 .refine SeqAt.EqAt.of_refs e λprog w E Q M=>?_
  obtain⟨P,hl,hi,_⟩:=xB I (rz.of (u.fn_row x));obtain⟨R,n,t,_⟩:=xB I (rz.of B);exact W.eq_intsK (prog:=prog) (w:=w) (A:=X.A.in1) hl hi n t (by show X.A.units+1+64<ku;lia) M
noncomputable def aeA(neg:Bool):R2:=λx y H Q=>∃(b a:Addr) (ps:Δ) (rs:Λ) (r:Ϝ),x = .ref b/\y = .ref a/\H a=some (.lst (ps.map V.ref))/\qU H ps rs/\H b=some (.lst (r.map V.int))/\Q (.bl (if neg then !decide (r∈rs)else decide (r∈rs))) H
def Ut{H:Hp}{ps:Δ}{rs:Λ}{r:Ϝ}(s:qU H ps rs):(ps.map aW).toArray.any (λy=>decide (rW H (wB y)=r))=decide (r∈rs):=by
 rw[List.any_toArray,iQ,cx,fK,decide_eq_true_iff,s.fn,mMq];refine⟨λl=>?_,λ⟨p,n,z⟩=>⟨p,n,d4 z⟩⟩
 obtain⟨p,n,z⟩:=l;exact⟨p,n,of_decide_eq_true z⟩
def Rp(t:X.A.units+65<ku):G1 X (kg .NotIn) (aeA true):=by
 intro R s σ H x y v u Q I z B h;obtain⟨b,a,S,T,r,rfl,rfl,E,l,G,q⟩:=h;cases z;cases B;obtain⟨J,L,M,U⟩:=I.list (rz.of E);have O:=xk L;subst O;refine SeqAt.notIn_listAt (λy=>decide (rW H (wB y)=r)) M.isList (λy n=>?_) ?_
 .rw[List.mem_toArray]at n;obtain⟨p,P,rfl⟩:=mMq.mp n;exact Hd I t l P G
 .rw[Ut l];exact⟨.bl _,H,I,rfl,q⟩
def OO:V->List V->Hp->VK->Prop:=λx vs H Q=>∃(a b:Addr) (ps:Δ) (rs:Λ) (r:Ϝ),x = .ref a/\vs=[.ref b]/\H a=some (.lst (ps.map V.ref))/\qU H ps rs/\H b=some (.lst (r.map V.int))/\r∈rs/\Q (.int (rs.idxOf r:Nat)) H
def Q6(Y:X.A.units+65<ku):MtR X "list.index" OO:=by
 intro oh s σ H x xs v us Q I rx r h;obtain⟨a,b,l,t,row,rfl,rfl,h1,E,h2,hm,q⟩:=h;cases rx;obtain⟨u,rfl,ru⟩:=Ai r;cases ru;obtain⟨its,rv,⟨o,n,M,O,B,hd⟩,hz⟩:=I.list (rz.of h1);have ei:=xk rv;subst ei;obtain⟨cls,dd,P,sl⟩:=o;simp only at O B hd;subst O B hd;have R:t.idxOf row<t.length:=cA.mpr hm;have hs:jP=16777216:=ka;have hl:l.length=t.length:=by rw[E.fn,lMq]
 rw[lMq]at hz;have S:∀i (hi:i<l.length),rW H l[i]=t[i]'(hl ▸ hi):=λi hi=>by
  have:=E.fn;have T:t[i]?=(l.map (rW H))[i]?:=by rw[←this]
  rw[gMq,gEg hi,gEg (hl ▸ hi)]at T;exact(aw.inj T).symm
 refine kC cD ⟨_,M,rfl⟩ gJ (gB _ _)
  (SeqAt.list_indexAt a (l.map aW).toArray n none sl (.ref b) (λy=>decide (rW H (wB y)=row)) (t.idxOf row) (by simp[hl];exact R) (by lia) ?_ ?_) ⟨M,λy hy=>?_,?_⟩
 .rw[eU,fL];refine d4 ?_;show rW H l[t.idxOf row]=row;rw[S _ (hl ▸ R),eD]
 .intro j G J;rw[eU,fL];refine d6 ?_;have L:j<l.length:=by simpa using G
  show ¬ rW H l[j]=row;rw[S j L];intro z;have U:=fD (p:=(· == row)) J;rw[beq_eq_false_iff_ne]at U;exact U z
 .obtain⟨p,hp,rfl⟩:=mMq.mp (show y∈l.map aW by simpa using hy)
  exact Hd I Y E hp h2
 .exact⟨.int _,H,I.tok _,⟨_,rfl⟩,q⟩
end
end Mr
namespace Z
open PySem L2 Mr Xe
def acI(neg:Bool)(a:ME):ME:=λS=>(a S).bind λx=>match x.1 with
 | .list ds=>(uH ds).map λrs=>(.bl (if neg then !decide (([]:Ϝ)∈rs)else decide (([]:Ϝ)∈rs)),x.2)
 |_=>none
def Sh(a:ME):ME:=λS=>(a S).bind λx=>match x.1 with
 | .list ds=>(uH ds).bind λrs=>if ([]:Ϝ)∈rs then some (.int (rs.idxOf []:Nat),x.2)else none
 |_=>none
section
variable {K:Ζ}{te:TE}{a:ME}
def abX(neg:Bool)(ha:SR K te a):SR K (YV (aeA neg) (Ry vI) te) (acI neg a):=by
 intro H₀ l Hf S σ H T d U R e Q q;obtain⟨x,t,e⟩:=oBq.mp e;refine⟨aT _,λb hb=>?_⟩
 obtain⟨u,z,n1,n2,X⟩:=R.new (o:=.lst []) hb;refine ha z (d:=x.1) (S':=x.2) t _ λB Y Fs1 v n E s=>?_
 split at e
 .rename_i ds G;obtain⟨I,J,e⟩:=oMq.mp e;cases e;rw[G,ze J]at s;obtain⟨p,us,rfl,L,M⟩:=s.list_inv;obtain⟨O,rfl,P⟩:=ux M;exact⟨b,p,O,I,[],rfl,rfl,L,P,n.sh _ _ oS,q _ _ _ _ (u.trans n) E .bl⟩
 .cases e
def X9(ha:SR K te a):SR K (Pu K "list" OO te (uf (Ry vI) vI)) (Sh a):=by
 intro H₀ l Hf S σ H U d X R e Q q;obtain⟨x,u,e⟩:=oBq.mp e;refine ha R (d:=x.1) (S':=x.2) u _ λz Y Fs1 v B E s=>?_
 split at e
 .rename_i ds G;obtain⟨I,J,e⟩:=oBq.mp e;split at e
  .rename_i L;cases e;rw[G,ze J]at s;obtain⟨p,us,rfl,n,M⟩:=s.list_inv;obtain⟨O,rfl,P⟩:=ux M;refine⟨.inl ⟨rfl,_,rz.of n⟩,aT _,λb hb=>?_⟩
   obtain⟨t,T,n1,n2,n3⟩:=E.new (o:=.lst []) hb;exact⟨p,b,O,I,[],rfl,rfl,(by rw[oQ (qH n hb)];exact n),P.same t.sh,oS,L,q _ _ _ _ (B.trans t) T .int⟩
  .cases e
 .cases e
end
def adA(S:AS)(neg:Bool)(a:ME):acI neg a S=(a S).bind λx=>match x.1 with
 | .list n=>(uH n).map λl=>(.bl (if neg then !decide (([]:Ϝ)∈l)else decide (([]:Ϝ)∈l)),x.2)
 |_=>none:=rfl
def abB(S:AS)(a:ME):Sh a S=(a S).bind λx=>match x.1 with
 | .list n=>(uH n).bind λl=>if ([]:Ϝ)∈l then some (.int (l.idxOf []:Nat),x.2)else none
 |_=>none:=rfl
end Z
namespace Mr
open PySem PySem.Calls PySem.Spec PyProof.Rows L2
open PySem.MeetsSeq (size_erased plain_remove_loop entry_remove_loop)
section
variable {X:Cx}
theorem Pq{l:Addr}{t:Ω}{n:Nat}{x:Value}{eq:Value->Bool}{j:Nat}(E:j<t.size)(z:eq t[j]=true)(hz:t.size<=jP):∀(d i:Nat),i+d=j->(∀m (H:m<t.size),i<=m->m<j->eq t[m]=false) ->
  Meets (Builtin.«list.remove.loop» ⟨[.ref l,x,rawInt i],[]⟩) λA R s=>s.heap.get? l=some ⟨.type "list", none,.seq t n,#[]⟩/\(∀y,y∈t->SeqAt.EqAt A.in1 s y x (eq y))/\R (.ok (.ret .none)) { s with heap:=s.heap.update l (Obj.mapSeq λxs=>xs.eraseIdxIfInBounds j) }
 |0,i,I,u=>λprog w A R s ⟨hl,B,h⟩=>by
  obtain⟨J,g,d,L,os⟩:=s;obtain rfl:i=j:=by lia
  (wp_walk using wpAny_loadPart' hl);rw[show t[((i:Nat):Int).toNat]?=some t[i] by simp[E]]
  refine jO (B _ (aX E) prog w _ _ ?_);rw[z];have G:(t.eraseIdxIfInBounds i).size<=jP+1:=bX (size_erased t i) (by lia)
  (wp_walk using (wpAny_updateSeq hl rfl (hz:=hz) (_hz':=G)),wpAny_loadPart' hl);simpa using h
 |d+1,i,I,u=>λprog w A R s ⟨hl,B,h⟩=>by
  obtain⟨J,g,O,L,os⟩:=s;have hi:i<t.size:=by lia
  (wp_walk using wpAny_loadPart' hl);rw[show t[((i:Nat):Int).toNat]?=some t[i] by simp[hi]]
  refine jO (B _ (aX hi) prog w _ _ ?_);rw[u i hi (aa _) (by lia)]
  wp_walk;rw[show((i:Int)+1)=((i+1:Nat):Int) by push_cast;rfl]
  refine⟨lO plain_remove_loop _,kB entry_remove_loop ?_⟩;rw[Around.under_plainId plain_remove_loop _];exact Pq E z hz d (i+1) (by lia) (λm H P M=>u m H (by lia) M) prog w A R _ ⟨hl,B,h⟩
def aaN{l:Addr}{t:Ω}{n:Nat}{x:Value}{eq:Value->Bool}{j:Nat}(E:j<t.size)(u:eq t[j]=true)(hz:t.size<=jP)(z:∀m (B:m<t.size),m<j->eq t[m]=false) :
  Meets (Builtin.«list.remove» ⟨[.ref l,x],[]⟩) λA R s=>s.heap.get? l=some ⟨.type "list", none,.seq t n,#[]⟩/\(∀y,y∈t->SeqAt.EqAt A.in1 s y x (eq y))/\R (.ok (.ret .none)) { s with heap:=s.heap.update l (Obj.mapSeq λxs=>xs.eraseIdxIfInBounds j) }:=λprog w A R s ⟨hl,G,h⟩=>by
 obtain⟨I,g,d,J,os⟩:=s
 (wp_walk using wpAny_loadPart' hl);refine⟨lO plain_remove_loop _,kB entry_remove_loop ?_⟩
 rw[Around.under_plainId plain_remove_loop _];exact Pq E u hz j 0 (by lia) (λm B _ H=>z m B H) prog w A R _ ⟨hl,G,h⟩
def M5:∀{vs:List V}{us:Ξ},pU vs us->∀k:Nat,pU (vs.eraseIdx k) (us.eraseIdx k):=by
 intro vs us h
 induction h with
 |nil=>intro k;exact .nil
 |cons a t l=>
  intro k;cases k with
  |zero=>exact t
  |succ k=>exact .cons a (l k)
def ZG:V->List V->Hp->VK->Prop:=λx vs H Q=>∃(a b:Addr) (ps:Δ) (rs:Λ) (r:Ϝ),x = .ref a/\vs=[.ref b]/\H a=some (.lst (ps.map V.ref))/\qU H ps rs/\H b=some (.lst (r.map V.int))/\r∈rs/\Q .non (qC H a (.lst ((ps.map V.ref).eraseIdx (rs.idxOf r))))
def X0(T:X.A.units+65<ku):MtM X "list.remove" ZG:=by
 intro oh s σ H x vs v us Q I U Y h;obtain⟨a,b,t,B,row,rfl,rfl,O,E,h2,hm,q⟩:=h;cases U;obtain⟨u,rfl,ru⟩:=Ai Y;cases ru;obtain⟨z,its,n,r,hl,e⟩:=I.lstM O;have ei:=xk r;subst ei;have G:B.idxOf row<B.length:=cA.mpr hm;have l:t.length=B.length:=by rw[E.fn,lMq]
 have P:∀i (hi:i<t.length),rW H t[i]=B[i]'(l ▸ hi):=λi hi=>by
  have R:B[i]?=(t.map (rW H))[i]?:=by rw[←E.fn]
  rw[gMq,gEg hi,gEg (l ▸ hi)]at R;exact(aw.inj R).symm
 refine kC gK ⟨_,e,rfl⟩ PySem.F.entry_list_remove (PySem.F.args_list_remove_2 _ _)
  (aaN (eq:=λy=>decide (rW H (wB y)=row)) (j:=B.idxOf row) (by simp[l];exact G) ?_ ?_ ?_) ⟨e,λy hy=>?_,?_⟩
 .rw[eU,fL];exact d4 (show rW H t[B.idxOf row]=row by rw[P _ (l ▸ G),eD])
 .rw[aA];rw[←hl];exact z
 .intro j J L;have M:j<t.length:=by simpa using J
  rw[eU,fL];refine d6 (show ¬ rW H t[j]=row from λz=>?_)
  rw[P j M]at z;have S:=fD (p:=(· == row)) L;rw[beq_eq_false_iff_ne]at S;exact S z
 .obtain⟨p,hp,rfl⟩:=mMq.mp (show y∈t.map aW by simpa using hy)
  exact Hd I T E hp h2
 .refine⟨.non,_,I.lset (its':=(t.map aW).eraseIdx (B.idxOf row)) O e ?_ ?_ ?_,rfl,q⟩
  .unfold Array.eraseIdxIfInBounds;rw[dif_pos (by simp[l];exact G)]
   apply Array.toList_inj.mp;simp
  .exact M5 r _
  .rw[dS];split
   .have:=z;lia
   .have:=z;lia
end
end Mr
namespace Z
open PySem L2 Mr Xe
def S5(i:Nat)(b:ME):MS:=λS=>(qL S i).bind λ_=>(b S).bind λy=>(Ks y.1).bind λes=>(rB es).bind λr=>(qL y.2 i).bind λl=>(uH (l.map oB)).bind λrs=>(l[rs.idxOf r]?.bind VR).bind λ_=>if r∈rs then some (.nx (y.2.set i (some (.ow (l.eraseIdx (rs.idxOf r))))))else none
def YT{K:Ζ}{i:Nat}{G:TE}{b:ME}(hb:SR K G b):SS K (AC (Pu K "list" ZG (vA i) (uf G vI))) (S5 i b):=by
 intro H₀ s Hf S σ H Fs o R e D h;obtain⟨a0,P,e⟩:=oBq.mp e;obtain⟨y,Q,e⟩:=oBq.mp e;obtain⟨T,t,e⟩:=oBq.mp e;obtain⟨r,U,e⟩:=oBq.mp e;obtain⟨X,I,e⟩:=oBq.mp e;obtain⟨Y,e5,e⟩:=oBq.mp e;obtain⟨d0,e6,e⟩:=oBq.mp e;split at e
 .rename_i hm;cases e;obtain⟨a,e7,u⟩:=oBq.mp e6;have u:=NA u;subst u;obtain⟨p,vs,Gs,x,_,h1,_⟩:=R.ow (pQ P);refine⟨.ref p,x,.inl ⟨rfl,vs,rz.of h1⟩,hb R (d:=y.1) (S':=y.2) Q _ λHf1 H1 Fs1 v t1 z J=>?_⟩
  obtain⟨p',B,w,F',n,hp,hl,hw,rw',R2⟩:=z.lose (pQ I) e7;rw[x]at n;cases n;obtain⟨v0,F0,L,_,rr⟩:=z.rep i _ (pQ I);rw[x]at L;cases L;have l:=rr.rep z.sub;rw[rJ,ze e5]at l;obtain⟨p2,us,q2,E,h4⟩:=l.list_inv;cases q2;obtain⟨M,rfl,hE⟩:=ux h4;have ev:B=M.map V.ref:=by
   rw[hp]at E;cases E;rfl
  subst ev;have ey:y.1 = .list T:=by
   revert t
   unfold Ks;split <;> intro t <;> cases t
   assumption
  rw[ey,xh U]at J;obtain⟨b',us',rfl,O,g4⟩:=J.list_inv;rw[sQ g4]at O;exact⟨p,b',M,Y,r,rfl,rfl,E,hE,O,hm,h _ _ _ _ t1.sf R2⟩
 .cases e
def abk(S:AS)(i:Nat)(b:ME):S5 i b S=(qL S i).bind λ_=>(b S).bind λy=>(Ks y.1).bind λes=>(rB es).bind λr=>(qL y.2 i).bind λl=>(uH (l.map oB)).bind λrs=>(l[rs.idxOf r]?.bind VR).bind λ_=>if r∈rs then some (.nx (y.2.set i (some (.ow (l.eraseIdx (rs.idxOf r))))))else none:=rfl
def Tg(i:Nat)(m:ME):MS:=λS=>(m S).map λx=>.nx (x.2.set i (some (.ow [.sh x.1])))
def YW{K:Ζ}{i:Nat}{te:TE}{m:ME}(h:SM K te m):SS K (HD (Ry (uf te vI)) (rS i)) (Tg i m):=by
 intro H₀ l Hf S σ H L o R e D hd;obtain⟨x,s,e⟩:=oMq.mp e;cases e;refine h R (d:=x.1) (S':=x.2) s _ λn t Fs1 v u z B=>⟨by rw[ka];show 1<=16777216;decide,λp E=>?_⟩
 obtain⟨M,R2,n1,n2,G⟩:=z.new (o:=.lst [v]) E;have I:qa K n (qC t p (.lst [v])) (.ow [.sh x.1]) (.ref p) [p]:=qa.new (ds:=[x.1]) oS n1 (.cons B .nil);exact hd _ _ _ _ u (R2.set i I (by simp) λq J=>by
  rw[mSq.mp J];exact⟨n2,G⟩)
def aaA(S:AS)(i:Nat)(m:ME):Tg i m S=(m S).map λx=>.nx (x.2.set i (some (.ow [.sh x.1]))):=rfl
end Z
namespace Z
open PySem L2 Mr
def Yp:D->Option (List D)
 | .tup ds=>some ds
 |_=>none
noncomputable def FY:Θ->List D->AS->AS
 |i::is,d::ds,S=>FY is ds (S.set i (some (.sh d)))
 |_,_,S=>S
def Iw(is:Θ)(k:MK):MS:=λS=>(k S).bind λx=>(Yp (oB x.1)).bind λds=>if ds.length=is.length then some (.nx (FY is ds x.2))else none
def NW(is:Θ)(k:MK)(S:AS):Iw is k S=(k S).bind λx=>(Yp (oB x.1)).bind λds=>if ds.length=is.length then some (.nx (FY is ds x.2))else none:=rfl
def VE(ds:List D):Yp (.tup ds)=some ds:=rfl
def Jd(i:Nat)(is:Θ)(d:D)(ds:List D)(S:AS):FY (i::is) (d::ds) S=FY is ds (S.set i (some (.sh d))):=rfl
def Jo(S:AS):FY [] [] S=S:=rfl
def gNs:Θ->Za
 | []=>Mx
 |i::is=>Aj (rS i) (gNs is)
section
variable {K:Ζ}{te:TE}{k:MK}
theorem Se{H₀ l Hf H:Hp}{Q:St->Hp->Prop}:∀(is:Θ) {ds:List D}{vs:List V}{S:AS}{σ:St}{s:List Δ},ds.length=is.length->qv K Hf ds vs->qj K H₀ l Hf S σ H s->(∀n t,qj K H₀ l Hf (FY is ds S) n H t->Q n H)->gNs is vs σ H Q
 | [],[],vs,S,σ,s,_,r,R,h=>⟨r.nil_inv,h _ _ R⟩
 |i::is,d::ds,vs,S,σ,s,e,r,R,h=>by
  obtain⟨v,u,rfl,x,z⟩:=r.cons_inv;exact⟨v,u,rfl,Se is (Nat.succ.inj e) z (R.setD i x) h⟩
def W7(is:Θ)(hk:SK K te k):SS K (HD te (Mo K is.length (gNs is))) (Iw is k):=by
 intro H₀ n Hf S σ H U o R e D h;obtain⟨x,E,e⟩:=oBq.mp e;obtain⟨u,l,e⟩:=oBq.mp e;have s:SK K te (uR k):=SK.frz hk;refine s R (a:=.sh (oB x.1)) (S':=x.2) (by show(k S).map _=_;rw[E];rfl) _ λG X Fs1 v F I z J Y=>?_
 obtain⟨hF,r⟩:=J.sh_inv;have L:oB x.1 = .tup u:=by
  unfold Yp at l;split at l
  .rename_i hd;cases l;exact hd
  .cases l
 rw[L]at r
 by_cases hl:u.length=is.length
 .rw[pB hl]at e;cases e;obtain⟨t,M,rfl,O,B⟩:=r.tup_inv;exact⟨t,M,rfl,Ej.of (z.sub _ _ O),by rw[←B.1];exact hl,Se is hl B z λP Q T=>h _ _ _ _ I.sf T⟩
 .rw[oZ hl]at e;cases e
end
end Z
namespace Ms
open PySem PyProof.Rows Mr
noncomputable def af9(F:Ϝ)(k:Int):Ϝ:=if k∈F then F else F++[k]
def dd(ns:Ϝ):Ϝ:=ns.foldl af9 []
def SA(h:Heap)(a:Addr)(es:Array (Int×Value))(ep:Nat)(t:SetTable):Prop:=∃o,h.get? a=some o/\o.ExactSet/\o.data = .set es ep t
end Ms
namespace Z
open PySem PySem.Spec PyProof.Rows L2 Mr Xe
section
variable {X:Cx}
def P5:si X (.type "int") (λxs H Q=>∃b,xs=[.bl b]/\Q (.int (if b=true then 1 else 0)) H):=by
 intro n s σ H xs us Q I r h;obtain⟨b,rfl,q⟩:=h;obtain⟨u,rfl,l⟩:=Ai r;cases l;exact call_int_bool ⟨.int (if b=true then 1 else 0),H,I.tok _,⟨_,rfl⟩,q⟩
end
def KQ:List D->Option D
 | [.bl b]=>some (.int (if b=true then 1 else 0))
 |_=>none
def ZZ(b:Bool):KQ [.bl b]=some (.int (if b=true then 1 else 0)):=rfl
def Wv{K:Ζ}:Zp K (λxs H Q=>∃b,xs=[.bl b]/\Q (.int (if b=true then 1 else 0)) H) KQ:=by
 intro s H Q t d r e q;unfold KQ at e;split at e
 .obtain⟨v,u,rfl,l,n⟩:=r.cons_inv;rw[n.nil_inv];cases l;cases e;exact⟨_,rfl,q _ .int⟩
 .cases e
end Z
namespace Mr
open PySem PySem.Spec PyProof.Rows L2
section
variable {X:Cx}{pos:Pos}{i:Nat}{x:Str}{N P:List Str}{sc:kJ}
def oH{e:Expr}{te:TE}{l:Pos}(S:oI N P sc)(n:PE X e te)(s:X.N=N:=by rfl)(hi:X.N[i]?=some x:=by rfl)(t:Loc X.env.scope x:=by first|exact Or.inl rfl|exact iZ rfl)(u:lJ e (some (.Name x l)) pos.line X.env=pure false:=by rfl)(z:X.fn x=true∨X.env.scope.names.lookup x=some .local:=by trivial) :
  PS X (.Assign [.Name x l] e pos) (HD te (rS i)):=aal (s ▸ S.nd) hi t n u z
def qI(S:oI N P sc)(l:X.N=N:=by rfl)(hi:X.N[i]?=some x:=by rfl)(n:Loc X.env.scope x:=by first|exact Or.inl rfl|exact iZ rfl)(s:X.fn x=true∨X.env.scope.names.lookup x=some .local:=by trivial):PG X (.Name x pos) (rS i):=Jm (l ▸ S.nd) hi n s
end
section
variable {X:Cx}{k n:Nat}{f:Addr}{fd:jX}{ps:List Str}{sp:Sp}{x:Str}{p pos:Pos}{e:Expr}{es:List Expr}{t:TA}{st:Stmt}
def oO(G:Fn X.prog X.w X.K X.mg X.base k x st ps sp f fd)(hr:tV n X.A)(ha:PA X (e::es) t)(hk:k<=n:=by decide)(u:Gl X x:=by rfl)(l:(x == ("__debug__" : Str))=false:=by decide)
  (z:jT (e::es) X.env=(false,eval e X.env)::jT es X.env:=by rfl) (s:(ko pos (jT es X.env)).any (·.1)=false:=by rfl) :
  PE X (.Call (.Name x p) (e::es) [] pos) (GR sp [] E0 t):=ZI G (hr.mono hk) ha u l z s
end
def sC{N P:List Str}{l:kJ}(a:l.kind = .function:=by rfl)(b:l.isCoroutine=false:=by rfl)(c:l.isGenerator=false:=by rfl)(d:N.Nodup:=by trivial)(e:N.take P.length=P:=by rfl)(f:∀x∈P,l.names.lookup x=some .local∨l.names.lookup x=some .cell:=by trivial)(g:∀y∈l.names,y.2 ≠ .free:=by trivial):oI N P l:=⟨a,b,c,d,e,f,g⟩
def yO{P:jS}{w:jU}{K:Ζ}{mg:Str->Υ}{base:Heap}{k:Nat}{x:Str}{st:Stmt}{ps N:List Str}{f:Addr}{fd:jX}{m:Z.MS}(D:xC K mg x st ps f fd)(S:oI N ps (ou st))
  (h:∀(l:Value) (A:Around) (outer:List Env) (s:jJ) (H:Hp) (E:XK),tV k (A.deeper (kQ x (ou st) s.heap.objs.size f l))->(A.deeper (kQ x (ou st) s.heap.objs.size f l)).units+64<ku->(A.deeper (kQ x (ou st) s.heap.objs.size f l)).units+65<ku ->
   ∃t,Oq (MR VS P w K mg base N x (ou st) f l A outer s H E).nox (rM st) t/\Z.SS K t m):Fn P w K mg base (k+1) x st ps (Z.qo K (Z.qK ps.length N.length m)) f fd:=
 ⟨D,D.F.ok S (λn H Q E h=>Z.B9 h) λl A outer s H n Q E hr hh=>by
  obtain⟨t,a,b⟩:=h l A outer s H E hr hr.units (tV.units65 hr);exact⟨t,a,Z.xx N b hh⟩⟩
def SB{X:Cx}{a:Expr}{n:TE}(K:Ζ)(ha:PE X a n)(t:∀l,mJ a X.env l=(do let v ←l;lU a.pos;lY [v] (truthy v)))(u:X.K=K:=by rfl) :
  PT X a (λσ H Q=>n σ H λx s=>∃k,XJ K x s k/\Q k s):=u ▸ A3 ha t
end Mr
namespace Mr
open PySem L2
variable {K:Ζ}{h:Heap}{mg:Str->Υ}{x z:Str}{st:Stmt}{f O:Addr}{fd:jX}
structure At (K:Ζ)(x:Str)(st:Stmt)(f:Addr)(fd:jX):Prop where
 a:W.nsIn K jQ x=some (some (.ref f))
 F:JN K x x st f fd
structure AtM (K:Ζ)(O:Addr)(z x:Str)(st:Stmt)(f:Addr)(fd:jX):Prop where
 a:W.findIn K (.ref O) z=some (some (.ref f))
 F:JN K z x st f fd
 i:W.isFn K (.ref f)=true
section
variable {oc kV doc pm wJ ct:Value}{od an:Option Addr}{osl:Array Υ}
def ade(a:W.nsIn K jQ x=some (some (.ref f)))(l:K.lookup f=some ⟨oc,od,.func (W.fnOf x x (sI st) (rM st) (ou st) .none kV doc pm an wJ ct),osl⟩)
  (c:W.codeIn K wJ x=true) (k:W.keepIn K (.ref f)=true):At K x st f (W.fnOf x x (sI st) (rM st) (ou st) .none kV doc pm an wJ ct):=⟨a,wD l c k⟩
def aaK(a:W.findIn K (.ref O) z=some (some (.ref f)))(l:K.lookup f=some ⟨oc,od,.func (W.fnOf z x (sI st) (rM st) (ou st) .none kV doc pm an wJ ct),osl⟩)
  (c:W.codeIn K wJ x=true) (k:W.keepIn K (.ref f)=true) (i:W.isFn K (.ref f)=true):AtM K O z x st f (W.fnOf z x (sI st) (rM st) (ou st) .none kV doc pm an wJ ct):=⟨a,wD l c k,i⟩
end
abbrev BA(x q:Str)(st:Stmt)(ps:List Str)(us:Ξ):Prop:=∀(kV l pm:Value) (n:Option Addr) (s ct:Value),bindArgs (W.fnOf x q (sI st) (rM st) (ou st) .none kV l pm n s ct) ⟨us,[]⟩=pure (ps.zip us)
section
variable {q a b c d:Str}(F:JN K x q st f fd)
include F
def b1(h:∀u,BA x q st [a] [u]:=by exact λ_ _ _ _ _ _ _=>rfl):rR K fd [a] []:=F.binds λ_ _ _ _ _ _ us hl=>by
 obtain - | ⟨u, - | ⟨v,l⟩⟩:=us <;> cases hl
 apply h
def b2(h:∀u v,BA x q st [a,b] [u,v]:=by exact λ_ _ _ _ _ _ _ _=>rfl):rR K fd [a,b] []:=F.binds λ_ _ _ _ _ _ us hl=>by
 obtain - | ⟨u, - | ⟨v, - | ⟨w,l⟩⟩⟩:=us <;> cases hl
 apply h
def b3(h:∀u v w,BA x q st [a,b,c] [u,v,w]:=by exact λ_ _ _ _ _ _ _ _ _=>rfl):rR K fd [a,b,c] []:=F.binds λ_ _ _ _ _ _ us hl=>by
 obtain - | ⟨u, - | ⟨v, - | ⟨w, - | ⟨y,l⟩⟩⟩⟩:=us <;> cases hl
 apply h
def b4(h:∀u v w y,BA x q st [a,b,c,d] [u,v,w,y]:=by exact λ_ _ _ _ _ _ _ _ _ _=>rfl):rR K fd [a,b,c,d] []:=F.binds λ_ _ _ _ _ _ us hl=>by
 obtain - | ⟨u, - | ⟨v, - | ⟨w, - | ⟨y, - | ⟨z,l⟩⟩⟩⟩⟩:=us <;> cases hl
 apply h
end
def zj{ps:List Str}(X:K.In h)(G:h.Ns jQ mg)(a:At K x st f fd)(b:rR K fd ps []):xC K mg x st ps f fd:=⟨a.F,W.mg_of X G a.a,b⟩
end Mr
namespace Zl
open PySem L2 Mr Z
def QJ:MS:=(pZ (kSc (Rh (oV Yz (oj 0) (rC (.int 0))) (oV M0 (tT afY (oi (oj 0) ox)) (oV E5 (rC (.int 10)) (rC (.int 60)))))))
def UZ:MF:=qK 1 1 QJ
def D2:MS:=(oz (wk (rA (oV GP (tT qM (oi (oj 0) ox)) (rC (.int 0)))) (pZ (qF oC)) pH)
 (oz (oN 1 (kSc (rBM "list" AI (oj 0) (oi (tT Rw (oi (oj 0) ox)) ox))))
 (pZ (BP (lOf (Ot (uj 0) (wK (oj 1)) Ap)) (lOf (Ot (uj 0) Ap (wK (oj 1))))))))
def yR:MF:=qK 1 2 D2
def uZ:MS:=(N4 1 (Au 2))
def zV:MS:=(oz (oN 1 (qF oC))
 (oz (A5 2 (oy 0) uZ)
 (pZ (EV 1))))
def oX:MF:=qK 1 3 zV
def xJ:MS:=(oz (wk (rA (oV Lu (tT qM (oi (rOf (oJ Zl.oX (om (oy 0) oC))) ox)) (rC (.int 128)))) AF pH)
 (wk (rA (oV Lu (Pf (oj 0)) (rC (.int 128)))) AF pH))
def tD:MF:=qK 1 1 xJ
def zo:MS:=(oz (wk (rA (oV M0 (oj 1) (tT qM (oi (oj 0) ox)))) (pZ (kSc (oV zh (oj 0) (oj 1)))) pH)
 (pZ (kSc (rC (.int 0)))))
def oA:MF:=qK 2 2 zo
def yL:MS:=(pZ (Fw (tj (Bh (oy 0)) [] rZ (oJ Zl.yR (om (oy 0) oC)))))
def rD:MF:=qK 1 1 yL
def BS:MX:=(xIf (vD (rA (qP Zl.UZ (oi (oj 1) ox)))) (NR "NoEnd" "end" (oi (oj 1) ox)) (Qp pH))
def Dn:MX:=(abM 1 (oy 0) BS)
def D3:Sr:=Rj 1 2 Dn
def B6:MX:=(E3 (xIf (rA (aft (oj 2) (oj 1))) (NR "Twice" "end" (oi (oj 2) ox)) (Qp pH)) (Qp (yG 1 (oj 2) (kSc (rC (.bl true))))))
def Ec:MX:=(E3 (Qp (oN 1 yB))
 (abM 2 (oy 0) B6))
def EZ:Sr:=Rj 1 3 Ec
def DE:MS:=(yG 1 (oj 2) (kSc (rC (.bl true))))
def Dk:MX:=(xIf (rA (sZ (Ak vz (oj 2)) (oj 1))) (NR "Lone" "end" (oi (oj 2) ox)) (Qp pH))
def EY:MX:=(E3 (Qp (oN 1 yB))
 (E3 (Qp (A5 2 (oy 0) DE))
 (abM 2 (oy 0) Dk)))
def FN:Sr:=Rj 1 3 EY
def BQ:MX:=(E3 (xIf (rA (oV Lu (tT qM (oi (rOf (oJ Zl.oX (om (oy 0) oC))) ox)) (rC (.int 128)))) (OW "TooMany") (Qp pH))
 (xIf (rA (oV Lu (Pf (oj 0)) (rC (.int 128)))) (OW "TooMany") (Qp pH)))
def CD:Sr:=Rj 1 1 BQ
def KF:MX:=(E3 (Qp (oN 1 (oJ Zl.oX (om (oy 0) oC))))
 (E3 (Oz Zl.D3 (om (oy 1) oC))
 (E3 (Oz Zl.EZ (om (oy 1) oC))
 (E3 (Oz Zl.FN (om (oy 1) oC))
 (E3 (Oz Zl.CD (om (oy 0) oC))
 (Qp (pZ (oJ Zl.rD (om (oy 0) oC)))))))))
def N8:Sr:=Rj 1 2 KF
def G6:MS:=(pZ (M9 (lOf (oJ Zl.oX (om (oy 0) oC)))))
def yT:MF:=qK 1 1 G6
def EE:MS:=(pZ (tj (Bh (oJ Zl.yT (om (oy 0) oC))) [] (rA (oV Lu (oj 0) (rC (.int 0)))) (oy 0)))
def xN:MF:=qK 1 1 EE
def xH:MS:=(yG 1 (oj 4) (oy 2))
def xp:MS:=(A5 4 (oy 3) xH)
def Dc:MS:=(oz (oN 1 yB)
 (oz (TK 2 3 (oy 0) xp)
 (pZ (EV 1))))
def ye:MF:=qK 1 5 Dc
def DF(ns:Ϝ){k:Int}(h:0<=k):oA [.scr ns,.int k]=i0 (cell ns k.toNat):=by
 by_cases c:k<(ns.length:Int)
 .have hk:k.toNat<ns.length:=by lia
  have e:ns.getD k.toNat 0=ns[k.toNat]:=yj hk
  simp_arith [oA,zo,c,Jj h,gEg hk,cell,e]
 .have hk:ns.length<=k.toNat:=by lia
  have e:ns.getD k.toNat 0=0:=by rw[gDq,bK hk];rfl
  simp_arith [oA,zo,c,cell,e]
def Zi(ns:Ϝ):oA [.scr ns,.int 0]=i0 (cell ns 0):=DF ns (by decide)
def aeO(ns:Ϝ):oA [.scr ns,.int 1]=i0 (cell ns 1):=DF ns (by decide)
def adu(ns:Ϝ):oA [.scr ns,.int 2]=i0 (cell ns 2):=DF ns (by decide)
noncomputable def HK{n:Int}{ns:Ϝ}:ns.foldl min n∈n::ns/\∀x∈n::ns,ns.foldl min n<=x:=⟨yz ns n,λx l=>(ab.mp l).elim (λe=>e ▸ (wY ns n).1) ((wY ns n).2 x)⟩
def P1{ns:Ϝ}(hl:ns.length<=500000):yR [dI ns]=some (aI (good ns)):=by
 cases ns with
 |nil=>
  have t:((0:Nat):Int)=0:=rfl
  simp_arith [yR,D2,t]
  rfl
 |cons n ns=>
  obtain⟨t,x⟩:=HK (n:=n) (ns:=ns);have e:=AO t x;have l:=G8 (n::ns);have u:¬ ((n::ns).length:Int)=0:=by simp only[lCq];lia
  have z:Rw [dI (n::ns)]=some (.int (ns.foldl min n)):=by
   show(rB ((n::ns).map D.int)).bind (λns=>(Jl ns).map D.int)=_
   rw[sj];rfl
  have B:AI (dI (n::ns)) [.int (ns.foldl min n)]=some (.int (pW (n::ns) (n::ns).length:Nat)):=by
   show(rB ((n::ns).map D.int)).bind _=_;rw[sj];show(if _ then _ else _)=_
   rw[pB t,e]
  generalize E:n::ns=N at *;have s:(N.drop (pW N N.length)).length+(N.take (pW N N.length)).length<=qE:=by rw[ax,lTq];show _<=16777216;lia
  simp_arith [yR,D2,u,z,B,uo,Ft N _ l,Ek N _ l,s,←mBq,C6]
  rfl
noncomputable def rN{rs:Λ}{i:Nat}{r:Ϝ}(h:rs[i]?=some r):(rs.take (i+1)).flatten=(rs.take i).flatten++r:=by
 rw[dQ,h,fAq];simp
def uE(rs:Λ)(i:Nat):(rs.take i).flatten.length<=rs.flatten.length:=by
 have:=congrArg bV (congrArg jB (aR i rs));rw[fAq,lAq]at this;lia
def Bn{rs:Λ}{i:Nat}{d:D}(h:(rs.map dI)[i]?=some d):∃r,rs[i]?=some r/\d=dI r:=by
 rw[gMq]at h;obtain⟨r,l,n⟩:=oMq.mp h;exact⟨r,l,n.symm⟩
def JK{ns:Ϝ}{i:Nat}{d:D}(h:(ns.map D.int)[i]?=some d):∃z,ns[i]?=some z/\d = .int z:=by
 rw[gMq]at h;obtain⟨r,l,n⟩:=oMq.mp h;exact⟨r,l,n.symm⟩
def zp{rs:Λ}(hl:rs.flatten.length<=500000):oX [dM rs]=some (aI rs.flatten):=by
 have key:=uQ (x:=2) (body:=uZ) (λi S=>∃v,S=[some (.sh (dM rs)),some (aI (rs.take i).flatten),v]) (ds:=rs.map dI) (S:=[some (.sh (dM rs)),some (.ow []),none]) ⟨none,by simp⟩ (by
  rintro i d S hd ⟨v,rfl⟩;obtain⟨r,hr,rfl⟩:=Bn hd;have l:=rN hr;have n:=uE rs (i+1);rw[l,lAq]at n;have s:(rs.take i).flatten.length+r.length<=qE:=by show _<=16777216;lia
  refine⟨_,?_,some (.sh (dI r)),rfl⟩;rw[l]
  simp_arith [uZ,s,C6,←mBq])
 obtain⟨t,e,v,rfl⟩:=key;rw[lMq,aY]at e
 simp_arith [oX,zV,e]
def Ck{rs:Λ}{d:D}(h:d∈rs.map dI):∃r∈rs,d=dI r:=by
 obtain⟨r,l,n⟩:=mMq.mp h;exact⟨r,l,n.symm⟩
def xQ:D->Ϝ
 | .list ds=>(rB ds).getD []
 |_=>[]
def tZ(r:Ϝ):xQ (dI r)=r:=by
 show(rB (r.map D.int)).getD []=r;rw[sj];rfl
def CW{β:Type}(g:Ϝ->β)(rs:Λ):(rs.map dI).map (λd=>g (xQ d))=rs.map g:=by
 rw[mPq];exact mCq λr _=>by show g (xQ (dI r))=g r;rw[tZ]
def K2{rs:Λ}(hl:∀r∈rs,r.length<=500000):rm rZ (oJ yR (om (oy 0) oC)) [] (rs.map dI)=some ((rs.map good).map aI):=by
 rw[um (λd=>aI (good (xQ d)))]
 .rw[CW (λr=>aI (good r)),mPq]
  rfl
 .intro d hd;obtain⟨r,hr,rfl⟩:=Ck hd;refine⟨[some (.sh (dI r))],?_⟩
  simp_arith [P1 (hl r hr),tZ]
def aef{l:Λ}{a:Nat}(h:a<l.length):atI (l.map dI) (a:Int)=some (dI (l.getD a [])):=by
 rw[Xu,Jj (by lia),cu,gDq,gEg h]
 rfl
def Vh(n:Nat):rm rZ (qF oC) [] (qd 0 n)=some (ay n (.ow [])):=by
 rw[Z.um λ_=>AV.ow []]
 .unfold qd;rw[mPq];show some (List.map (λ_=>AV.ow []) (bI n))=_
  rw[jn,bo]
 .intro d _;have l:(0:Nat)<=qE:=by decide
  refine⟨[some (.sh d)],?_⟩
  simp_arith [l]
def yH{rs:Λ}(hl:∀r∈rs,r.length<=500000)(l:rs.length<=qE):rD [dM rs]=some (.ow ((rY (rs.map good)).map aI)):=by
 have n:=K2 (rs:=rs) hl
 simp_arith [rD,yL,n,l]
end Zl
namespace Zl
open PySem L2 Mr Z Xe
noncomputable def bare(rs:Λ):Nat:=rs.countP (·=([]:Ϝ))
section
variable {rs:Λ}(hl:rs.flatten.length<=500000)
include hl
end
def PY(r:Ϝ)(h:r.Nodup):good (good r)=good r:=GD h _
def CI{T:Λ}(h:T.flatten.Nodup):rY ((rY (T.map good)).map good)=rY (T.map good):=by
 have q:(rY (T.map good)).map good=rY (T.map good):=by
  have:∀r∈rY (T.map good),good r=r:=λr hr=>by
   obtain⟨s,l,rfl⟩:=mMq.mp ((pJ _).mem_iff.mp hr);exact PY s (QM h l)
  exact(mCq this).trans (de _)
 rw[q];exact(Mu (.refl _) (Cj _)).symm
end Zl
namespace Zl
open PySem L2 Mr Z
def PR{rs:Λ}(hl:rs.flatten.length<=500000):yT [dM rs]=some (aI (uk rs.flatten)):=by
 simp_arith [yT,G6,zp hl]
def UY(ns:Ϝ):rm (rA (oV Lu (oj 0) (rC (.int 0)))) (oy 0) [] (ns.map D.int)=some ((ns.filter λz=>decide (0<z)).map λn=>.sh (.int n)):=by
 rw[Z.uN (λd=>match d with|.int z=>decide (0<z)|_=>false) (λd=>.sh d)]
 .rw[fc,mPq];rfl
 .intro d hd;obtain⟨z,l,rfl⟩:=mMq.mp hd;refine⟨[i0 z],?_,λ_=>⟨[i0 z],?_⟩⟩
  .simp_arith []
  .simp_arith []
def T4{rs:Λ}(hl:rs.flatten.length<=500000):xN [dM rs]=some (aI ((uk rs.flatten).filter λz=>decide (0<z))):=by
 have l:(uk rs.flatten).length<=qE:=rP (by rw[(vG _).length_eq];lia)
 simp_arith [xN,EE,PR hl,l,UY]
noncomputable def wx(p:Nat)(r:Ϝ):List (pE×D):=r.map λe=>(.inl e,.int (p:Int))
def qT:Nat->Λ->List (pE×D)
 |_,[]=>[]
 |p,r::rs=>wx p r++qT (p+1) rs
theorem ED(r:Ϝ):∀(rs:Λ) (p:Nat),qT p (rs++[r])=qT p rs++wx (p+rs.length) r
 | [],p=>by simp[qT]
 |s::rs,p=>by
  show wx p s++qT (p+1) (rs++[r])=(wx p s++qT (p+1) rs)++_;rw[ED r rs (p+1),ag,lCq,show p+1+rs.length=p+(rs.length+1) by lia]
theorem AA:∀(rs:Λ) (p:Nat),(qT p rs).map (·.1)=rs.flatten.map aO
 | [],p=>rfl
 |r::rs,p=>by
  show(wx p r++qT (p+1) rs).map (·.1)=_;rw[mBq,AA rs (p+1),fCq,mBq];congr 1;unfold wx;rw[mPq];rfl
def Ml(rs:Λ)(p:Nat):(qT p rs).length=rs.flatten.length:=by
 have:=congrArg bV (AA rs p)
 rwa [lMq,lMq]at this
def Dz{kvs:List (pE×D)}{k:pE}{d:D}(h:k∉kvs.map (·.1)):Ax kvs k d=kvs++[(k,d)]:=by
 unfold Ax;rw[oZ];intro e;obtain⟨kv,hk,e⟩:=fK.mp e;exact h (mMq.mpr ⟨kv,hk,of_decide_eq_true e⟩)
theorem getD_app{k:pE}:∀{a b:List (pE×D)},k∉a.map (·.1)->Z.getD (a++b) k=Z.getD b k
 | [],b,_=>rfl
 |x::a,b,h=>by
  unfold Z.getD;rw[bE,du (by
   intro e;exact h (by rw[←of_decide_eq_true e];simp))]
  exact getD_app (k:=k) (a:=a) (b:=b) λm=>h (by simp only[ai,ab];exact .inr m)
theorem LH{p:Nat}{e:Int}{b:List (pE×D)}:∀{r:Ϝ},e∈r->Z.getD (wx p r++b) (.inl e)=some (.int p)
 | [],h=>by cases h
 |x::r,h=>by
  unfold Z.getD;show((((aO x:pE),D.int (p:Int))::(wx p r++b)).find? _).map _=_
  by_cases c:x=e
  .subst c;rw[eK (by simp)]
   rfl
  .rw[du (by simp[c])]
   exact LH (r:=r) ((ab.mp h).resolve_left λz=>c z.symm)
theorem By{e:Int}{r:Ϝ}:∀{rs:Λ}{i:Nat}(p:Nat),rs.flatten.Nodup->rs[i]?=some r->e∈r->Z.getD (qT p rs) (.inl e)=some (.int ((p+i:Nat):Int))
 | [],i,p,_,h,_=>by simp at h
 |s::rs,0,p,hn,h,he=>by
  simp at h;subst h;exact LH he
 |s::rs,i+1,p,hn,h,he=>by
  rw[fCq,nAq]at hn;have l:rs[i]?=some r:=by simpa using h
  have:=By (rs:=rs) (i:=i) (p+1) hn.2.1 l he;rw[show p+1+i=p+(i+1) by lia]at this
  rw[←this];refine getD_app ?_;unfold wx;rw[mPq];intro m;obtain⟨x,n,t⟩:=mMq.mp m;cases t;exact hn.2.2 _ n _ (mFq.mpr ⟨r,mGq l,he⟩) rfl
def Jf{rs:Λ}(hn:rs.flatten.Nodup)(hl:rs.flatten.length<=500000):ye [dM rs]=some (.owd (qT 0 rs)):=by
 have key:=Zx (x:=2) (y:=3) (k:=0) (body:=xp) (λi S=>∃E G l,S=[some (.sh (dM rs)),some (.owd (qT 0 (rs.take i))),E,G,l]) (ds:=rs.map dI) (S:=[some (.sh (dM rs)),some (.owd []),none,none,none]) ⟨none,none,none,rfl⟩ (by
  rintro i d S hd ⟨E,G,l,rfl⟩;rw[bC];obtain⟨r,hr,rfl⟩:=Bn hd;have s:=rN hr;have H:=uE rs (i+1);have hi:i<rs.length:=(gSq.mp hr).1;have t:((rs.take i).flatten++r).Nodup:=by
   rw[←s];have J:rs.flatten=(rs.take (i+1)).flatten++(rs.drop (i+1)).flatten:=by rw[←fAq,aR]
   rw[J]at hn;exact(nAq.mp hn).1
  rw[s,lAq]at H;have L:=uQ (x:=4) (body:=xH) (λj S=>∃l,S=[some (.sh (dM rs)),some (.owd (qT 0 (rs.take i)++wx i (r.take j))),i0 i,some (.sh (dI r)),l]) (ds:=r.map D.int) (S:=[some (.sh (dM rs)),some (.owd (qT 0 (rs.take i))),i0 i,some (.sh (dI r)),l]) ⟨l,by simp[wx]⟩ (by
   rintro j d S hd ⟨l,rfl⟩;obtain⟨z,B,rfl⟩:=JK hd;have Q:j<r.length:=(gSq.mp B).1;have M:(qT 0 (rs.take i)++wx i (r.take j)).length<qE:=RZ (by
    rw[lAq,Ml];unfold wx;rw[lMq,lTq];lia)
   have u:Ax (qT 0 (rs.take i)++wx i (r.take j)) (.inl z) (.int (i:Int))=qT 0 (rs.take i)++wx i (r.take (j+1)):=by
    rw[Dz]
    .unfold wx;rw[ql B,mBq,ag];rfl
    .rw[mBq,AA];intro m;have O:r.take (j+1)=r.take j++[z]:=ql B;rcases mAq.mp m with m|m
     .obtain⟨x,I,n⟩:=mMq.mp m;cases n;exact(nAq.mp t).2.2 _ I _ (mGq B) rfl
     .unfold wx at m;rw[mPq]at m;obtain⟨x,I,n⟩:=mMq.mp m;cases n;have:=aJ.sublist (bj (j+1) r) (nAq.mp t).2.1;rw[O]at this;exact(nAq.mp this).2.2 _ I _ (by simp) rfl
   refine⟨_,?_,i0 z,rfl⟩
   simp_arith [xH,M,u])
  obtain⟨R,n,P,rfl⟩:=L;rw[lMq,aY]at n;refine⟨_,?_,i0 i,some (.sh (dI r)),P,rfl⟩;rw[ql hr,ED,lTq,dG (by lia),bC]
  simp_arith [xp,n])
 obtain⟨T,e,E,G,l,rfl⟩:=key;rw[bC,lMq,aY]at e
 simp_arith [ye,Dc,e]
theorem wa{c:MT}{body:MS}(P:AS->Prop)(μ:AS->Nat)(u:AS->Prop)(h:∀S,P S->∃b s,c S=some (b,s)/\(b=true->∃t,body s=some (.nx t)/\P t/\μ t<μ S)/\(b=false->u s)) :
  ∀(l:Nat) (S:AS),P S->μ S<l->∃S',rq c body l S=some (.nx S')/\u S'
 |0,S,_,x=>absurd x (cG _)
 |n+1,S,z,x=>by
  obtain⟨b,s,B,E,G⟩:=h S z;rw[WO,B,je];cases b with
  |true=>
   obtain⟨t,H,I,J⟩:=E rfl;rw[pB rfl,H];exact wa P μ u h n t I (by lia)
  |false=>
   rw[oZ (by simp)]
   exact⟨s,rfl,G rfl⟩
end Zl
namespace Zl
open PySem L2 Mr Z Xe
noncomputable def addN(kn:Θ)(t:Nat):Θ:=if t∈kn then kn else kn++[t]
noncomputable def plc(rs:Λ)(e:Int):Nat:=rs.findIdx λr=>decide (e∈r)
def same_place{rs:Λ}(hn:rs.flatten.Nodup){i j:Nat}{r s:Ϝ}{e:Int}(hi:rs[i]?=some r)(l:rs[j]?=some s)(n:e∈r)(t:e∈s):i=j:=by
 have a:=By 0 hn hi n;have b:=By 0 hn l t;rw[a]at b;have:=D.int.inj (aw.inj b);lia
def plc_eq{rs:Λ}(hn:rs.flatten.Nodup){i:Nat}{r:Ϝ}{e:Int}(hi:rs[i]?=some r)(l:e∈r):plc rs e=i:=by
 have hl:rs.findIdx (λr=>decide (e∈r))<rs.length:=dU ⟨r,mGq hi,d4 l⟩
 have n:=fT (xs:=rs) (p:=λr=>decide (e∈r)) (w:=hl)
 exact same_place hn (gEg hl) hi (of_decide_eq_true n) l
structure Mp (rs:Λ):Prop where
 hn:rs.flatten.Nodup
 hl:rs.flatten.length<=1000
 hr:rs.length<=1000
 hneg:∀e∈rs.flatten, -e∈rs.flatten
def Mp.at{rs:Λ}(h:Mp rs){e:Int}(s:e∈rs.flatten):∃r,rs[plc rs e]?=some r/\e∈r:=by
 obtain⟨r,t,l⟩:=mFq.mp s;obtain⟨i,n⟩:=aj.mp t;exact⟨r,by rw[plc_eq h.hn n l];exact n,l⟩
def Mp.lt{rs:Λ}(h:Mp rs){e:Int}(l:e∈rs.flatten):plc rs e<rs.length:=by
 obtain⟨r,n,_⟩:=h.at l;exact(gSq.mp n).1
noncomputable def Mp.row{rs:Λ}(h:Mp rs){k:Nat}{r:Ϝ}(hk:rs[k]?=some r):r.length<=1000:=by
 have:=cE.length_le (aE (mGq hk));have:=h.hl;lia
def nbS(rs:Λ)(k:Nat)(ks:Θ)(e:Int):Θ:=if plc rs (-e)=k then ks else addN ks (plc rs (-e))
def nb(rs:Λ)(k:Nat)(r:Ϝ):Θ:=r.foldl (nbS rs k) []
noncomputable def Qj{α β:Type}{f:α->β->α}{a:α}{r:List β}{i:Nat}{e:β}(l:r[i]?=some e):(r.take (i+1)).foldl f a=f ((r.take i).foldl f a) e:=by
 obtain⟨hi,n⟩:=gSq.mp l;rw[dW hi,gC,n];rfl
noncomputable def itr(f:Int->Int):Nat->Int->Int
 |0,e=>e
 |n+1,e=>f (itr f n e)
theorem zk(f:Int->Int)(m:Nat)(e:Int):∀n:Nat,itr f (n+m) e=itr f n (itr f m e)
 |0=>by rw[bC];rfl
 |n+1=>by rw[Nat.add_right_comm];show f (itr f (n+m) e)=f (itr f n (itr f m e));rw[zk f m e n]
theorem QU:∀(l E:Ϝ),l.Nodup->(∀x∈l,x∈E)->l.length<=E.length
 | [],E,_,_=>aT _
 |x::l,E,hn,h=>by
  have n:=ah.mp hn;have s:=h x (ao ..);have u:=QU l (E.erase x) n.2 (λy t=>by
   refine(List.mem_erase_of_ne ?_).mpr (h y (mCo _ t));intro e;exact n.1 (e ▸ t))
  rw[gN s]at u;have:=fB s;rw[lCq];lia
noncomputable def T6{p:Nat->Prop}:∀n,p n->∃m,m<=n/\p m/\∀j,j<m->¬ p j:=by
 intro n
 induction n using gX with
 |_ n t=>
  intro h
  by_cases c:∃j,j<n/\p j
  .obtain⟨j,l,s⟩:=c;obtain⟨m,z,u,x⟩:=t j l s;exact⟨m,by lia,u,x⟩
  .exact⟨n,aa _,h,λj l s=>c ⟨j,l,s⟩⟩
structure Mh (f:Int->Int)(E:Ϝ):Prop where
 nd:E.Nodup
 to:∀e∈E,f e∈E
 inj:∀a∈E,∀b∈E,f a=f b->a=b
section
variable {f:Int->Int}{E:Ϝ}
theorem Mh.itr_mem(h:Mh f E){e:Int}(l:e∈E):∀n,itr f n e∈E
 |0=>l
 |n+1=>h.to _ (h.itr_mem l n)
theorem Mh.itr_inj(h:Mh f E){a b:Int}(ha:a∈E)(hb:b∈E):∀n,itr f n a=itr f n b->a=b
 |0,e=>e
 |n+1,e=>h.itr_inj ha hb n (h.inj _ (h.itr_mem ha n) _ (h.itr_mem hb n) e)
def Mh.cut(h:Mh f E){e:Int}(l:e∈E){i j:Nat}(n:i<=j)(q:itr f i e=itr f j e):itr f (j-i) e=e:=by
 have s:itr f j e=itr f i (itr f (j-i) e):=by rw[←zk];congr 1;lia
 rw[s]at q;exact(h.itr_inj l (h.itr_mem l _) i q).symm
structure Cy (f:Int->Int)(e:Int)(l:Ϝ):Prop where
 len:1<=l.length
 get:l=(bI l.length).map λn=>itr f n e
 back:itr f l.length e=e
 nd:l.Nodup
def Mh.cy(h:Mh f E){e:Int}(t:e∈E):∃l,Cy f e l/\l.length<=E.length/\∀j,0<j->j<l.length->itr f j e≠e:=by
 have u:∃k,1<=k/\k<=E.length/\itr f k e=e:=by
  by_cases c:((bI (E.length+1)).map λn=>itr f n e).Nodup
  .have:=QU _ E c (λx H=>by obtain⟨n,_,rfl⟩:=mMq.mp H;exact h.itr_mem t n)
   rw[lMq,bo]at this;lia
  .rw[aG,bf]at c;have:∃i j,i<j/\j<E.length+1/\itr f i e=itr f j e:=by
    by_cases d:∃i j,i<j/\j<E.length+1/\itr f i e=itr f j e
    .exact d
    .exfalso;refine c ?_;refine aJ.imp_of_mem (R:=λa b=>a<b) (λ{a b} ha hb hab q=>d ⟨a,b,hab,eS.mp hb,q⟩) gY
   obtain⟨i,j,z,B,q⟩:=this;exact⟨j-i,by lia,by lia,h.cut t (cC z) q⟩
 obtain⟨k,I,P,J⟩:=u;obtain⟨m,Q,⟨L,M⟩,G⟩:=T6 (p:=λk=>1<=k/\itr f k e=e) k ⟨I,J⟩
 refine⟨(bI m).map λn=>itr f n e,⟨by rw[lMq,bo];exact L,by rw[lMq,bo],by rw[lMq,bo];exact M,?_⟩,by rw[lMq,bo];lia,λj B s q=>?_⟩
 .rw[aG,bf];refine aJ.imp_of_mem (R:=λa b=>a<b) (λ{a b} ha hb hab q=>?_) gY
  have O:=eS.mp hb;exact G (b-a) (by lia) ⟨by lia,h.cut t (cC hab) q⟩
 .rw[lMq,bo]at s;exact G j s ⟨B,q⟩
def Cy.at{e:Int}{l:Ϝ}(h:Cy f e l){i:Nat}(hi:i<l.length):l[i]?=some (itr f i e):=by
 have s:l[i]?=((bI l.length).map λn=>itr f n e)[i]?:=congrArg (λx:Ϝ=>x[i]?) h.get
 rw[s,gMq,eA hi];rfl
def Cy.one{e:Int}{l n:Ϝ}(h:Cy f e l)(h':Cy f e n):l=n:=by
 have key:∀{l n:Ϝ},Cy f e l->Cy f e n->¬ l.length<n.length:=λ{l n} h h' hlt=>by
  have t:=h'.at (i:=0) (by lia)
  have s:=h'.at (i:=l.length) hlt;rw[h.back]at s;have:=h'.nd;have u:=(List.getElem?_inj (i:=0) (j:=l.length) (by lia) this).mp (by rw[t,s];rfl)
  have:=h.len;lia
 have x:=key h h';have z:=key h' h;have hl:l.length=n.length:=by lia
 rw[h.get,h'.get,hl]
def Cy.self{e:Int}{l:Ϝ}(h:Cy f e l):e∈l:=mGq (h.at (i:=0) (by have:=h.len;lia))
def Cy.rot{e:Int}{l:Ϝ}(h:Cy f e l){j:Nat}(u:j<l.length):Cy f (itr f j e) (l.drop j++l.take j):=by
 have n:(l.drop j++l.take j).length=l.length:=by rw[lAq,ax,lTq];lia
 refine⟨by rw[n];exact h.len,?_,?_,?_⟩
 .refine eP λi=>?_
  rw[n,gMq]
  by_cases hi:i<l.length
  .rw[eA hi,cK,←zk]
   by_cases s:i<l.length-j
   .rw[gZq (by rw[ax];exact s),dB,h.at (by lia),gS j i]
   .rw[gYq (by rw[ax];lia),ax,dX (by lia),h.at (by lia)]
    congr 1;have t:i+j=(i-(l.length-j))+l.length:=by lia
    rw[t,zk,h.back]
  .rw[bK (by rw[n];lia),bK (by rw[bo];lia)]
   rfl
 .rw[n,←zk,gS,zk,h.back]
 .exact bD.nodup_iff.mpr (by rw[aR];exact h.nd)
theorem Cy.good{e x:Int}{l t:Ϝ}(h:Cy f e l)(u:x∈l)(h':Cy f x t):Mr.good t=Mr.good l:=by
 obtain⟨j,s⟩:=aj.mp u;have n:=(gSq.mp s).1;rw[h.at n]at s;have r:=h.rot n;rw[aw.inj s]at r;rw[h'.one r];exact GD h.nd j
structure KN (f:Int->Int)(E:Ϝ)(L:Λ):Prop where
 cy:∀l∈L,∃e,Cy f e l
 dj:L.flatten.Nodup
 all:∀x,x∈L.flatten↔x∈E
theorem On:∀{L:Λ},L.flatten.Nodup->L.Pairwise λa b=>∀x∈a,∀y∈b,x≠y
 | [],_=>aJ.nil
 |a::L,h=>by
  rw[fCq,nAq]at h;exact cS.mpr ⟨λb hb x l y n=>h.2.2 x l y (mFq.mpr ⟨b,hb,n⟩),On h.2.1⟩
def KN.nd{L:Λ}(h:KN f E L):(L.map Mr.good).Nodup:=by
 rw[aG,bf];have hd:=On h.dj;refine aJ.imp_of_mem (λ{a b} ha hb hab q=>?_) hd
 obtain⟨e,c⟩:=h.cy a ha;have l:e∈Mr.good a:=(pD a).mem_iff.mpr c.self;rw[q]at l;exact hab e c.self e ((pD b).mem_iff.mp l) rfl
def KN.sub(z:Mh f E){L M:Λ}(h:KN f E L)(h':KN f E M){y:Ϝ}(t:y∈L.map Mr.good):y∈M.map Mr.good:=by
 obtain⟨l,hl,rfl⟩:=mMq.mp t;obtain⟨e,c⟩:=h.cy l hl;have u:e∈E:=(h.all e).mp (mFq.mpr ⟨l,hl,c.self⟩);obtain⟨m,s,n⟩:=mFq.mp ((h'.all e).mpr u);obtain⟨B,x⟩:=h'.cy m s;exact mMq.mpr ⟨m,s,(x.good n c).symm⟩
def KN.perm(l:Mh f E){L M:Λ}(h:KN f E L)(h':KN f E M):(L.map Mr.good).Perm (M.map Mr.good):=
 (bx h.nd h'.nd).mpr λy=>⟨h.sub l h',h'.sub l h⟩
end
end Zl
namespace K13
open PySem L2 Mr Z Xe
def Ly:MS:=(N4 1 (Au 2))
def P7:MX:=(E3 (Qp (oN 1 (qF oC)))
 (E3 (Qp (A5 2 (oy 0) Ly))
 (agb Zl.N8 (om (oy 1) oC))))
def Gg:Sr:=Rj 1 3 P7
def D1:MS:=(oz (wk (vD (C5 (oj 0))) (pZ (qF oC)) pH)
 (oz (oN 1 (kSc (rBM "list" AI (oj 0) (oi (tT Rw (oi (oj 0) ox)) ox))))
 (pZ (BP (lOf (Ot (uj 0) (wK (oj 1)) Ap)) (lOf (Ot (uj 0) Ap (wK (oj 1))))))))
def yC:MF:=qK 1 2 D1
def Mc:MS:=(pZ (Fw (tj (Bh (oy 0)) [] rZ (oJ K13.yC (om (oy 0) oC)))))
def xY:MF:=qK 1 1 Mc
def vb(fm:MF):MS:=(wk (vD (rA (qP fm (oi (oV Qx (oj 0) (oj 2)) (oi (oV Qx (oj 1) (oj 2)) ox))))) (pZ (kSc (rC (.bl false)))) pH)
def xI(fm:MF):MS:=(oz (wk (Oc (rA (tT tE (oi (oj 1) (oi (rC (.ty "list")) ox)))) (rA (tT tE (oi (oj 1) (oi (rC (.ty "tuple")) ox))))) (oz (wk (Oc (rA (oV Yz (tT tE (oi (oj 0) (oi (rC (.ty "list")) ox))) (tT tE (oi (oj 1) (oi (rC (.ty "list")) ox))))) (rA (oV Yz (tT tE (oi (oj 0) (oi (rC (.ty "tuple")) ox))) (tT tE (oi (oj 1) (oi (rC (.ty "tuple")) ox)))))) (pZ (kSc (rC (.bl false)))) pH) (oz (wk (rA (oV Yz (tT qM (oi (oj 0) ox)) (tT qM (oi (oj 1) ox)))) (pZ (kSc (rC (.bl false)))) pH) (oz (AY 2 (oi (tT qM (oi (oj 1) ox)) ox) (vb fm)) (pZ (kSc (rC (.bl true))))))) pH)
 (oz (wk (rA (oV Aq (oj 1) (rC .non))) (pZ (kSc (oV Aq (oj 0) (rC .non)))) pH)
 (oz (wk (rA (tT tE (oi (oj 1) (oi (rC (.ty "str")) ox)))) (pZ (kSc (Rh (tT tE (oi (oj 0) (oi (rC (.ty "str")) ox))) (oV GP (oj 0) (oj 1))))) pH)
 (pZ (kSc (Rh (tT tE (oi (oj 0) (oi (rC (.ty "int")) ox))) (Rh (aai (tT tE (oi (oj 0) (oi (rC (.ty "bool")) ox)))) (oV GP (oj 0) (oj 1)))))))))
def qZ(fm:MF):MF:=qK 2 3 (xI fm)
def rF:MF:=(qZ (qZ (qZ (qZ Z.UE))))
end K13
namespace K51
open PySem L2 Mr Z Xe
def CG:MS:=(yG 1 (oj 3) (oy 4))
def CM:MS:=(Uu 3 4 (oy 2) (BP (lOf (Ot (uj 2) (wK (rC (.int 1))) Ap)) (lOf (Ot (uj 2) Ap (wK (rC (.int 1)))))) CG)
def Ma:MS:=(oz (oN 1 yB)
 (oz (A5 2 (oy 0) CM)
 (pZ (EV 1))))
def FB:MF:=qK 1 5 Ma
def uc:MS:=(oz (oN 7 (kSc (IR (oj 2) (Ak vz (oj 6))))) (wk (rA (sZ (oj 7) (oj 3))) (oz (yG 3 (oj 7) (kSc (rC (.bl true)))) (yN 4 (oy 7))) pH))
def wZ:MS:=(oz (VF 5 (IU 4)) (A5 6 (RB (uj 0) (oj 5)) uc))
def FR:MS:=(oz (oN 2 (oJ Zl.ye (om (oy 0) oC)))
 (oz (oN 3 (NZ (oj 1) (kSc (rC (.bl true)))))
 (oz (oN 4 (qF (om (oy 1) oC)))
 (oz (rq (rA (oV Lu (tT qM (oi (oj 4) ox)) (rC (.int 0)))) wZ 100000)
 (pZ (JB (oj 3)))))))
def yP:MF:=qK 2 8 FR
def xT:MS:=(yG 1 (oj 5) (kSc (rC (.bl true))))
def yn:MS:=(wk (rA (sZ (oj 3) (oj 1))) (oz (oN 4 (oJ K51.yP (om (oy 0) (om (oy 3) oC)))) (oz (A5 5 (oy 4) xT) (yN 2 (tj (Bh (oy 4)) [0] rZ (Am (lOf (RB (uj 1) (oj 0)))))))) pH)
def Iv:MS:=(oz (oN 1 yB)
 (oz (oN 2 (qF oC))
 (oz (AY 3 (oi (tT qM (oi (oj 0) ox)) ox) yn)
 (pZ (EV 2)))))
def Bk:MF:=qK 1 6 Iv
def IM:MS:=(pZ (tj (Bh (oy 0)) [] rZ (Am (uj 0))))
def zg:MF:=qK 1 1 IM
end K51
namespace K12
open PySem L2 Mr Z Xe
def CK:MS:=(oz (oN 1 (kSc (rC (.int 1))))
 (oz (oN 2 (kSc (rC (.int 0))))
 (oz (wk (rA (oV Lu (oV ur (qP Zl.oA (oi (oj 0) (oi (rC (.int 0)) ox))) (rC (.int 3))) (rC (.int 0)))) (oz (oN 1 (kSc (oV uJ (rC (.int 1)) (oV ur (qP Zl.oA (oi (oj 0) (oi (rC (.int 1)) ox))) (oV E5 (rC (.int 10)) (rC (.int 58))))))) (oN 2 (kSc (oV ur (qP Zl.oA (oi (oj 0) (oi (rC (.int 2)) ox))) (oV E5 (rC (.int 10)) (rC (.int 58))))))) pH)
 (oz (oN 3 (kSc (oV uJ (rC (.int 1)) (oV ur (oV CL (qP Zl.oA (oi (oj 0) (oi (rC (.int 0)) ox))) (rC (.int 3))) (rC (.int 66))))))
 (oz (oN 4 (kSc (oV ur (oV CL (qP Zl.oA (oi (oj 0) (oi (rC (.int 0)) ox))) (rC (.int 198))) (rC (.int 67)))))
 (pZ (tj (Zb (oi (rC (.int 66)) ox)) [2,1,4,3] rZ (kSc (oV uJ (oV D4 (oj 2) (oV uJ (oV ur (oV uJ (oV D4 (oj 4) (oj 0)) (oj 3)) (rC (.int 67))) (rC (.int 1)))) (oj 1))))))))))
def xo:MF:=qK 1 5 CK
def sA:MS:=(oz (oN 7 (kSc (oV ur (oj 6) (rC (.int 8))))) (Ye 8 2 (VW 2 (VW 2 (MN 2) (Ak vz (rC (.int 1)))) (oV zh (oj 3) (Ak vz (rC (.int 1))))) (Nq 2 (oN 9 (kSc (oV zh (oj 1) (oj 5)))) (Nq 2 (wk (rA (oV GP (oV ur (oV CL (oj 6) (rC (.int 8))) (rC (.int 2))) (rC (.int 1)))) (oN 9 (kSc (Ak vz (oj 9)))) pH) (Hy 2 (rA (oV M0 (oj 7) (rC (.int 4)))) (λpath=>oz ((OC 2 (oy 9)) path) (oz (oN 5 (kSc (oV uJ (oj 5) (rC (.int 1))))) (wk (rA (oV M0 (oj 7) (rC (.int 2)))) (yN 4 (kSc (Ak vz (oj 9)))) (oz (yN 3 (kSc (tT qM (oi (oV zh (oj 2) (Ak vz (rC (.int 1)))) ox)))) (Pm 2 (VW 2 (MN 2) (Ak vz (rC (.int 1)))) (qF (om (kSc (Ak vz (oj 9))) oC))))))) (Hy 2 (rA (oV M0 (oj 7) (rC (.int 6)))) (Hy 2 (C5 (oj 4)) (Jr 2 (BD 4 (oV ur (oV CL (oj 6) (rC (.int 16))) (tT qM (oi (oj 4) ox))))) (λ_=>pH)) (Hy 2 (rA (oV GP (oj 7) (rC (.int 6)))) (λ_=>(wk (rA (oV Lu (tT qM (oi (oj 3) ox)) (rC (.int 1)))) (JV (IU 3)) pH)) (λpath=>oz ((Ol 2 (Au 4)) path) (oz (oN 4 (qF oC)) (oz (yN 2 (qF (om (qF oC) oC))) (oN 3 (qF (om (kSc (rC (.int 0))) oC)))))))))))))
def Hc:MS:=(oz (oN 2 (qF (om (qF (om (qF oC) oC)) oC)))
 (oz (oN 3 (qF (om (kSc (rC (.int 0))) oC)))
 (oz (oN 4 (qF oC))
 (oz (oN 5 (kSc (rC (.int 0))))
 (oz (A5 6 (oy 0) sA)
 (oz (RJ 2 (VW 2 (VW 2 (MN 2) (Ak vz (rC (.int 1)))) (oV zh (oj 3) (Ak vz (rC (.int 1))))) (Au 4))
 (pZ (EV 2))))))))
def yY:MF:=qK 2 10 Hc
end K12
namespace K15
open PySem L2 Mr Z
def zU:MS:=(yG 2 (oj 3) (kSc (JQ (oj 1) (Ak vz (oj 3)))))
def G4:MS:=(oz (oN 1 (oJ K51.FB (om (oy 0) oC)))
 (oz (oN 2 yB)
 (oz (OV 3 1 zU)
 (pZ (EV 2)))))
def Bv:MF:=qK 1 4 G4
def wA:MS:=(oz (yN 2 (oy 3)) (oN 3 (kSc (IR (oj 0) (oj 3)))))
def BW:MS:=(oz (oN 2 (qF (om (oy 1) oC)))
 (oz (oN 3 (kSc (IR (oj 0) (oj 1))))
 (oz (rq (rA (oV Yz (oj 3) (oj 1))) wA 100000)
 (pZ (EV 2)))))
def wQ:MF:=qK 2 4 BW
def zW:MS:=(yG 2 (oj 6) (kSc (rC (.bl true))))
def xy:MS:=(wk (rA (sZ (oj 4) (oj 2))) (oz (oN 5 (oJ K15.wQ (om (oy 1) (om (oy 4) oC)))) (oz (A5 6 (oy 5) zW) (yN 3 (oy 5)))) pH)
def K4:MS:=(oz (oN 1 (oJ K15.Bv (om (oy 0) oC)))
 (oz (oN 2 yB)
 (oz (oN 3 (tj (Bh (oy 0)) [] (rA (oV GP (tT qM (oi (oj 0) ox)) (rC (.int 0)))) (qF oC)))
 (oz (A5 4 (oJ Zl.yT (om (oy 0) oC)) xy)
 (pZ (oJ Zl.rD (om (oy 3) oC)))))))
def pY:MF:=qK 1 7 K4
def zA:MS:=(yG 1 (oV zh (oj 2) (oj 3)) (kSc (oV zh (oj 2) (oV ur (oV uJ (oj 3) (rC (.int 1))) (tT qM (oi (oj 2) ox))))))
def zI:MS:=(AY 3 (oi (tT qM (oi (oj 2) ox)) ox) zA)
def Gn:MS:=(oz (oN 1 yB)
 (oz (A5 2 (oy 0) zI)
 (pZ (EV 1))))
def Bl:MF:=qK 1 4 Gn
def wN:MS:=(oz (yG 2 (oj 6) (kSc (rC (.bl true)))) (oz (yN 5 (oy 6)) (oN 6 (kSc (JQ (oj 1) (Ak vz (oj 6)))))))
def uY:MS:=(wk (rA (sZ (oj 4) (oj 2))) (oz (oN 5 (qF oC)) (oz (oN 6 (oy 4)) (oz (rq (rA (sZ (oj 6) (oj 2))) wN 100000) (yN 3 (oy 5))))) pH)
def G3:MS:=(oz (oN 1 (oJ K15.Bl (om (oy 0) oC)))
 (oz (oN 2 yB)
 (oz (oN 3 (tj (Bh (oy 0)) [] (vD (C5 (oj 0))) (qF oC)))
 (oz (OV 4 1 uY)
 (pZ (oJ K13.xY (om (oy 3) oC)))))))
def vN:MF:=qK 1 7 G3
end K15
namespace K16
open PySem L2 Mr Z
def Ae:MS:=(oz (oN 2 (kSc (oV uJ (oV uJ (oj 2) (rC (.int 1))) (oV ur (oj 3) (oV E5 (rC (.int 10)) (rC (.int 57))))))) (oz (oN 3 (kSc (oV U6 (oj 3) (oV E5 (rC (.int 10)) (rC (.int 57)))))) (N4 4 (lOf (qF (om (oy 2) (om (kSc (Ak vz (oj 2))) oC)))))))
def Ad:MS:=(oz (M7 7 (oj 8) (BD 6 (oV ur (oj 3) (tT qM (oi (oj 6) ox))))) (oN 3 (kSc (oV CL (oj 3) (oV uJ (tT qM (oi (oj 6) ox)) (rC (.int 1)))))))
def zq:MS:=(oz (yG 10 (oj 8) (kSc (rC (.bl true)))) (oz (yN 11 (oy 8)) (oN 8 (kSc (IR (oj 7) (oj 8))))))
def xK:MS:=(oz (oN 11 (qF oC)) (oz (rq (rA (sZ (oj 8) (oj 10))) zq 100000) (wk (C5 (oj 11)) (yN 9 (oy 11)) pH)))
def xu:MS:=(oz (wk (rA (sZ (oj 2) (oj 10))) (yN 12 (oy 2)) pH) (oN 2 (kSc (oV uJ (oj 2) (rC (.int 1))))))
def Lm:MS:=(oz (oN 1 (kSc (oV ur (qP Zl.oA (oi (oj 0) (oi (rC (.int 1)) ox))) (rC (.int 31)))))
 (oz (oN 2 (kSc (rC (.int 0))))
 (oz (oN 3 (kSc (qP Zl.oA (oi (oj 0) (oi (rC (.int 2)) ox)))))
 (oz (oN 4 (qF oC))
 (oz (AY 5 (oi (oj 1) ox) Ae)
 (oz (oN 6 (Am (uj 4)))
 (oz (oN 3 (kSc (qP Zl.oA (oi (oj 0) (oi (rC (.int 3)) ox)))))
 (oz (oN 7 yB)
 (oz (A5 8 (oy 4) Ad)
 (oz (oN 9 (qF oC))
 (oz (oN 10 yB)
 (oz (A5 8 (oy 4) xK)
 (oz (oN 12 (qF oC))
 (oz (oN 2 (kSc (oV uJ (rC (.int 1)) (oV ur (qP Zl.oA (oi (oj 0) (oi (rC (.int 4)) ox))) (oV E5 (rC (.int 10)) (rC (.int 59)))))))
 (oz (rq (rA (oV M0 (tT qM (oi (oj 12) ox)) (rC (.int 66)))) xu 100000)
 (pZ (Av (om (BP (Au 9) (lOf (tj (Zb (oi (oV ur (oV CL (qP Zl.oA (oi (oj 0) (oi (rC (.int 1)) ox))) (rC (.int 31))) (rC (.int 4))) ox)) [] rZ (qF oC)))) (om (oy 12) oC)))))))))))))))))))
def CP:MF:=qK 1 13 Lm
end K16
namespace K23
open PySem L2 Mr Z Xe
def GV:MS:=(pZ (tj (Bh (oy 0)) [1] (rA (oV (ES true) (oj 0) (oj 1))) (oy 0)))
def yK:MF:=qK 2 2 GV
end K23
namespace K21
open PySem L2 Mr Z Xe
def DT:MS:=(oz (wk (rA (oV (ES true) (oj 2) (oj 0))) (pZ (EV 0)) pH)
 (oz (oN 3 (kSc (oV uJ (rBM "list" AI (oj 0) (oi (oj 2) ox)) (rC (.int 1)))))
 (pZ (BP (lOf (BP (lOf (Ot (uj 0) Ap (wK (oj 3)))) (lOf (qF (om (oy 1) oC))))) (lOf (Ot (uj 0) (wK (oj 3)) Ap))))))
def yX:MF:=qK 3 4 DT
end K21
namespace K43
open PySem L2 Mr Z Xe
def Io:MS:=(oz (oN 1 (kSc (tT qM (oi (oj 0) ox))))
 (oz (oN 2 (kSc (tT qM (oi (rOf (oJ Zl.xN (om (oy 0) oC))) ox))))
 (oz (oN 3 (kSc (tT qM (oi (rOf (oJ K15.pY (om (oy 0) oC))) ox))))
 (oz (oN 4 (kSc (tT qM (oi (rOf (oJ K51.Bk (om (oy 0) oC))) ox))))
 (oz (oN 5 (kSc (oV CL (oV GF (oV uJ (oV GF (oV D4 (rC (.int 2)) (oj 4)) (oj 1)) (oj 2)) (oj 3)) (rC (.int 2)))))
 (pZ (Av (om (oy 1) (om (oy 2) (om (oy 3) (om (oy 4) (om (oy 5) oC))))))))))))
def uz:MF:=qK 1 6 Io
end K43
namespace K17
open PySem L2 Mr Z
def rh:MS:=(wk (rA (oV (ES false) (Ak vz (oj 5)) (oj 6))) (oz (S5 2 (oj 6)) (yN 3 (oy 6))) pH)
def tF:MS:=(A5 6 (Am (uj 2)) rh)
def uW:MS:=(oz (A5 5 (RB (uj 3) (oj 4)) tF) (oN 4 (kSc (oV uJ (oj 4) (rC (.int 1))))))
def uX:MS:=(oz (Tg 3 (BD 2 (rC (.int 0)))) (oz (oN 4 (kSc (rC (.int 0)))) (oz (rq (rA (oV M0 (oj 4) (tT qM (oi (oj 3) ox)))) uW 100000) (yN 1 (oy 3)))))
def DK:MS:=(oz (oN 1 (qF oC))
 (oz (oN 2 (Am (uj 0)))
 (oz (rq (C5 (oj 2)) uX 100000)
 (pZ (EV 1)))))
def wq:MF:=qK 1 7 DK
end K17
namespace K27
open PySem L2 Mr Z Xe
def Gz:MS:=(oz (Vp (kSc (qP Zl.tD (oi (oj 0) ox))))
 (pZ (oJ Zl.rD (om (oy 0) oC))))
def yQ:MF:=qK 1 1 Gz
def BY:MS:=(oz (wk (rA (oV (ES true) (oj 2) (rOf (oJ Zl.oX (om (oy 0) oC))))) AF pH)
 (pZ (tj (Bh (oy 0)) [1,2] rZ (oJ K21.yX (om (oy 0) (om (oy 1) (om (oy 2) oC)))))))
def wX:MF:=qK 3 3 BY
def Dd:MS:=(oz (wk (rA (acI true (oj 0))) AF pH)
 (oz (oN 2 (kSc (Sh (oj 0))))
 (pZ (BP (lOf (BP (lOf (Ot (uj 0) Ap (wK (oj 2)))) (lOf (qF (om (qF (om (oy 1) oC)) oC))))) (lOf (Ot (uj 0) (wK (oV uJ (oj 2) (rC (.int 1)))) Ap))))))
def yp:MF:=qK 2 3 Dd
def CA:MS:=(oz (wk (rA (oV Aq (oj 2) (rC .non))) (pZ (oJ K27.yp (om (oy 0) (om (oy 1) oC)))) pH)
 (pZ (oJ K27.wX (om (oy 0) (om (oy 1) (om (oy 2) oC))))))
def tY:MF:=qK 3 3 CA
def Dg:MS:=(oz (wk (rA (oV (ES false) (oj 1) (rOf (oJ Zl.oX (om (oy 0) oC))))) AF pH)
 (oz (oN 4 (oJ K27.tY (om (oy 0) (om (oy 1) (om (oy 2) oC)))))
 (pZ (oJ K27.yQ (om (oJ K27.tY (om (oy 4) (om (kSc (Ak vz (oj 1))) (om (oy 3) oC)))) oC)))))
def xR:MF:=qK 4 5 Dg
def Ao:MS:=(oz (wk (rA (oV (ES true) (oj 1) (rOf (oJ Zl.oX (om (oy 0) oC))))) AF pH)
 (pZ (oJ K27.yQ (om (tj (Bh (oy 0)) [1] rZ (oJ K23.yK (om (oy 0) (om (Av (om (oy 1) (om (kSc (Ak vz (oj 1))) oC))) oC)))) oC))))
def vo:MF:=qK 2 2 Ao
def BZ:MS:=(pZ (Df "Put" ["road","first","second"] (oi (Ak (AJ "Part" "road") (oj 0)) (oi (Ak (AJ "Part" "first") (oj 0)) (oi (Ak (AJ "Part" "second") (oj 0)) ox)))))
def uT:MF:=qK 1 1 BZ
def Ey:MS:=(pZ (oJ K27.xR (om (oy 1) (om (kSc (Ak (AJ "Put" "road") (oj 0))) (om (kSc (Ak (AJ "Put" "first") (oj 0))) (om (kSc (Ak (AJ "Put" "second") (oj 0))) oC))))))
def tR:MF:=qK 2 2 Ey
def ym:MS:=(pZ (oJ K15.pY (om (oJ K27.tR (Hn "Put" "done" (oJ K27.uT (Hn "Part" "other" (oy 0) oC)) (om (oJ K15.pY (om (oy 1) oC)) oC))) oC)))
def tW:MF:=qK 2 2 ym
def B2:MS:=(pZ (Df "Cut" ["road"] (oi (Ak (AJ "Draw" "road") (oj 0)) ox)))
def vx:MF:=qK 1 1 B2
def Eo:MS:=(pZ (oJ K27.vo (om (oy 1) (om (kSc (Ak (AJ "Cut" "road") (oj 0))) oC))))
def tJ:MF:=qK 2 2 Eo
def xX:MS:=(pZ (oJ K15.pY (om (oJ K27.tJ (Hn "Cut" "done" (oJ K27.vx (Hn "Draw" "other" (oy 0) oC)) (om (oJ K15.pY (om (oy 1) oC)) oC))) oC)))
def tU:MF:=qK 2 2 xX
def uq:MS:=(wk (rA (oV (ES false) (Ak vz (oj 1)) (oV zh (oj 0) (oj 4)))) (pZ (Av (om (kSc (rC (.str "turn"))) (om (oy 4) oC)))) pH)
def yc:MS:=(oz (wk (rA (oV Aq (oj 1) (rC .non))) (pZ (Av (om (kSc (rC (.str "bare"))) (om (oy 3) oC)))) pH)
 (oz (AY 4 (oi (tT qM (oi (oj 0) ox)) ox) uq)
 (pZ (Av (om (kSc (rC (.str "new"))) (om (oy 2) oC))))))
def uG:MF:=qK 4 5 yc
def vk:MS:=(wk (rA (oV (ES false) (oj 1) (rOf (oJ Zl.oX (om (RB (uj 0) (oj 3)) oC))))) (pZ (Av (om (kSc (rC (.str "part"))) (om (oy 3) oC)))) pH)
def zT:MS:=(oz (wk (rA (oV Aq (oj 1) (rC .non))) (pZ (Av (om (kSc (rC (.str "bare"))) (om (oy 2) oC)))) pH)
 (oz (AY 3 (oi (tT qM (oi (oj 0) ox)) ox) vk)
 (pZ (Av (om (kSc (rC (.str "new"))) (om (oy 1) oC))))))
def vM:MF:=qK 3 4 zT
def LS:MS:=(oz (Iw [4,5,6,7,8] (oy 3))
 (oz (Iw [9,10,11] (oy 2))
 (oz (oN 12 (qF (om (oJ K27.uG (om (oy 1) (om (oy 10) (om (oy 9) (om (kSc (rC (.int 0))) oC))))) (om (oJ K27.uG (om (oy 1) (om (oy 11) (om (oy 9) (om (kSc (rC (.int 1))) oC))))) oC))))
 (oz (oN 13 (qF (om (oJ K27.vM (om (oy 0) (om (oy 10) (om (kSc (rC (.int 0))) oC)))) (om (oJ K27.vM (om (oy 0) (om (oy 11) (om (kSc (rC (.int 1))) oC)))) oC))))
 (oz (wk (Oc (rA (oV GP (oj 11) (oj 9))) (rA (oV Kw (oV zh (oj 12) (rC (.int 0))) (oV zh (oj 12) (rC (.int 1)))))) (pZ (Av (om (oy 4) (om (kSc (oV uJ (oj 5) (rC (.int 1)))) (om (kSc (oV uJ (oj 6) (rC (.int 1)))) (om (oy 7) (om (oy 8) oC))))))) pH)
 (oz (wk (rA (oV Kw (oV zh (oj 13) (rC (.int 0))) (oV zh (oj 13) (rC (.int 1))))) (pZ (Av (om (oy 4) (om (kSc (oV uJ (oj 5) (rC (.int 1)))) (om (kSc (oV GF (oj 6) (rC (.int 1)))) (om (oy 7) (om (kSc (oV uJ (oj 8) (rC (.int 1)))) oC))))))) pH)
 (pZ (Av (om (oy 4) (om (kSc (oV uJ (oj 5) (rC (.int 1)))) (om (kSc (oV GF (oj 6) (rC (.int 1)))) (om (kSc (oV GF (oj 7) (rC (.int 1)))) (om (oy 8) oC)))))))))))))
def Bq:MF:=qK 4 14 LS
def Dy:MS:=(pZ (Av (om (kSc (oV DU (oj 0) (rC (.int 2)))) (om (kSc (oV DU (oj 0) (rC (.int 1)))) (om (kSc (oV DU (oj 0) (rC (.int 0)))) (om (kSc (oV DU (oj 0) (rC (.int 3)))) (om (kSc (oV DU (oj 0) (rC (.int 4)))) oC)))))))
def wz:MF:=qK 1 1 Dy
def DJ:MS:=(pZ (oJ K27.tW (om (oy 0) (om (oy 1) oC))))
def wu:MF:=qK 2 2 DJ
def DA:MS:=(pZ (oJ K27.tU (om (oy 0) (om (oy 1) oC))))
def wt:MF:=qK 2 2 DA
def JU:MS:=(oz (oN 1 (oJ K12.xo (om (oy 0) oC)))
 (oz (oN 2 (oJ K12.yY (om (Ot (uj 0) (wK (rC (.int 5))) (wK (rC (.int 65)))) (om (oy 1) oC))))
 (oz (oN 3 (qF (om (kSc (qP Zl.oA (oi (oj 0) (oi (rC (.int 3)) ox)))) (om (kSc (qP Zl.oA (oi (oj 0) (oi (rC (.int 4)) ox)))) oC))))
 (oz (wk (rA (oV GP (oV ur (qP Zl.oA (oi (oj 0) (oi (rC (.int 0)) ox))) (rC (.int 2))) (rC (.int 1)))) (oz (Iw [4,1] (oJ K16.CP (om (oy 0) oC))) (oz (oN 2 (oJ K17.wq (om (oy 4) oC))) (oN 3 (qF (om (kSc (qP Zl.oA (oi (oj 0) (oi (rC (.int 5)) ox)))) (om (kSc (qP Zl.oA (oi (oj 0) (oi (rC (.int 6)) ox)))) oC)))))) pH)
 (oz (wk (rA (oV GP (tT qM (oi (oj 2) ox)) (rC (.int 0)))) (oN 2 (qF (om (qF (om (qF oC) oC)) oC))) pH)
 (oz (oN 5 (oJ K13.xY (om (oJ Zl.oX (om (oy 2) oC)) oC)))
 (oz (oN 6 (oJ K15.vN (om (oy 5) oC)))
 (oz (oN 7 (oJ Zl.oX (om (oy 5) oC)))
 (oz (oN 8 (kSc (tT qM (oi (rOf (tj (Bh (oy 5)) [] (vD (C5 (oj 0))) (oy 0))) ox))))
 (oz (oN 9 (BP (Au 7) (lOf (tj (Zb (oi (tT EC (oi (oj 8) (oi (rC (.int 1)) ox))) ox)) [] rZ (kSc (rC .non))))))
 (oz (oN 10 (RB (uj 9) (oV ur (oV zh (oj 3) (rC (.int 0))) (tT qM (oi (oj 9) ox)))))
 (oz (wk (Lh (rA (oV Lu (oj 8) (rC (.int 0)))) (rA (oV GP (oV ur (oV zh (oj 3) (rC (.int 1))) (rC (.int 5))) (rC (.int 2))))) (oN 10 (kSc (rC .non))) pH)
 (oz (oN 9 (BP (lOf (BP (Au 7) (lOf (qF (om (kSc (oV zh (oj 1) (rC (.int 65)))) oC))))) (lOf (tj (Zb (oi (tT EC (oi (oV GF (oj 8) (tT KQ (oi (oV Aq (oj 10) (rC .non)) ox))) (oi (rC (.int 1)) ox))) ox)) [] rZ (kSc (rC .non))))))
 (oz (oN 11 (RB (uj 9) (oV ur (oV CL (oV zh (oj 3) (rC (.int 1))) (rC (.int 5))) (tT qM (oi (oj 9) ox)))))
 (oz (oN 12 (kSc (oV CL (tT qM (oi (oj 7) ox)) (rC (.int 2)))))
 (oz (oN 13 (kSc (oV CL (oV GF (oV uJ (oV GF (oV D4 (rC (.int 2)) (tT qM (oi (oj 2) ox))) (tT qM (oi (oj 5) ox))) (oj 12)) (tT qM (oi (oj 6) ox))) (rC (.int 2)))))
 (oz (oN 14 (Av (om (kSc (tT qM (oi (oj 5) ox))) (om (oy 12) (om (kSc (tT qM (oi (oj 6) ox))) (om (kSc (tT qM (oi (oj 2) ox))) (om (oy 13) oC)))))))
 (oz (oN 15 (Av (om (kSc (oV zh (oj 1) (rC (.int 65)))) (om (oy 10) (om (oy 11) oC)))))
 (oz (wk (vD (rA (qP K13.rF (oi (rOf (oJ K43.uz (om (oJ K51.zg (om (oy 5) oC)) oC))) (oi (oj 14) ox))))) (pZ (kSc (rC (.bl false)))) pH)
 (oz (oN 16 (oJ K27.tR (Hn "Put" "done" (Df "Put" ["road","first","second"] (oi (oV zh (oj 1) (rC (.int 65))) (oi (oj 10) (oi (oj 11) ox)))) (om (oJ K51.zg (om (oy 5) oC)) oC))))
 (oz (wk (vD (rA (qP K13.rF (oi (rOf (oJ K43.uz (om (oy 16) oC))) (oi (rOf (oJ K27.Bq (om (oy 2) (om (oy 6) (om (oy 15) (om (oy 14) oC)))))) ox))))) (pZ (kSc (rC (.bl false)))) pH)
 (oz (oN 17 (oJ K27.wu (Hn "Part" "done" (Df "Part" ["road","first","second"] (oi (oV zh (oj 1) (rC (.int 65))) (oi (oj 10) (oi (oj 11) ox)))) (om (oJ K51.zg (om (oy 5) oC)) oC))))
 (oz (wk (vD (rA (qP K13.rF (oi (rOf (oJ K43.uz (om (oy 17) oC))) (oi (rOf (oJ K27.wz (om (oJ K27.Bq (om (oy 2) (om (oy 5) (om (oy 15) (om (oJ K27.wz (om (oy 14) oC)) oC))))) oC))) ox))))) (pZ (kSc (rC (.bl false)))) pH)
 (oz (wk (vD (rA (qP K13.rF (oi (rOf (oJ K43.uz (om (oJ K27.tJ (Hn "Cut" "done" (Df "Cut" ["road"] (oi (oV zh (oj 1) (rC (.int 65))) ox)) (om (oy 16) oC))) oC))) (oi (oj 14) ox))))) (pZ (kSc (rC (.bl false)))) pH)
 (pZ (kSc (qP K13.rF (oi (rOf (oJ K43.uz (om (oJ K27.wt (Hn "Draw" "done" (Df "Draw" ["road"] (oi (oV zh (oj 1) (rC (.int 65))) ox)) (om (oy 17) oC))) oC))) (oi (oj 14) ox)))))))))))))))))))))))))))))
def Sv:MF:=qK 1 18 JU
local macro_rules | `(tactic| bv_omega)=>`(tactic| ((first | apply Sb | apply AH | apply Zs | apply UW) <;> apply_rules (maxDepth:=100000) [@Sb,@aaT,@vt,@Ay,@zt,@CF,@aeG,@acH,@SR.kSc,@CN,@Gc,@Ju,@SK.lOf,@SK.rOf,@aaJ,@YS,@acG,@aeP,@acp,@ab5,@aet,@Uk,@Wv,@aa8,@ZR,@aap,@Wa,@aav,@ab4,@Xh,@Zj,@ZL,@aeq,@ZY,@acN,@ZA,@ZW,@Sx,@adM,@acf,@abz,@aeo,@aa6,@aca,@acs,@ZJ,@Sn,@Qg,@YU,@Sq,@aeH,@Wg,@aaw,@Ni,@aan,@adp,@Up,@S8,@Q8,@ach,@Od,@Yh,@RQ,@Yb,@Xq,@acJ,@WX,@aaW,@abf,@adz,@aem,@Xj,@adW,@XS,@XR,@Vl,@Qk,@X9,@abX,@abt,@ZU,@ZO,@adE,@aeN,@ace,@acu,@W1,@YW,@Yu,@W7,@V3,@Tu,@Yj,@Ti,@ZM,@YD,@UW,@Xi,@X5,@Tw,@Xr,@Zs,@UH,@WQ,@YT,@AH,@Uy,@Yk,@aa7,@Uc,@abv,@ZK,@acB,@adJ,@ad0,@acx,@aaq,@SL.q] <;> first | decide | exact λ_ _ _ h=>h))
def yA(i:Nat):Stmt:=PySem.Challenge.pw_mapround_k27_whole_road_and_counts.main.body.getD i (.Pass ⟨0,0,0,0⟩)
section
variable {P:jS}{w:jU}{K:Ζ}{mg:Str->Υ}{base:Heap}
def Hx(i j:Nat):Stmt:=match yA i with|.ClassDef _ _ _ b _ _ _ _ _ _ _=>b.getD j (.Pass ⟨0,0,0,0⟩)|s=>s
abbrev Gd:Stmt:=Hx 37 0
def Yc:oI ["self","road","first","second"] ["self","road","first","second"] (ou Gd):=sC
def XQ{C f:Addr}{fd:jX}(F:JN K "__init__" "Put.__init__" Gd f fd)(b:rR K fd ["self","road","first","second"] [])(l:Mk K C f)(cl:Lc K C)(n:oW K C "road")(n1:oW K C "first")(n2:oW K C "second")(m:mg "Put" = some (.ref C)):Gm P w K mg base "Put" C f fd ["self","road","first","second"] ["road","first","second"]:=
 ⟨l,F.ok Yc (λt H Q E h=>Ah h) λu A outer s H t Q E hr h=>⟨_,og (Bd (pv 0) (pv 1) rfl) (og (Bd (pv 0) (pv 2) rfl) (oq (Bd (pv 0) (pv 3) rfl))),ZF cl n n1 n2 (by decide) (by decide) (by decide) h⟩,b,m⟩
abbrev Ds:Stmt:=Hx 39 0
def UU:oI ["self","road","first","second"] ["self","road","first","second"] (ou Ds):=sC
def Ul{C f:Addr}{fd:jX}(F:JN K "__init__" "Part.__init__" Ds f fd)(b:rR K fd ["self","road","first","second"] [])(l:Mk K C f)(cl:Lc K C)(n:oW K C "road")(n1:oW K C "first")(n2:oW K C "second")(m:mg "Part" = some (.ref C)):Gm P w K mg base "Part" C f fd ["self","road","first","second"] ["road","first","second"]:=
 ⟨l,F.ok UU (λt H Q E h=>Ah h) λu A outer s H t Q E hr h=>⟨_,og (Bd (pv 0) (pv 1) rfl) (og (Bd (pv 0) (pv 2) rfl) (oq (Bd (pv 0) (pv 3) rfl))),ZF cl n n1 n2 (by decide) (by decide) (by decide) h⟩,b,m⟩
abbrev Gb:Stmt:=Hx 38 0
def W2:oI ["self","road"] ["self","road"] (ou Gb):=sC
def YC{C f:Addr}{fd:jX}(F:JN K "__init__" "Cut.__init__" Gb f fd)(b:rR K fd ["self","road"] [])(l:Mk K C f)(cl:Lc K C)(n:oW K C "road")(m:mg "Cut" = some (.ref C)):Gm P w K mg base "Cut" C f fd ["self","road"] ["road"]:=
 ⟨l,F.ok W2 (λt H Q E h=>Ah h) λu A outer s H t Q E hr h=>⟨_,oq (Bd (pv 0) (pv 1) rfl),Zk cl n h⟩,b,m⟩
abbrev Dr:Stmt:=Hx 40 0
def UD:oI ["self","road"] ["self","road"] (ou Dr):=sC
def Uz{C f:Addr}{fd:jX}(F:JN K "__init__" "Draw.__init__" Dr f fd)(b:rR K fd ["self","road"] [])(l:Mk K C f)(cl:Lc K C)(n:oW K C "road")(m:mg "Draw" = some (.ref C)):Gm P w K mg base "Draw" C f fd ["self","road"] ["road"]:=
 ⟨l,F.ok UD (λt H Q E h=>Ah h) λu A outer s H t Q E hr h=>⟨_,oq (Bd (pv 0) (pv 1) rfl),Zk cl n h⟩,b,m⟩
abbrev CQ:Stmt:=yA 10
def HI:oI ["ends","start"] ["ends"] (ou CQ):=sC
abbrev LO(P w K mg base):=Fn P w K mg base 1 "turned" CQ ["ends"] (qo K Zl.yR)
def Rn(D:xC K mg "turned" CQ ["ends"] f fd)(B:Bt mg):LO P w K mg base f fd:=
 yO D HI λ_ _ _ _ _ _ hr n l=>⟨_,
   (og (qi (oY BV (oE oT (by rfl) B.len PySem.boot_len (nZ (pv 0) oa)) ot (qb _)) (oq (oK (pK oa))) oU)
   (og (oH (i:=1) HI (ri af cD eC FG (pv 0) (nZ (oE (IC rfl) (by rfl) B.min eQ (nZ (pv 0) oa)) oa)))
   (oq (oK (oP xq (tH vg (pv 0) (uD (pv 1)) vY) (tH vg (pv 0) vY (uD (pv 1)))))))),by bv_omega⟩
abbrev yq:Stmt:=yA 11
def Af:oI ["turns","told","turn"] ["turns"] (ou yq):=sC
abbrev uO(P w K mg base):=Fn P w K mg base 1 "told_ends" yq ["turns"] (qo K Zl.oX)
def Jv(D:xC K mg "told_ends" yq ["turns"] f fd)(B:Bt mg):uO P w K mg base f fd:=
 yO D Af λ_ _ _ _ _ _ hr n l=>⟨_,
   (og (oH (i:=1) Af (pK oa))
   (og (qX PassesOwn.never rfl (qp (pv 0)) (qI (i:=2) Af)
    (oq (qr (ri af cV cW yF (pv 1) (nZ (pv 2) oa)))))
   (oq (oK (pv 1))))),by bv_omega⟩
abbrev tq:Stmt:=yA 12
def Cu:oI ["turns"] ["turns"] (ou tq):=sC
abbrev yo(P w K mg base):=Fn P w K mg base 2 "refuse_too_many" tq ["turns"] (qo K Zl.tD)
def CB(D:xC K mg "refuse_too_many" tq ["turns"] f fd)(B:Bt mg)(s:mg "MOST_ENDS" = some (.int 128 El))(t:mg "MOST_BARE_PLACES" = some (.int 128 xw))(l:uO P w K mg base u1 v1):yo P w K mg base f fd:=
 yO D Cu λ_ _ _ _ _ _ hr u n=>⟨_,
   (og (qi (oY G0 (oE oT (by rfl) B.len PySem.boot_len (nZ (oO l hr (nZ (pv 0) oa)) oa)) (OA (v:=.int 128) (by rfl) s ⟨_,rfl⟩) (qb _)) (oq yE) oU)
   (oq (qi (oY G0 (ri af gR PySem.F.type_list_count (TN n) (pv 0) (nZ (pK oa) oa)) (OA (v:=.int 128) (by rfl) t ⟨_,rfl⟩) (qb _)) (oq yE) oU))),by bv_omega⟩
abbrev uB:Stmt:=yA 13
def Eb:oI ["turns"] ["turns"] (ou uB):=sC
abbrev wC(P w K mg base):=Fn P w K mg base 2 "in_good_order" uB ["turns"] (qo K Zl.rD)
def DO(D:xC K mg "in_good_order" uB ["turns"] f fd)(B:Bt mg)(l:LO P w K mg base u0 v0):wC P w K mg base f fd:=
 yO D Eb λ_ _ _ _ _ _ hr s n=>⟨_,
   (oq (oK (oE (CO s) (by rfl) B.sorted dZ (nZ (ud (cl:=[]) (N:=["turn"]) (fr:=[]) rfl rfl (by trivial) rfl (by trivial) rfl (ue.none (by trivial)) (qp (pv 0)) (λ_ _ _ _=>yy) (λ_ _ _ _=>(oO l hr (nZ (pv 0) oa)))) oa)))),by bv_omega⟩
abbrev BL:Stmt:=yA 14
def N6:oI ["m"] ["m"] (ou BL):=sC
abbrev DR(P w K mg base):=Fn P w K mg base 2 "ends_of" BL ["m"] (qo K Zl.yT)
def Na(D:xC K mg "ends_of" BL ["m"] f fd)(B:Bt mg)(l:uO P w K mg base u1 v1):DR P w K mg base f fd:=
 yO D N6 λ_ _ _ _ _ _ hr s n=>⟨_,
   (oq (oK (oE Km (by rfl) B.sorted dZ (nZ (oO l hr (nZ (pv 0) oa)) oa)))),by bv_omega⟩
abbrev zJ:Stmt:=yA 15
def LL:oI ["m"] ["m"] (ou zJ):=sC
abbrev FQ(P w K mg base):=Fn P w K mg base 3 "roads_of" zJ ["m"] (qo K Zl.xN)
def Kx(D:xC K mg "roads_of" zJ ["m"] f fd)(B:Bt mg)(l:DR P w K mg base u4 v4):FQ P w K mg base f fd:=
 yO D LL λ_ _ _ _ _ _ hr s n=>⟨_,
   (oq (oK (ud (cl:=[]) (N:=["end"]) (fr:=[]) rfl rfl (by trivial) rfl (by trivial) rfl (ue.none (by trivial)) (qp (oO l hr (nZ (pv 0) oa))) (λ_ _ _ _=>FV (oY G0 (pv 0) ot (qb _))) (λ_ _ _ _=>(pv 0))))),by bv_omega⟩
abbrev yi:Stmt:=yA 16
def vh:oI ["m","places","place","turn","end"] ["m"] (ou yi):=sC
abbrev EL(P w K mg base):=Fn P w K mg base 1 "places_at" yi ["m"] (qo K Zl.ye)
def Jg(D:xC K mg "places_at" yi ["m"] f fd)(B:Bt mg):EL P w K mg base f fd:=
 yO D vh λ_ _ _ _ _ _ hr n l=>⟨_,
   (og (oH (i:=1) vh vp)
   (og (qX PassesOwn.never rfl (Wq (by rfl) B.enum (nZ (pv 0) oa)) (Hg rfl (rK (qI (i:=2) vh) (rK (qI (i:=3) vh) CS)))
    (oq (qX PassesOwn.never rfl (qp (pv 3)) (qI (i:=4) vh)
    (oq (vT (tK hr) (pv 1) (pv 4) (pv 2) rfl)))))
   (oq (oK (pv 1))))),by bv_omega⟩
abbrev Ff:Stmt:=yA 17
def Bc:oI ["m","following","turn","end","behind"] ["m"] (ou Ff):=sC
abbrev Ou(P w K mg base):=Fn P w K mg base 1 "nexts" Ff ["m"] (qo K K51.FB)
def RX(D:xC K mg "nexts" Ff ["m"] f fd)(B:Bt mg):Ou P w K mg base f fd:=
 yO D Bc λ_ _ _ _ _ _ hr n l=>⟨_,
   (og (oH (i:=1) Bc vp)
   (og (qX PassesOwn.never rfl (qp (pv 0)) (qI (i:=2) Bc)
    (oq (qX PassesOwn.never rfl (aaR (by rfl) B.zip (nZ (pv 2) (nZ (oP xq (tH vg (pv 2) (uD ot) vY) (tH vg (pv 2) vY (uD ot))) oa))) (Hg rfl (rK (qI (i:=3) Bc) (rK (qI (i:=4) Bc) CS)))
    (oq (vT (tK hr) (pv 1) (pv 3) (pv 4) rfl)))))
   (oq (oK (pv 1))))),by bv_omega⟩
abbrev Bw:Stmt:=yA 19
def uI:oI ["m","start","place_of","known","waiting","here","end","there"] ["m","start"] (ou Bw):=sC
abbrev IH(P w K mg base):=Fn P w K mg base 2 "reached" Bw ["m","start"] (qo K K51.yP)
def MD(D:xC K mg "reached" Bw ["m","start"] f fd)(B:Bt mg)(l:EL P w K mg base u6 v6):IH P w K mg base f fd:=
 yO D uI λ_ _ _ _ _ _ hr s n=>⟨_,
   (og (oH (i:=2) uI (oO l hr (nZ (pv 0) oa)))
   (og (oH (i:=3) uI (YE (SW (pv 1) yf X2) rfl rfl (by simp) (by decide)))
   (og (oH (i:=4) uI (pK (nZ (pv 1) oa)))
   (og (xv PassesOwn.never (oY G0 (oE oT (by rfl) B.len PySem.boot_len (nZ (pv 4) oa)) ot (qb _)) (og (oH (i:=5) uI (T7 af dE dF RT (pv 4))) (oq (qX PassesOwn.never rfl (qp (qB pI (pv 0) (pv 5) (λ_ _=>rfl))) (qI (i:=6) uI)
    (og (oH (i:=7) uI (BI (tK hr) (pv 2) (wy tS (pv 6)) (by first|rfl|exact trivial|(intro _ _;rfl)))) (oq (qi (Cm (vE (tK hr) (pv 7) (pv 3))) (og (vT (tK hr) (pv 3) (pv 7) yf rfl) (oq (qr (ri af aC aD qk (pv 4) (nZ (pv 7) oa))))) oU)))))))
   (oq (oK (oE (Jx rfl) (by rfl) B.sorted dZ (nZ (pv 3) oa)))))))),by bv_omega⟩
abbrev Dl:Stmt:=yA 20
def xg:oI ["m","known","found","start","places","place"] ["m"] (ou Dl):=sC
abbrev KJ(P w K mg base):=Fn P w K mg base 3 "pieces" Dl ["m"] (qo K K51.Bk)
def Ro(D:xC K mg "pieces" Dl ["m"] f fd)(B:Bt mg)(l:IH P w K mg base u8 v8):KJ P w K mg base f fd:=
 yO D xg λ_ _ _ _ _ _ hr s n=>⟨_,
   (og (oH (i:=1) xg vp)
   (og (oH (i:=2) xg (pK oa))
   (og (qX PassesOwn.never rfl (sV (by rfl) B.range (nZ (oE oT (by rfl) B.len PySem.boot_len (nZ (pv 0) oa)) oa)) (qI (i:=3) xg)
    (oq (qi (Cm (vE (tK hr) (pv 3) (pv 1))) (og (oH (i:=4) xg (oO l hr (nZ (pv 0) (nZ (pv 3) oa)))) (og (qX PassesOwn.never rfl (qp (pv 4)) (qI (i:=5) xg)
    (oq (vT (tK hr) (pv 1) (pv 5) yf rfl))) (oq (qr (ri af aC aD qk (pv 2) (nZ (ud (N:=["place","m"]) (fr:=[0]) rfl rfl (by trivial) rfl (by trivial) rfl (ue.of (by trivial) rfl rfl (by exact⟨rfl,trivial⟩) (by repeat (first|exact trivial|refine⟨(by first|exact λ_=>⟨_,rfl⟩|exact λh=>(by rcases h with h|h <;> cases h)),?_⟩)) (by exact⟨⟨rfl,rfl,rfl⟩,trivial⟩)) (qp (pv 4)) (λ_ _ _ _=>yy) (λ_ _ _ _=>(xi ve (by rfl) B.list bW (nZ (qB pI (pv 1) (pv 0) (λ_ _=>rfl)) oa)))) oa)))))) oU)))
   (oq (oK (pv 2)))))),by bv_omega⟩
abbrev Bo:Stmt:=yA 22
def zR:oI ["m","following","steps","end"] ["m"] (ou Bo):=sC
abbrev Iq(P w K mg base):=Fn P w K mg base 2 "onwards" Bo ["m"] (qo K K15.Bv)
def Mt(D:xC K mg "onwards" Bo ["m"] f fd)(B:Bt mg)(l:Ou P w K mg base u7 v7):Iq P w K mg base f fd:=
 yO D zR λ_ _ _ _ _ _ hr s n=>⟨_,
   (og (oH (i:=1) zR (oO l hr (nZ (pv 0) oa)))
   (og (oH (i:=2) zR vp)
   (og (qX PassesOwn.never rfl (Xe.OB (pv 1)) (qI (i:=3) zR)
    (oq (vT (tK hr) (pv 2) (pv 3) (BI (tK hr) (pv 1) (wy tS (pv 3)) (by first|rfl|exact trivial|(intro _ _;rfl))) rfl)))
   (oq (oK (pv 2)))))),by bv_omega⟩
abbrev wM:Stmt:=yA 23
def vV:oI ["steps","end","ends","step"] ["steps","end"] (ou wM):=sC
abbrev DH(P w K mg base):=Fn P w K mg base 1 "gone_round" wM ["steps","end"] (qo K K15.wQ)
def Hu(D:xC K mg "gone_round" wM ["steps","end"] f fd)(B:Bt mg):DH P w K mg base f fd:=
 yO D vV λ_ _ _ _ _ _ hr n l=>⟨_,
   (og (oH (i:=2) vV (pK (nZ (pv 1) oa)))
   (og (oH (i:=3) vV (BI (tK hr) (pv 0) (pv 1) (by first|rfl|exact trivial|(intro _ _;rfl))))
   (og (xv PassesOwn.never (oY OM (pv 3) (pv 1) (qb _)) (og (qr (ri af aC aD qk (pv 2) (nZ (pv 3) oa))) (oq (oH (i:=3) vV (BI (tK hr) (pv 0) (pv 3) (by first|rfl|exact trivial|(intro _ _;rfl)))))))
   (oq (oK (pv 2)))))),by bv_omega⟩
abbrev Fl:Stmt:=yA 24
def xE:oI ["m","steps","known","found","start","land","end"] ["m"] (ou Fl):=sC
abbrev Fb(P w K mg base):=Fn P w K mg base 3 "lands" Fl ["m"] (qo K K15.pY)
def UR(D:xC K mg "lands" Fl ["m"] f fd)(B:Bt mg)(s:Iq P w K mg base u10 v10)(t:DR P w K mg base u4 v4)(l:wC P w K mg base u3 v3)(n:DH P w K mg base u11 v11):Fb P w K mg base f fd:=
 yO D xE λ_ _ _ _ _ _ hr x u=>⟨_,
   (og (oH (i:=1) xE (oO s hr (nZ (pv 0) oa)))
   (og (oH (i:=2) xE vp)
   (og (Pb (i:=3) (cl:=[]) (N:=["turn"]) (fr:=[]) rfl xE.nd rfl (by trivial) rfl (by trivial) rfl (by trivial) rfl (ue.none (by trivial)) (qp (pv 0)) (λ_ _ _ _=>FV (oY BV (oE oT (by rfl) B.len PySem.boot_len (nZ (pv 0) oa)) ot (qb _))) (λ_ _ _ _=>(pK oa)))
   (og (qX PassesOwn.never rfl (qp (oO t hr (nZ (pv 0) oa))) (qI (i:=4) xE)
    (oq (qi (Cm (vE (tK hr) (pv 4) (pv 2))) (og (oH (i:=5) xE (oO n hr (nZ (pv 1) (nZ (pv 4) oa)))) (og (qX PassesOwn.never rfl (qp (pv 5)) (qI (i:=6) xE)
    (oq (vT (tK hr) (pv 2) (pv 6) yf rfl))) (oq (qr (ri af aC aD qk (pv 3) (nZ (pv 5) oa)))))) oU)))
   (oq (oK (oO l hr (nZ (pv 3) oa)))))))),by bv_omega⟩
abbrev Dj:Stmt:=yA 25
def xj:oI ["m","place_count","road_count","land_count","piece_count","handle_count"] ["m"] (ou Dj):=sC
abbrev Kr(P w K mg base):=Fn P w K mg base 4 "counts" Dj ["m"] (qo K K43.uz)
def QR(D:xC K mg "counts" Dj ["m"] f fd)(B:Bt mg)(l:FQ P w K mg base u5 v5)(s:Fb P w K mg base u12 v12)(n:KJ P w K mg base u9 v9):Kr P w K mg base f fd:=
 yO D xj λ_ _ _ _ _ _ hr u t=>⟨_,
   (og (oH (i:=1) xj (oE oT (by rfl) B.len PySem.boot_len (nZ (pv 0) oa)))
   (og (oH (i:=2) xj (oE oT (by rfl) B.len PySem.boot_len (nZ (oO l hr (nZ (pv 0) oa)) oa)))
   (og (oH (i:=3) xj (oE oT (by rfl) B.len PySem.boot_len (nZ (oO s hr (nZ (pv 0) oa)) oa)))
   (og (oH (i:=4) xj (oE oT (by rfl) B.len PySem.boot_len (nZ (oO n hr (nZ (pv 0) oa)) oa)))
   (og (oH (i:=5) xj (oP vX (oP AR (oP rp (oP AR (oP JZ ot (pv 4)) (pv 1)) (pv 2)) (pv 3)) ot))
   (oq (oK (uM (nZ (pv 1) (nZ (pv 2) (nZ (pv 3) (nZ (pv 4) (nZ (pv 5) oa))))))))))))),by bv_omega⟩
abbrev BJ:Stmt:=yA 27
def Mn:oI ["turns"] ["turns"] (ou BJ):=sC
abbrev DW(P w K mg base):=Fn P w K mg base 3 "settled" BJ ["turns"] (qo K K27.yQ)
def Mj(D:xC K mg "settled" BJ ["turns"] f fd)(B:Bt mg)(l:yo P w K mg base u2 v2)(n:wC P w K mg base u3 v3):DW P w K mg base f fd:=
 yO D Mn λ_ _ _ _ _ _ hr t s=>⟨_,
   (og (qr (oO l hr (nZ (pv 0) oa)))
   (oq (oK (oO n hr (nZ (pv 0) oa))))),by bv_omega⟩
abbrev Dp:Stmt:=yA 28
def HS:oI ["turn","end","spot","behind"] ["turn","end","spot"] (ou Dp):=sC
abbrev Lq(P w K mg base):=Fn P w K mg base 1 "spread" Dp ["turn","end","spot"] (qo K K21.yX)
def Rk(D:xC K mg "spread" Dp ["turn","end","spot"] f fd)(B:Bt mg):Lq P w K mg base f fd:=
 yO D HS λ_ _ _ _ _ _ hr n l=>⟨_,
   (og (qi (oY wV (pv 2) (pv 0) rfl) (oq (oK (pv 0))) oU)
   (og (oH (i:=3) HS (oP rp (ri af cD eC FG (pv 0) (nZ (pv 2) oa)) ot))
   (oq (oK (oP xq (oP xq (tH vg (pv 0) vY (uD (pv 3))) (pK (nZ (pv 1) oa))) (tH vg (pv 0) (uD (pv 3)) vY)))))),by bv_omega⟩
abbrev wW:Stmt:=yA 29
def HG:oI ["turns","end","spot"] ["turns","end","spot"] (ou wW):=sC
abbrev Da(P w K mg base):=Fn P w K mg base 2 "put_behind" wW ["turns","end","spot"] (qo K K27.wX)
def HF(D:xC K mg "put_behind" wW ["turns","end","spot"] f fd)(B:Bt mg)(l:uO P w K mg base u1 v1)(n:Lq P w K mg base u15 v15):Da P w K mg base f fd:=
 yO D HG λ_ _ _ _ _ _ hr t s=>⟨_,
   (og (qi (oY wV (pv 2) (oO l hr (nZ (pv 0) oa)) rfl) (oq yE) oU)
   (oq (oK (ud (N:=["turn","end","spot"]) (fr:=[1,2]) rfl rfl (by trivial) rfl (by trivial) rfl (ue.of (by trivial) rfl rfl (by exact⟨rfl,rfl,trivial⟩) (by repeat (first|exact trivial|refine⟨(by first|exact λ_=>⟨_,rfl⟩|exact λh=>(by rcases h with h|h <;> cases h)),?_⟩)) (by exact⟨⟨rfl,rfl,rfl⟩,⟨rfl,rfl,rfl⟩,trivial⟩)) (qp (pv 0)) (λ_ _ _ _=>yy) (λ_ _ _ _=>(oO n hr (nZ (pv 0) (nZ (pv 1) (nZ (pv 2) oa))))))))),by bv_omega⟩
abbrev yu:Stmt:=yA 30
def C9:oI ["turns","end","bare"] ["turns","end"] (ou yu):=sC
abbrev Et(P w K mg base):=Fn P w K mg base 1 "put_alone" yu ["turns","end"] (qo K K27.yp)
def Jy(D:xC K mg "put_alone" yu ["turns","end"] f fd)(B:Bt mg):Et P w K mg base f fd:=
 yO D C9 λ_ _ _ _ _ _ hr n l=>⟨_,
   (og (qi (oY (Rp l) (pK oa) (pv 0) rfl) (oq yE) oU)
   (og (oH (i:=2) C9 (ri af cD eC (Q6 l) (pv 0) (nZ (pK oa) oa)))
   (oq (oK (oP xq (oP xq (tH vg (pv 0) vY (uD (pv 2))) (pK (nZ (pK (nZ (pv 1) oa)) oa))) (tH vg (pv 0) (uD (oP rp (pv 2) ot)) vY)))))),by bv_omega⟩
abbrev Bu:Stmt:=yA 31
def NY:oI ["turns","end","spot"] ["turns","end","spot"] (ou Bu):=sC
abbrev HU(P w K mg base):=Fn P w K mg base 3 "put_end" Bu ["turns","end","spot"] (qo K K27.tY)
def M1(D:xC K mg "put_end" Bu ["turns","end","spot"] f fd)(B:Bt mg)(l:Da P w K mg base u16 v16)(n:Et P w K mg base u17 v17):HU P w K mg base f fd:=
 yO D NY λ_ _ _ _ _ _ hr t s=>⟨_,
   (og (qi (oY Eg (pv 2) zX (qb _)) (oq (oK (oO n hr (nZ (pv 0) (nZ (pv 1) oa))))) oU)
   (oq (oK (oO l hr (nZ (pv 0) (nZ (pv 1) (nZ (pv 2) oa))))))),by bv_omega⟩
abbrev xW:Stmt:=yA 32
def Dq:oI ["m","road","first","second","started"] ["m","road","first","second"] (ou xW):=sC
abbrev Ew(P w K mg base):=Fn P w K mg base 4 "with_road" xW ["m","road","first","second"] (qo K K27.xR)
def J1(D:xC K mg "with_road" xW ["m","road","first","second"] f fd)(B:Bt mg)(l:HU P w K mg base u18 v18)(s:DW P w K mg base u14 v14)(n:uO P w K mg base u1 v1):Ew P w K mg base f fd:=
 yO D Dq λ_ _ _ _ _ _ hr u t=>⟨_,
   (og (qi (oY BO (pv 1) (oO n hr (nZ (pv 0) oa)) rfl) (oq yE) oU)
   (og (oH (i:=4) Dq (oO l hr (nZ (pv 0) (nZ (pv 1) (nZ (pv 2) oa)))))
   (oq (oK (oO s hr (nZ (oO l hr (nZ (pv 4) (nZ (wy tS (pv 1)) (nZ (pv 3) oa)))) oa)))))),by bv_omega⟩
abbrev BN:Stmt:=yA 33
def NQ:oI ["turn","gone"] ["turn","gone"] (ou BN):=sC
abbrev HW(P w K mg base):=Fn P w K mg base 1 "thinned" BN ["turn","gone"] (qo K K23.yK)
def Nl(D:xC K mg "thinned" BN ["turn","gone"] f fd)(B:Bt mg):HW P w K mg base f fd:=
 yO D NQ λ_ _ _ _ _ _ hr n l=>⟨_,
   (oq (oK (ud (N:=["end","gone"]) (fr:=[1]) rfl rfl (by trivial) rfl (by trivial) rfl (ue.of (by trivial) rfl rfl (by exact⟨rfl,trivial⟩) (by repeat (first|exact trivial|refine⟨(by first|exact λ_=>⟨_,rfl⟩|exact λh=>(by rcases h with h|h <;> cases h)),?_⟩)) (by exact⟨⟨rfl,rfl,rfl⟩,trivial⟩)) (qp (pv 0)) (λ_ _ _ _=>FV (oY wV (pv 0) (pv 1) rfl)) (λ_ _ _ _=>(pv 0))))),by bv_omega⟩
abbrev vw:Stmt:=yA 34
def E4:oI ["m","road"] ["m","road"] (ou vw):=sC
abbrev AQ(P w K mg base):=Fn P w K mg base 4 "without_road" vw ["m","road"] (qo K K27.vo)
def EW(D:xC K mg "without_road" vw ["m","road"] f fd)(B:Bt mg)(n:DW P w K mg base u14 v14)(l:uO P w K mg base u1 v1)(s:HW P w K mg base u20 v20):AQ P w K mg base f fd:=
 yO D E4 λ_ _ _ _ _ _ hr u t=>⟨_,
   (og (qi (oY wV (pv 1) (oO l hr (nZ (pv 0) oa)) rfl) (oq yE) oU)
   (oq (oK (oO n hr (nZ (ud (N:=["turn","road"]) (fr:=[1]) rfl rfl (by trivial) rfl (by trivial) rfl (ue.of (by trivial) rfl rfl (by exact⟨rfl,trivial⟩) (by repeat (first|exact trivial|refine⟨(by first|exact λ_=>⟨_,rfl⟩|exact λh=>(by rcases h with h|h <;> cases h)),?_⟩)) (by exact⟨⟨rfl,rfl,rfl⟩,trivial⟩)) (qp (pv 0)) (λ_ _ _ _=>yy) (λ_ _ _ _=>(oO s hr (nZ (pv 0) (nZ (uM (nZ (pv 1) (nZ (wy tS (pv 1)) oa))) oa))))) oa))))),by bv_omega⟩
abbrev zZ:Stmt:=Hx 39 3
def Hr:oI ["self"] ["self"] (ou zZ):=sC
def HB{n:Addr}{l:Addr}{u:Addr}{x:jX}(F:JN K "other" "Part.other" zZ f fd)(mt:Hk K l "other" f)(b:rR K fd ["self"] [])(B:Bt mg)(z:xO K "Put" n)(M:oW K n "road")(O:oW K n "first")(R:oW K n "second")(t:xO K "Part" l)(G:oW K l "road")(I:oW K l "first")(J:oW K l "second")(L:Gm P w K mg base "Put" n u x ["self","road","first","second"] ["road","first","second"]):Mg P w K mg base 3 l "other" ["self"] (qo K K27.uT) f fd:=
 ⟨t.cl,mt,b,F.ok Hr (λ_ _ _ _=>B9) λS A outer s H T Q E hr h=>⟨_,
   (oq (oK (Ef L (hr.mono (by decide)) (nZ (AW (pv 0) (by rfl)) (nZ (AW (pv 0) (by rfl)) (nZ (AW (pv 0) (by rfl)) oa)))))),
   xx _ (K:=K) (AH (Ni z (Ay (yv t G (zt 0)) (Ay (yv t I (zt 0)) (Ay (yv t J (zt 0)) Ju))))) h⟩⟩
abbrev Cd:Stmt:=Hx 37 1
def Kq:oI ["self","m"] ["self","m"] (ou Cd):=sC
def KZ{n:Addr}(F:JN K "done" "Put.done" Cd f fd)(mt:Hk K n "done" f)(b:rR K fd ["self","m"] [])(B:Bt mg)(l:Ew P w K mg base u19 v19)(t:xO K "Put" n)(u:oW K n "road")(x:oW K n "first")(z:oW K n "second"):Mg P w K mg base 5 n "done" ["self","m"] (qo K K27.tR) f fd:=
 ⟨t.cl,mt,b,F.ok Kq (λ_ _ _ _=>B9) λG A outer s H I Q E hr h=>⟨_,
   (oq (oK (oO l hr (nZ (pv 1) (nZ (AW (pv 0) (by rfl)) (nZ (AW (pv 0) (by rfl)) (nZ (AW (pv 0) (by rfl)) oa))))))),
   xx _ (K:=K) (AH (CN (vt (CF 1) (vt (SR.kSc (yv t u (zt 0))) (vt (SR.kSc (yv t x (zt 0))) (vt (SR.kSc (yv t z (zt 0))) Gc)))))) h⟩⟩
abbrev tX:Stmt:=yA 41
def DC:oI ["change","m"] ["change","m"] (ou tX):=sC
abbrev yI(P w K mg base):=Fn P w K mg base 6 "done_over" tX ["change","m"] (qo K K27.tW)
def CV{n:Addr}{s:Addr}(D:xC K mg "done_over" tX ["change","m"] f fd)(B:Bt mg)(l:Fb P w K mg base u12 v12)(z:xO K "Put" n)(E:oW K n "road")(G:oW K n "first")(H:oW K n "second")(I:xO K "Part" s)(J:oW K s "road")(L:oW K s "first")(M:oW K s "second")(u:Mg P w K mg base 3 s "other" ["self"] (qo K K27.uT) fPart_other fdPart_other)(x:Mg P w K mg base 5 n "done" ["self","m"] (qo K K27.tR) fPut_done fdPut_done):yI P w K mg base f fd:=
 yO D DC λ_ _ _ _ _ _ hr O t=>⟨_,
   (oq (oK (oO l hr (nZ (IQ x (hr.mono (by decide)) (UA u (hr.mono (by decide)) (pv 0)) (nZ (oO l hr (nZ (pv 1) oa)) oa)) oa)))),by bv_omega⟩
abbrev zY:Stmt:=Hx 40 3
def Ho:oI ["self"] ["self"] (ou zY):=sC
def HH{n:Addr}{l:Addr}{u:Addr}{x:jX}(F:JN K "other" "Draw.other" zY f fd)(mt:Hk K l "other" f)(b:rR K fd ["self"] [])(B:Bt mg)(z:xO K "Cut" n)(J:oW K n "road")(t:xO K "Draw" l)(G:oW K l "road")(I:Gm P w K mg base "Cut" n u x ["self","road"] ["road"]):Mg P w K mg base 3 l "other" ["self"] (qo K K27.vx) f fd:=
 ⟨t.cl,mt,b,F.ok Ho (λ_ _ _ _=>B9) λL A outer s H M Q E hr h=>⟨_,
   (oq (oK (Ef I (hr.mono (by decide)) (nZ (AW (pv 0) (by rfl)) oa)))),
   xx _ (K:=K) (AH (Ni z (Ay (yv t G (zt 0)) Ju))) h⟩⟩
abbrev Cv:Stmt:=Hx 38 1
def LX:oI ["self","m"] ["self","m"] (ou Cv):=sC
def KM{n:Addr}(F:JN K "done" "Cut.done" Cv f fd)(mt:Hk K n "done" f)(b:rR K fd ["self","m"] [])(B:Bt mg)(l:AQ P w K mg base u21 v21)(t:xO K "Cut" n)(u:oW K n "road"):Mg P w K mg base 5 n "done" ["self","m"] (qo K K27.tJ) f fd:=
 ⟨t.cl,mt,b,F.ok LX (λ_ _ _ _=>B9) λx A outer s H z Q E hr h=>⟨_,
   (oq (oK (oO l hr (nZ (pv 1) (nZ (AW (pv 0) (by rfl)) oa))))),
   xx _ (K:=K) (AH (CN (vt (CF 1) (vt (SR.kSc (yv t u (zt 0))) Gc)))) h⟩⟩
abbrev vL:Stmt:=yA 41
def De:oI ["change","m"] ["change","m"] (ou vL):=sC
abbrev za(P w K mg base):=Fn P w K mg base 6 "done_over" vL ["change","m"] (qo K K27.tU)
def Do{n:Addr}{s:Addr}(D:xC K mg "done_over" vL ["change","m"] f fd)(B:Bt mg)(l:Fb P w K mg base u12 v12)(z:xO K "Cut" n)(E:oW K n "road")(G:xO K "Draw" s)(H:oW K s "road")(u:Mg P w K mg base 3 s "other" ["self"] (qo K K27.vx) fDraw_other fdDraw_other)(x:Mg P w K mg base 5 n "done" ["self","m"] (qo K K27.tJ) fCut_done fdCut_done):za P w K mg base f fd:=
 yO D De λ_ _ _ _ _ _ hr I t=>⟨_,
   (oq (oK (oO l hr (nZ (IQ x (hr.mono (by decide)) (UA u (hr.mono (by decide)) (pv 0)) (nZ (oO l hr (nZ (pv 1) oa)) oa)) oa)))),by bv_omega⟩
abbrev Dv:Stmt:=yA 43
def Re:oI ["_law_script","_law_k"] ["_law_script","_law_k"] (ou Dv):=sC
abbrev C3(P w K mg base):=Fn P w K mg base 1 "_law_cell" Dv ["_law_script","_law_k"] (qo K Zl.oA)
def Qn(D:xC K mg "_law_cell" Dv ["_law_script","_law_k"] f fd)(B:Bt mg):C3 P w K mg base f fd:=
 yO D Re λ_ _ _ _ _ _ hr n l=>⟨_,
   (og (qi (oY HR (pv 1) (oE oT (by rfl) B.len PySem.boot_len (nZ (pv 0) oa)) (qb _)) (oq (oK (qB pI (pv 0) (pv 1) (λ_ _=>rfl)))) oU)
   (oq (oK ot))),by bv_omega⟩
abbrev Bs:Stmt:=yA 44
def uL:oI ["_law_script","_law_step","_law_shift","_law_stride","_law_off"] ["_law_script"] (ou Bs):=sC
abbrev IW(P w K mg base):=Fn P w K mg base 2 "_law_names" Bs ["_law_script"] (qo K K12.xo)
def Mv(D:xC K mg "_law_names" Bs ["_law_script"] f fd)(B:Bt mg)(l:C3 P w K mg base u24 v24):IW P w K mg base f fd:=
 yO D uL λ_ _ _ _ _ _ hr s n=>⟨_,
   (og (oH (i:=1) uL ot)
   (og (oH (i:=2) uL ot)
   (og (qi (oY G0 (oP sm (oO l hr (nZ (pv 0) (nZ ot oa))) ot) ot (qb _)) (og (oH (i:=1) uL (oP rp ot (oP sm (oO l hr (nZ (pv 0) (nZ ot oa))) (oP GC ot ot)))) (oq (oH (i:=2) uL (oP sm (oO l hr (nZ (pv 0) (nZ ot oa))) (oP GC ot ot))))) oU)
   (og (oH (i:=3) uL (oP rp ot (oP sm (oP vX (oO l hr (nZ (pv 0) (nZ ot oa))) ot) ot)))
   (og (oH (i:=4) uL (oP sm (oP vX (oO l hr (nZ (pv 0) (nZ ot oa))) ot) ot))
   (oq (oK (ud (N:=["_law_k","_law_shift","_law_step","_law_off","_law_stride"]) (fr:=[2,1,4,3]) rfl rfl (by trivial) rfl (by trivial) rfl (ue.of (by trivial) rfl rfl (by exact⟨rfl,rfl,rfl,rfl,trivial⟩) (by repeat (first|exact trivial|refine⟨(by first|exact λ_=>⟨_,rfl⟩|exact λh=>(by rcases h with h|h <;> cases h)),?_⟩)) (by exact⟨⟨rfl,rfl,rfl⟩,⟨rfl,rfl,rfl⟩,⟨rfl,rfl,rfl⟩,⟨rfl,rfl,rfl⟩,trivial⟩)) (sV (by rfl) B.range (nZ ot oa)) (λ_ _ _ _=>yy) (λ_ _ _ _=>(oP rp (oP JZ (pv 2) (oP rp (oP sm (oP rp (oP JZ (pv 4) (pv 0)) (pv 3)) ot) ot)) (pv 1))))))))))),by bv_omega⟩
abbrev Br:Stmt:=yA 45
def qG:oI ["_law_cells","_law_names_here","_law_parts_here","_law_trail","_law_left","_law_used","_law_cell_here","_law_way","_law_here","_law_end"] ["_law_cells","_law_names_here"] (ou Br):=sC
abbrev HM(P w K mg base):=Fn P w K mg base 1 "_law_parts" Br ["_law_cells","_law_names_here"] (qo K K12.yY)
def Np(D:xC K mg "_law_parts" Br ["_law_cells","_law_names_here"] f fd)(B:Bt mg):HM P w K mg base f fd:=
 yO D qG λ_ _ _ _ _ _ hr n l=>⟨_,
   (og (oH (i:=2) qG (pK (nZ (pK (nZ (pK oa) oa)) oa)))
   (og (oH (i:=3) qG (pK (nZ ot oa)))
   (og (oH (i:=4) qG (pK oa))
   (og (oH (i:=5) qG ot)
   (og (qX PassesOwn.never rfl (qp (pv 0)) (qI (i:=6) qG)
    (og (oH (i:=7) qG (oP sm (pv 6) ot)) (og (oH (i:=8) qG (qB pI (qB pI (pv 2) (wy tS ot) (λ_ _=>rfl)) (qB pI (pv 3) (wy tS ot) (λ_ _=>rfl)) (λ_ _=>rfl))) (og (oH (i:=9) qG (qB pI (pv 1) (pv 5) (λ_ _=>rfl))) (og (qi (oY BV (oP sm (oP vX (pv 6) ot) ot) ot (qb _)) (oq (oH (i:=9) qG (wy tS (pv 9)))) oU) (oq (qi (oY HR (pv 7) ot (qb _)) (og (qr (ri af aC aD qk (pv 8) (nZ (pv 9) oa))) (og (oH (i:=5) qG (oP rp (pv 5) ot)) (oq (qi (oY HR (pv 7) ot (qb _)) (oq (qr (ri af aC aD qk (pv 4) (nZ (wy tS (pv 9)) oa)))) (og (qr (ri af aC aD qk (pv 3) (nZ (oE oT (by rfl) B.len PySem.boot_len (nZ (qB pI (pv 2) (wy tS ot) (λ_ _=>rfl)) oa)) oa))) (oq (qr (ri af aC aD qk (qB pI (pv 2) (wy tS ot) (λ_ _=>rfl)) (nZ (pK (nZ (wy tS (pv 9)) oa)) oa))))))))) (oq (qi (oY HR (pv 7) ot (qb _)) (oq (qi (A3 (pv 4) (λ_=>rfl)) (oq (qr (ri af aC aD qk (pv 8) (nZ (ri af dE dF FL (pv 4) (nZ (oP sm (oP vX (pv 6) ot) (oE oT (by rfl) B.len PySem.boot_len (nZ (pv 4) oa))) oa)) oa)))) oU)) (oq (qi (oY BV (pv 7) ot (qb _)) (oq (qi (oY G0 (oE oT (by rfl) B.len PySem.boot_len (nZ (pv 3) oa)) ot (qb _)) (oq (qr (T7 af dE dF RT (pv 3)))) oU)) (og (qr (ri af cV cW yF (pv 8) (nZ (pv 4) oa))) (og (oH (i:=4) qG (pK oa)) (og (qr (ri af aC aD qk (pv 2) (nZ (pK (nZ (pK oa) oa)) oa))) (oq (oH (i:=3) qG (pK (nZ ot oa))))))))))))))))))
   (og (qr (ri af cV cW yF (qB pI (qB pI (pv 2) (wy tS ot) (λ_ _=>rfl)) (qB pI (pv 3) (wy tS ot) (λ_ _=>rfl)) (λ_ _=>rfl)) (nZ (pv 4) oa)))
   (oq (oK (pv 2))))))))),by bv_omega⟩
abbrev DD:Stmt:=yA 46
def IF:oI ["_law_turn_here","_law_k"] ["_law_turn_here"] (ou DD):=sC
abbrev K6(P w K mg base):=Fn P w K mg base 1 "_law_turn" DD ["_law_turn_here"] (qo K K13.yC)
def Q5(D:xC K mg "_law_turn" DD ["_law_turn_here"] f fd)(B:Bt mg):K6 P w K mg base f fd:=
 yO D IF λ_ _ _ _ _ _ hr n l=>⟨_,
   (og (qi (A0 (A3 (pv 0) (λ_=>rfl))) (oq (oK (pK oa))) oU)
   (og (oH (i:=1) IF (ri af cD eC FG (pv 0) (nZ (oE (IC rfl) (by rfl) B.min eQ (nZ (pv 0) oa)) oa)))
   (oq (oK (oP xq (tH vg (pv 0) (uD (pv 1)) vY) (tH vg (pv 0) vY (uD (pv 1)))))))),by bv_omega⟩
abbrev Fm:Stmt:=yA 47
def VP:oI ["_law_turns"] ["_law_turns"] (ou Fm):=sC
abbrev Kl(P w K mg base):=Fn P w K mg base 2 "_law_map" Fm ["_law_turns"] (qo K K13.xY)
def TU(D:xC K mg "_law_map" Fm ["_law_turns"] f fd)(B:Bt mg)(n:K6 P w K mg base u27 v27):Kl P w K mg base f fd:=
 yO D VP λ_ _ _ _ _ _ hr s l=>⟨_,
   (oq (oK (oE (CO s) (by rfl) B.sorted dZ (nZ (ud (cl:=[]) (N:=["_law_turn_here"]) (fr:=[]) rfl rfl (by trivial) rfl (by trivial) rfl (ue.none (by trivial)) (qp (pv 0)) (λ_ _ _ _=>yy) (λ_ _ _ _=>(oO n hr (nZ (pv 0) oa)))) oa)))),by bv_omega⟩
abbrev Fk:Stmt:=yA 48
def FI:oI ["_law_parts_here","_law_turns","_law_part"] ["_law_parts_here"] (ou Fk):=sC
abbrev J4(P w K mg base):=Fn P w K mg base 1 "_law_all" Fk ["_law_parts_here"] (qo K Zl.oX)
def Vc(D:xC K mg "_law_all" Fk ["_law_parts_here"] f fd)(B:Bt mg):J4 P w K mg base f fd:=
 yO D FI λ_ _ _ _ _ _ hr n l=>⟨_,
   (og (oH (i:=1) FI (pK oa))
   (og (qX PassesOwn.never rfl (qp (pv 0)) (qI (i:=2) FI)
    (oq (qr (ri af cV cW yF (pv 1) (nZ (pv 2) oa)))))
   (oq (oK (pv 1))))),by bv_omega⟩
abbrev vJ:Stmt:=yA 49
def GJ:oI ["_law_found","_law_due_here","_law_k"] ["_law_found","_law_due_here"] (ou vJ):=sC
def yl{fm:MF}{s:Nat}(u:1<=s){f:Addr}{fd:jX}(D:xC K mg "_law_alike" vJ ["_law_found","_law_due_here"] f fd)(B:Bt mg)(l:mg "tuple" = none)(n:Fn P w K mg base s "_law_alike" vJ ["_law_found","_law_due_here"] (qo K fm) f fd):Fn P w K mg base (s+1) "_law_alike" vJ ["_law_found","_law_due_here"] (qo K (K13.qZ fm)) f fd:=
 yO D GJ λ_ _ _ _ _ _ hr x t=>⟨_,
   (og (qi (PW.pt (UN (A6 (oE (si.or uy uu) (by rfl) B.isi aZ (nZ (pv 1) (nZ (vO (v:=.ty "list") (by rfl) B.list bW rfl) oa)))) (NS (A6 (oE (si.or uy uu) (by rfl) B.isi aZ (nZ (pv 1) (nZ (vO (v:=.ty "tuple") (by rfl) l fk rfl) oa))))))) (og (qi (PW.pt (UN (oY OM (oE (si.or uy uu) (by rfl) B.isi aZ (nZ (pv 0) (nZ (vO (v:=.ty "list") (by rfl) B.list bW rfl) oa))) (oE (si.or uy uu) (by rfl) B.isi aZ (nZ (pv 1) (nZ (vO (v:=.ty "list") (by rfl) B.list bW rfl) oa))) (qb _)) (NS (oY OM (oE (si.or uy uu) (by rfl) B.isi aZ (nZ (pv 0) (nZ (vO (v:=.ty "tuple") (by rfl) l fk rfl) oa))) (oE (si.or uy uu) (by rfl) B.isi aZ (nZ (pv 1) (nZ (vO (v:=.ty "tuple") (by rfl) l fk rfl) oa))) (qb _))))) (oq (oK yf)) oU) (og (qi (oY OM (oE oT (by rfl) B.len PySem.boot_len (nZ (pv 0) oa)) (oE oT (by rfl) B.len PySem.boot_len (nZ (pv 1) oa)) (qb _)) (oq (oK yf)) oU) (og (qX PassesOwn.never rfl (sV (by rfl) B.range (nZ (oE oT (by rfl) B.len PySem.boot_len (nZ (pv 1) oa)) oa)) (qI (i:=2) GJ)
    (oq (qi (A0 (A6 (ZI n hr (nZ (qB (XN.or pI Cq) (pv 0) (pv 2) (λ_ _=>rfl)) (nZ (qB (XN.or pI Cq) (pv 1) (pv 2) (λ_ _=>rfl)) oa))))) (oq (oK yf)) oU))) (oq (oK yf))))) oU)
   (og (qi (oY Eg (pv 1) zX (qb _)) (oq (oK (Fq Eg (pv 0) zX (qb _)))) oU)
   (og (qi (A6 (oE (si.or uy uu) (by rfl) B.isi aZ (nZ (pv 1) (nZ (vO (v:=.ty "str") (by rfl) B.str hV rfl) oa)))) (oq (oK (NC (oE (si.or uy uu) (by rfl) B.isi aZ (nZ (pv 0) (nZ (vO (v:=.ty "str") (by rfl) B.str hV rfl) oa))) (Ta (Fq BV (pv 0) (pv 1) (qb _)))))) oU)
   (oq (oK (NC (oE (si.or uy uu) (by rfl) B.isi aZ (nZ (pv 0) (nZ (vO (v:=.ty "int") (by rfl) B.int hZ rfl) oa))) (NC (acb (oE (si.or uy uu) (by rfl) B.isi aZ (nZ (pv 0) (nZ (vO (v:=.ty "bool") (by rfl) B.bool jD rfl) oa)))) (Ta (Fq BV (pv 0) (pv 1) (qb _)))))))))),by bv_omega⟩
abbrev Iz(P w K mg base):=Fn P w K mg base 5 "_law_alike" vJ ["_law_found","_law_due_here"] (qo K K13.rF)
def NU(D:xC K mg "_law_alike" vJ ["_law_found","_law_due_here"] f fd)(B:Bt mg)(l:mg "tuple" = none):Iz P w K mg base f fd:=(yl (by decide) D B l (yl (by decide) D B l (yl (by decide) D B l (yl (by decide) D B l (YF (k:=1) D)))))
abbrev Bx:Stmt:=yA 50
def zB:oI ["_law_m","_law_then","_law_turn_here","_law_k"] ["_law_m"] (ou Bx):=sC
abbrev IJ(P w K mg base):=Fn P w K mg base 1 "_law_nexts" Bx ["_law_m"] (qo K K15.Bl)
def NN(D:xC K mg "_law_nexts" Bx ["_law_m"] f fd)(B:Bt mg):IJ P w K mg base f fd:=
 yO D zB λ_ _ _ _ _ _ hr n l=>⟨_,
   (og (oH (i:=1) zB vp)
   (og (qX PassesOwn.never rfl (qp (pv 0)) (qI (i:=2) zB)
    (oq (qX PassesOwn.never rfl (sV (by rfl) B.range (nZ (oE oT (by rfl) B.len PySem.boot_len (nZ (pv 2) oa)) oa)) (qI (i:=3) zB)
    (oq (vT (tK hr) (pv 1) (qB pI (pv 2) (pv 3) (λ_ _=>rfl)) (qB pI (pv 2) (oP sm (oP rp (pv 3) ot) (oE oT (by rfl) B.len PySem.boot_len (nZ (pv 2) oa))) (λ_ _=>rfl)) rfl)))))
   (oq (oK (pv 1))))),by bv_omega⟩
abbrev BG:Stmt:=yA 51
def tI:oI ["_law_m","_law_then","_law_have","_law_found","_law_end","_law_gone","_law_now"] ["_law_m"] (ou BG):=sC
abbrev IE(P w K mg base):=Fn P w K mg base 3 "_law_lands" BG ["_law_m"] (qo K K15.vN)
def Ob(D:xC K mg "_law_lands" BG ["_law_m"] f fd)(B:Bt mg)(n:IJ P w K mg base u31 v31)(s:Kl P w K mg base u28 v28):IE P w K mg base f fd:=
 yO D tI λ_ _ _ _ _ _ hr t l=>⟨_,
   (og (oH (i:=1) tI (oO n hr (nZ (pv 0) oa)))
   (og (oH (i:=2) tI vp)
   (og (Pb (i:=3) (cl:=[]) (N:=["_law_turn_here"]) (fr:=[]) rfl tI.nd rfl (by trivial) rfl (by trivial) rfl (by trivial) rfl (ue.none (by trivial)) (qp (pv 0)) (λ_ _ _ _=>FV (A0 (SB K (pv 0) (λ_=>rfl)))) (λ_ _ _ _=>(pK oa)))
   (og (qX PassesOwn.never rfl (Xe.OB (pv 1)) (qI (i:=4) tI)
    (oq (qi (Cm (vE (tK hr) (pv 4) (pv 2))) (og (oH (i:=5) tI (pK oa)) (og (oH (i:=6) tI (pv 4)) (og (xv PassesOwn.never (Cm (vE (tK hr) (pv 6) (pv 2))) (og (vT (tK hr) (pv 2) (pv 6) yf rfl) (og (qr (ri af aC aD qk (pv 5) (nZ (pv 6) oa))) (oq (oH (i:=6) tI (BI (tK hr) (pv 1) (wy tS (pv 6)) (by first|rfl|exact trivial|(intro _ _;rfl)))))))) (oq (qr (ri af aC aD qk (pv 3) (nZ (pv 5) oa))))))) oU)))
   (oq (oK (oO s hr (nZ (pv 3) oa)))))))),by bv_omega⟩
abbrev Dh:Stmt:=yA 52
def Qi:oI ["_law_m"] ["_law_m"] (ou Dh):=sC
abbrev KL(P w K mg base):=Fn P w K mg base 1 "_law_copy" Dh ["_law_m"] (qo K K51.zg)
def Rv(D:xC K mg "_law_copy" Dh ["_law_m"] f fd)(B:Bt mg):KL P w K mg base f fd:=
 yO D Qi λ_ _ _ _ _ _ hr n l=>⟨_,
   (oq (oK (ud (cl:=[]) (N:=["_law_turn_here"]) (fr:=[]) rfl rfl (by trivial) rfl (by trivial) rfl (ue.none (by trivial)) (qp (pv 0)) (λ_ _ _ _=>yy) (λ_ _ _ _=>(xi ve (by rfl) B.list bW (nZ (pv 0) oa)))))),by bv_omega⟩
abbrev Ab:Stmt:=yA 53
def EK:oI ["_law_turns","_law_end","_law_road","_law_bare","_law_k"] ["_law_turns","_law_end","_law_road","_law_bare"] (ou Ab):=sC
abbrev G9(P w K mg base):=Fn P w K mg base 1 "_law_corner" Ab ["_law_turns","_law_end","_law_road","_law_bare"] (qo K K27.uG)
def Lz(D:xC K mg "_law_corner" Ab ["_law_turns","_law_end","_law_road","_law_bare"] f fd)(B:Bt mg):G9 P w K mg base f fd:=
 yO D EK λ_ _ _ _ _ _ hr n l=>⟨_,
   (og (qi (oY Eg (pv 1) zX (qb _)) (oq (oK (uM (nZ D8 (nZ (pv 3) oa))))) oU)
   (og (qX PassesOwn.never rfl (sV (by rfl) B.range (nZ (oE oT (by rfl) B.len PySem.boot_len (nZ (pv 0) oa)) oa)) (qI (i:=4) EK)
    (oq (qi (oY BO (wy tS (pv 1)) (qB pI (pv 0) (pv 4) (λ_ _=>rfl)) rfl) (oq (oK (uM (nZ D8 (nZ (pv 4) oa))))) oU)))
   (oq (oK (uM (nZ D8 (nZ (pv 2) oa))))))),by bv_omega⟩
abbrev BF:Stmt:=yA 54
def Gu:oI ["_law_parts_here","_law_end","_law_bare","_law_k"] ["_law_parts_here","_law_end","_law_bare"] (ou BF):=sC
abbrev IP(P w K mg base):=Fn P w K mg base 2 "_law_piece" BF ["_law_parts_here","_law_end","_law_bare"] (qo K K27.vM)
def Nd(D:xC K mg "_law_piece" BF ["_law_parts_here","_law_end","_law_bare"] f fd)(B:Bt mg)(n:J4 P w K mg base u29 v29):IP P w K mg base f fd:=
 yO D Gu λ_ _ _ _ _ _ hr s l=>⟨_,
   (og (qi (oY Eg (pv 1) zX (qb _)) (oq (oK (uM (nZ D8 (nZ (pv 2) oa))))) oU)
   (og (qX PassesOwn.never rfl (sV (by rfl) B.range (nZ (oE oT (by rfl) B.len PySem.boot_len (nZ (pv 0) oa)) oa)) (qI (i:=3) Gu)
    (oq (qi (oY BO (pv 1) (oO n hr (nZ (qB pI (pv 0) (pv 3) (λ_ _=>rfl)) oa)) rfl) (oq (oK (uM (nZ D8 (nZ (pv 3) oa))))) oU)))
   (oq (oK (uM (nZ D8 (nZ (pv 1) oa))))))),by bv_omega⟩
abbrev Fe:Stmt:=yA 55
def tO:oI ["_law_parts_here","_law_turns","_law_ends","_law_ahead","_law_places","_law_roads","_law_fields","_law_many","_law_knots","_law_road","_law_first","_law_second","_law_corners","_law_ways"] ["_law_parts_here","_law_turns","_law_ends","_law_ahead"] (ou Fe):=sC
abbrev Pn(P w K mg base):=Fn P w K mg base 3 "_law_due" Fe ["_law_parts_here","_law_turns","_law_ends","_law_ahead"] (qo K K27.Bq)
def S9(D:xC K mg "_law_due" Fe ["_law_parts_here","_law_turns","_law_ends","_law_ahead"] f fd)(B:Bt mg)(l:G9 P w K mg base u34 v34)(n:IP P w K mg base u35 v35):Pn P w K mg base f fd:=
 yO D tO λ_ _ _ _ _ _ hr s t=>⟨_,
   (og (Ny (pv 3) (Hg rfl (rK (qI (i:=4) tO) (rK (qI (i:=5) tO) (rK (qI (i:=6) tO) (rK (qI (i:=7) tO) (rK (qI (i:=8) tO) CS)))))))
   (og (Ny (pv 2) (Hg rfl (rK (qI (i:=9) tO) (rK (qI (i:=10) tO) (rK (qI (i:=11) tO) CS)))))
   (og (oH (i:=12) tO (pK (nZ (oO l hr (nZ (pv 1) (nZ (pv 10) (nZ (pv 9) (nZ ot oa))))) (nZ (oO l hr (nZ (pv 1) (nZ (pv 11) (nZ (pv 9) (nZ ot oa))))) oa))))
   (og (oH (i:=13) tO (pK (nZ (oO n hr (nZ (pv 0) (nZ (pv 10) (nZ ot oa)))) (nZ (oO n hr (nZ (pv 0) (nZ (pv 11) (nZ ot oa)))) oa))))
   (og (qi (PW.pt (UN (oY BV (pv 11) (pv 9) (qb _)) (NS (oY (SY (gb (ef _ _) s)) (qB pI (pv 12) ot (λ_ _=>rfl)) (qB pI (pv 12) ot (λ_ _=>rfl)) (qb _))))) (oq (oK (uM (nZ (pv 4) (nZ (oP rp (pv 5) ot) (nZ (oP rp (pv 6) ot) (nZ (pv 7) (nZ (pv 8) oa)))))))) oU)
   (og (qi (oY (SY (gb (ef _ _) s)) (qB pI (pv 13) ot (λ_ _=>rfl)) (qB pI (pv 13) ot (λ_ _=>rfl)) (qb _)) (oq (oK (uM (nZ (pv 4) (nZ (oP rp (pv 5) ot) (nZ (oP AR (pv 6) ot) (nZ (pv 7) (nZ (oP rp (pv 8) ot) oa)))))))) oU)
   (oq (oK (uM (nZ (pv 4) (nZ (oP rp (pv 5) ot) (nZ (oP AR (pv 6) ot) (nZ (oP AR (pv 7) ot) (nZ (pv 8) oa)))))))))))))),by bv_omega⟩
abbrev yh:Stmt:=yA 56
def JP:oI ["_law_some"] ["_law_some"] (ou yh):=sC
abbrev EA(P w K mg base):=Fn P w K mg base 1 "_law_swapped" yh ["_law_some"] (qo K K27.wz)
def JT(D:xC K mg "_law_swapped" yh ["_law_some"] f fd)(B:Bt mg):EA P w K mg base f fd:=
 yO D JP λ_ _ _ _ _ _ hr n l=>⟨_,
   (oq (oK (uM (nZ (qB Cq (pv 0) ot (λ_ _=>rfl)) (nZ (qB Cq (pv 0) ot (λ_ _=>rfl)) (nZ (qB Cq (pv 0) ot (λ_ _=>rfl)) (nZ (qB Cq (pv 0) ot (λ_ _=>rfl)) (nZ (qB Cq (pv 0) ot (λ_ _=>rfl)) oa)))))))),by bv_omega⟩
abbrev Fx:Stmt:=yA 57
def qm:oI ["_law_script","_law_many","_law_name","_law_cell_here","_law_ends","_law_k","_law_left","_law_follow","_law_end","_law_turns","_law_met","_law_turn_here","_law_names_here"] ["_law_script"] (ou Fx):=sC
abbrev OY(P w K mg base):=Fn P w K mg base 2 "_law_any" Fx ["_law_script"] (qo K K16.CP)
def Tj(D:xC K mg "_law_any" Fx ["_law_script"] f fd)(B:Bt mg)(l:C3 P w K mg base u24 v24):OY P w K mg base f fd:=
 yO D qm λ_ _ _ _ _ _ hr s n=>⟨_,
   (og (oH (i:=1) qm (oP sm (oO l hr (nZ (pv 0) (nZ ot oa))) ot))
   (og (oH (i:=2) qm ot)
   (og (oH (i:=3) qm (oO l hr (nZ (pv 0) (nZ ot oa))))
   (og (oH (i:=4) qm (pK oa))
   (og (qX PassesOwn.never rfl (sV (by rfl) B.range (nZ (pv 1) oa)) (qI (i:=5) qm)
    (og (oH (i:=2) qm (oP rp (oP rp (pv 2) ot) (oP sm (pv 3) (oP GC ot ot)))) (og (oH (i:=3) qm (oP VM (pv 3) (oP GC ot ot))) (oq (qr (ri af cV cW yF (pv 4) (nZ (pK (nZ (pv 2) (nZ (wy tS (pv 2)) oa))) oa)))))))
   (og (oH (i:=6) qm (xi ve (by rfl) B.list bW (nZ (pv 4) oa)))
   (og (oH (i:=3) qm (oO l hr (nZ (pv 0) (nZ ot oa))))
   (og (oH (i:=7) qm vp)
   (og (qX PassesOwn.never rfl (qp (pv 4)) (qI (i:=8) qm)
    (og (vT (tK hr) (pv 7) (pv 8) (ri af dE dF FL (pv 6) (nZ (oP sm (pv 3) (oE oT (by rfl) B.len PySem.boot_len (nZ (pv 6) oa))) oa)) rfl) (oq (oH (i:=3) qm (oP vX (pv 3) (oP rp (oE oT (by rfl) B.len PySem.boot_len (nZ (pv 6) oa)) ot))))))
   (og (oH (i:=9) qm (pK oa))
   (og (oH (i:=10) qm vp)
   (og (qX PassesOwn.never rfl (qp (pv 4)) (qI (i:=8) qm)
    (og (oH (i:=11) qm (pK oa)) (og (xv PassesOwn.never (Cm (vE (tK hr) (pv 8) (pv 10))) (og (vT (tK hr) (pv 10) (pv 8) yf rfl) (og (qr (ri af aC aD qk (pv 11) (nZ (pv 8) oa))) (oq (oH (i:=8) qm (BI (tK hr) (pv 7) (pv 8) (by first|rfl|exact trivial|(intro _ _;rfl)))))))) (oq (qi (A3 (pv 11) (λ_=>rfl)) (oq (qr (ri af aC aD qk (pv 9) (nZ (pv 11) oa)))) oU)))))
   (og (oH (i:=12) qm (pK oa))
   (og (oH (i:=2) qm (oP rp ot (oP sm (oO l hr (nZ (pv 0) (nZ ot oa))) (oP GC ot ot))))
   (og (xv PassesOwn.never (oY HR (oE oT (by rfl) B.len PySem.boot_len (nZ (pv 12) oa)) ot (qb _)) (og (qi (Cm (vE (tK hr) (pv 2) (pv 10))) (oq (qr (ri af aC aD qk (pv 12) (nZ (pv 2) oa)))) oU) (oq (oH (i:=2) qm (oP rp (pv 2) ot)))))
   (oq (oK (uM (nZ (oP xq (pv 9) (ud (cl:=[]) (N:=["_law_k"]) (fr:=[]) rfl rfl (by trivial) rfl (by trivial) rfl (ue.none (by trivial)) (sV (by rfl) B.range (nZ (oP sm (oP vX (oO l hr (nZ (pv 0) (nZ ot oa))) ot) ot) oa)) (λ_ _ _ _=>yy) (λ_ _ _ _=>(pK oa)))) (nZ (pv 12) oa)))))))))))))))))))),by bv_omega⟩
abbrev yg:Stmt:=yA 58
def rL:oI ["_law_turns","_law_parts_here","_law_left","_law_part","_law_k","_law_end","_law_turn_here"] ["_law_turns"] (ou yg):=sC
abbrev EB(P w K mg base):=Fn P w K mg base 1 "_law_grouped" yg ["_law_turns"] (qo K K17.wq)
def Kn(D:xC K mg "_law_grouped" yg ["_law_turns"] f fd)(B:Bt mg):EB P w K mg base f fd:=
 yO D rL λ_ _ _ _ _ _ hr n l=>⟨_,
   (og (oH (i:=1) rL (pK oa))
   (og (oH (i:=2) rL (xi ve (by rfl) B.list bW (nZ (pv 0) oa)))
   (og (xv PassesOwn.never (A3 (pv 2) (λ_=>rfl)) (og (oH (i:=3) rL (pK (nZ (ri af dE dF FL (pv 2) (nZ ot oa)) oa))) (og (oH (i:=4) rL ot) (og (xv PassesOwn.never (oY HR (pv 4) (oE oT (by rfl) B.len PySem.boot_len (nZ (pv 3) oa)) (qb _)) (og (qX PassesOwn.never rfl (qp (qB pI (pv 3) (pv 4) (λ_ _=>rfl))) (qI (i:=5) rL)
    (oq (qX PassesOwn.never rfl (qp (xi ve (by rfl) B.list bW (nZ (pv 2) oa))) (qI (i:=6) rL)
    (oq (qi (oY BO (wy tS (pv 5)) (pv 6) rfl) (og (qr (ri af gK PySem.F.type_list_remove (X0 l) (pv 2) (nZ (pv 6) oa))) (oq (qr (ri af aC aD qk (pv 3) (nZ (pv 6) oa))))) oU))))) (oq (oH (i:=4) rL (oP rp (pv 4) ot))))) (oq (qr (ri af aC aD qk (pv 1) (nZ (pv 3) oa))))))))
   (oq (oK (pv 1)))))),by bv_omega⟩
abbrev Bi:Stmt:=Hx 39 1
def Jw:oI ["self","m"] ["self","m"] (ou Bi):=sC
def JO{n:Addr}(F:JN K "done" "Part.done" Bi f fd)(mt:Hk K n "done" f)(b:rR K fd ["self","m"] [])(B:Bt mg)(l:yI P w K mg base u22 v22)(t:xO K "Part" n)(u:oW K n "road")(x:oW K n "first")(z:oW K n "second"):Mg P w K mg base 7 n "done" ["self","m"] (qo K K27.wu) f fd:=
 ⟨t.cl,mt,b,F.ok Jw (λ_ _ _ _=>B9) λG A outer s H I Q E hr h=>⟨_,
   (oq (oK (oO l hr (nZ (pv 0) (nZ (pv 1) oa))))),
   xx _ (K:=K) (AH (CN (vt (CF 0) (vt (CF 1) Gc)))) h⟩⟩
abbrev AX:Stmt:=Hx 40 1
def JH:oI ["self","m"] ["self","m"] (ou AX):=sC
def JC{n:Addr}(F:JN K "done" "Draw.done" AX f fd)(mt:Hk K n "done" f)(b:rR K fd ["self","m"] [])(B:Bt mg)(l:za P w K mg base u23 v23)(t:xO K "Draw" n)(u:oW K n "road"):Mg P w K mg base 7 n "done" ["self","m"] (qo K K27.wt) f fd:=
 ⟨t.cl,mt,b,F.ok JH (λ_ _ _ _=>B9) λx A outer s H z Q E hr h=>⟨_,
   (oq (oK (oO l hr (nZ (pv 0) (nZ (pv 1) oa))))),
   xx _ (K:=K) (AH (CN (vt (CF 0) (vt (CF 1) Gc)))) h⟩⟩
abbrev B0:Stmt:=yA 59
def qW:oI ["_law_script","_law_names_here","_law_parts_here","_law_cells","_law_turns","_law_m","_law_fields","_law_ends","_law_bare","_law_some","_law_first","_law_second","_law_roads","_law_knots","_law_ahead","_law_words","_law_put","_law_part"] ["_law_script"] (ou B0):=sC
abbrev aev(P w K mg base):=Fn P w K mg base 8 "law" B0 ["_law_script"] (qo K K27.Sv)
def abQ{n:Addr}{s:Addr}{x:Addr}{z:Addr}{L:Addr}{M:jX}{O:Addr}{Q:jX}{R:Addr}{S:jX}{T:Addr}{U:jX}(D:xC K mg "law" B0 ["_law_script"] f fd)(B:Bt mg)(X:IW P w K mg base u25 v25)(Y:HM P w K mg base u26 v26)(JA:Kl P w K mg base u28 v28)(Ql:IE P w K mg base u32 v32)(G:J4 P w K mg base u29 v29)(t:Iz P w K mg base u30 v30)(u:C3 P w K mg base u24 v24)(YR:OY P w K mg base u38 v38)(L7:EB P w K mg base u39 v39)(E:KL P w K mg base u33 v33)(l:Kr P w K mg base u13 v13)(H:Pn P w K mg base u36 v36)(I:EA P w K mg base u37 v37)(vd:xO K "Put" n)(yt:oW K n "road")(wO:oW K n "first")(vP:oW K n "second")(tx:xO K "Part" s)(xf:oW K s "road")(vR:oW K s "first")(vc:oW K s "second")(wI:xO K "Cut" x)(yr:oW K x "road")(uC:xO K "Draw" z)(wR:oW K z "road")(HQ:Gm P w K mg base "Put" n L M ["self","road","first","second"] ["road","first","second"])(MB:Gm P w K mg base "Part" s O Q ["self","road","first","second"] ["road","first","second"])(IV:Gm P w K mg base "Cut" x R S ["self","road"] ["road"])(Nc:Gm P w K mg base "Draw" z T U ["self","road"] ["road"])(B5:Mg P w K mg base 5 n "done" ["self","m"] (qo K K27.tR) fPut_done fdPut_done)(K5:Mg P w K mg base 7 s "done" ["self","m"] (qo K K27.wu) fPart_done fdPart_done)(Cp:Mg P w K mg base 5 x "done" ["self","m"] (qo K K27.tJ) fCut_done fdCut_done)(Ld:Mg P w K mg base 7 z "done" ["self","m"] (qo K K27.wt) fDraw_done fdDraw_done):aev P w K mg base f fd:=
 yO D qW λ_ _ _ _ _ _ hr hu J=>⟨_,
   (og (oH (i:=1) qW (oO X hr (nZ (pv 0) oa)))
   (og (oH (i:=2) qW (oO Y hr (nZ (tH vg (pv 0) (uD ot) (uD ot)) (nZ (pv 1) oa))))
   (og (oH (i:=3) qW (pK (nZ (oO u hr (nZ (pv 0) (nZ ot oa))) (nZ (oO u hr (nZ (pv 0) (nZ ot oa))) oa))))
   (og (qi (oY BV (oP sm (oO u hr (nZ (pv 0) (nZ ot oa))) ot) ot (qb _)) (og (Ny (oO YR hr (nZ (pv 0) oa)) (Hg rfl (rK (qI (i:=4) qW) (rK (qI (i:=1) qW) CS)))) (og (oH (i:=2) qW (oO L7 hr (nZ (pv 4) oa))) (oq (oH (i:=3) qW (pK (nZ (oO u hr (nZ (pv 0) (nZ ot oa))) (nZ (oO u hr (nZ (pv 0) (nZ ot oa))) oa))))))) oU)
   (og (qi (oY BV (oE oT (by rfl) B.len PySem.boot_len (nZ (pv 2) oa)) ot (qb _)) (oq (oH (i:=2) qW (pK (nZ (pK (nZ (pK oa) oa)) oa)))) oU)
   (og (oH (i:=5) qW (oO JA hr (nZ (oO G hr (nZ (pv 2) oa)) oa)))
   (og (oH (i:=6) qW (oO Ql hr (nZ (pv 5) oa)))
   (og (oH (i:=7) qW (oO G hr (nZ (pv 5) oa)))
   (og (oH (i:=8) qW (oE oT (by rfl) B.len PySem.boot_len (nZ (ud (cl:=[]) (N:=["_law_turn_here"]) (fr:=[]) rfl rfl (by trivial) rfl (by trivial) rfl (ue.none (by trivial)) (qp (pv 5)) (λ_ _ _ _=>FV (A0 (SB K (pv 0) (λ_=>rfl)))) (λ_ _ _ _=>(pv 0))) oa)))
   (og (oH (i:=9) qW (oP xq (pv 7) (ud (cl:=[]) (N:=["_law_k"]) (fr:=[]) rfl rfl (by trivial) rfl (by trivial) rfl (ue.none (by trivial)) (sV (by rfl) B.range (nZ (oE (Ij rfl) (by rfl) B.min eQ (nZ (pv 8) (nZ ot oa))) oa)) (λ_ _ _ _=>yy) (λ_ _ _ _=>zX))))
   (og (oH (i:=10) qW (qB pI (pv 9) (oP sm (qB pI (pv 3) ot (λ_ _=>rfl)) (oE oT (by rfl) B.len PySem.boot_len (nZ (pv 9) oa))) (λ_ _=>rfl)))
   (og (qi (PW.pt (ab1 (oY G0 (pv 8) ot (qb _)) (Wr (oY BV (oP sm (qB pI (pv 3) ot (λ_ _=>rfl)) ot) ot (qb _))))) (oq (oH (i:=10) qW zX)) oU)
   (og (oH (i:=9) qW (oP xq (oP xq (pv 7) (pK (nZ (qB pI (pv 1) ot (λ_ _=>rfl)) oa))) (ud (cl:=[]) (N:=["_law_k"]) (fr:=[]) rfl rfl (by trivial) rfl (by trivial) rfl (ue.none (by trivial)) (sV (by rfl) B.range (nZ (oE (Ij rfl) (by rfl) B.min eQ (nZ (oP AR (pv 8) (xi P5 (by rfl) B.int hZ (nZ (Fq Eg (pv 10) zX (qb _)) oa))) (nZ ot oa))) oa)) (λ_ _ _ _=>yy) (λ_ _ _ _=>zX))))
   (og (oH (i:=11) qW (qB pI (pv 9) (oP sm (oP vX (qB pI (pv 3) ot (λ_ _=>rfl)) ot) (oE oT (by rfl) B.len PySem.boot_len (nZ (pv 9) oa))) (λ_ _=>rfl)))
   (og (oH (i:=12) qW (oP vX (oE oT (by rfl) B.len PySem.boot_len (nZ (pv 7) oa)) ot))
   (og (oH (i:=13) qW (oP vX (oP AR (oP rp (oP AR (oP JZ ot (oE oT (by rfl) B.len PySem.boot_len (nZ (pv 2) oa))) (oE oT (by rfl) B.len PySem.boot_len (nZ (pv 5) oa))) (pv 12)) (oE oT (by rfl) B.len PySem.boot_len (nZ (pv 6) oa))) ot))
   (og (oH (i:=14) qW (uM (nZ (oE oT (by rfl) B.len PySem.boot_len (nZ (pv 5) oa)) (nZ (pv 12) (nZ (oE oT (by rfl) B.len PySem.boot_len (nZ (pv 6) oa)) (nZ (oE oT (by rfl) B.len PySem.boot_len (nZ (pv 2) oa)) (nZ (pv 13) oa)))))))
   (og (oH (i:=15) qW (uM (nZ (qB pI (pv 1) ot (λ_ _=>rfl)) (nZ (pv 10) (nZ (pv 11) oa)))))
   (og (qi (A0 (A6 (oO t hr (nZ (oO l hr (nZ (oO E hr (nZ (pv 5) oa)) oa)) (nZ (pv 14) oa))))) (oq (oK yf)) oU)
   (og (oH (i:=16) qW (IQ B5 (hr.mono (by decide)) (Ef HQ (hr.mono (by decide)) (nZ (qB pI (pv 1) ot (λ_ _=>rfl)) (nZ (pv 10) (nZ (pv 11) oa)))) (nZ (oO E hr (nZ (pv 5) oa)) oa)))
   (og (qi (A0 (A6 (oO t hr (nZ (oO l hr (nZ (pv 16) oa)) (nZ (oO H hr (nZ (pv 2) (nZ (pv 6) (nZ (pv 15) (nZ (pv 14) oa))))) oa))))) (oq (oK yf)) oU)
   (og (oH (i:=17) qW (IQ K5 (hr.mono (by decide)) (Ef MB (hr.mono (by decide)) (nZ (qB pI (pv 1) ot (λ_ _=>rfl)) (nZ (pv 10) (nZ (pv 11) oa)))) (nZ (oO E hr (nZ (pv 5) oa)) oa)))
   (og (qi (A0 (A6 (oO t hr (nZ (oO l hr (nZ (pv 17) oa)) (nZ (oO I hr (nZ (oO H hr (nZ (pv 2) (nZ (pv 5) (nZ (pv 15) (nZ (oO I hr (nZ (pv 14) oa)) oa))))) oa)) oa))))) (oq (oK yf)) oU)
   (og (qi (A0 (A6 (oO t hr (nZ (oO l hr (nZ (IQ Cp (hr.mono (by decide)) (Ef IV (hr.mono (by decide)) (nZ (qB pI (pv 1) ot (λ_ _=>rfl)) oa)) (nZ (pv 16) oa)) oa)) (nZ (pv 14) oa))))) (oq (oK yf)) oU)
   (oq (oK (oO t hr (nZ (oO l hr (nZ (IQ Ld (hr.mono (by decide)) (Ef Nc (hr.mono (by decide)) (nZ (qB pI (pv 1) ot (λ_ _=>rfl)) oa)) (nZ (pv 17) oa)) oa)) (nZ (pv 14) oa))))))))))))))))))))))))))))),by bv_omega⟩
end
end K27
namespace K13
open PySem L2 Mr Z Xe Zl
def plain:Nat->D->Prop
 |0,_=>False
 |_+1,.int _=>True
 |_+1,.str _=>True
 |n+1,.list ds=>ds.length<1000000/\∀d∈ds,plain n d
 |n+1,.tup ds=>ds.length<1000000/\∀d∈ds,plain n d
 |_+1,_=>False
def wo:Nat->MF
 |0=>UE
 |n+1=>qZ (wo n)
def Gx{fm:MF}{x:D}{ds:List D}(t:x = .list ds∨x = .tup ds)(hd:∀d∈ds,fm [d,d]=i6 true):∃v,qR 2 (vb fm) (qd 0 ds.length) [some (.sh x),some (.sh x),none]=some (.nx [some (.sh x),some (.sh x),v]):=by
 have key:=uQ (x:=2) (body:=vb fm) (λ_ S=>∃v,S=[some (.sh x),some (.sh x),v]) (ds:=qd 0 ds.length) (S:=[some (.sh x),some (.sh x),none]) ⟨none,rfl⟩ (by
  rintro i d S l ⟨v,rfl⟩;have hi:i<ds.length:=by
   have:=(gSq.mp l).1
   rwa [qu]at this
  rw[zQ hi]at l;cases l;have n:atI ds (0+(i:Int))=some ds[i]:=by
   rw[Jj (by lia)]
   have:(0+(i:Int)).toNat=i:=by lia
   rw[this];exact gEg hi
  have s:=hd ds[i] (gRq hi);refine⟨[some (.sh x),some (.sh x),i0 (0+(i:Int))],?_,_,rfl⟩;rcases t with rfl|rfl
  .simp_arith [vb,n,s]
  .simp_arith [vb,n,s])
 obtain⟨u,e,v,rfl⟩:=key;exact⟨v,e⟩
def Zv(b:Bool):Yz (.bl b) (.bl b)=some (.bl false):=by cases b <;> rfl
theorem Ca:∀(n:Nat) (d:D),plain n d->wo n [d,d]=i6 true
 |0,_,h=>h.elim
 |n+1,d,h=>by
  show qZ (wo n) [d,d]=_;cases d with
  |int i=>simp_arith [qZ,xI,eq_self,K3]
  |str x=>simp_arith [qZ,xI,eq_self,Kv]
  |list s=>
   obtain⟨v,e⟩:=Gx (fm:=wo n) (x:=.list s) (.inl rfl) λd hd=>Ca n d (h.2 d hd)
   have l:=vn (n:=s.length) h.1
   simp_arith [qZ,xI,eq_self,Zv,decide_true,iE,l,e]
  |tup s=>
   obtain⟨v,e⟩:=Gx (fm:=wo n) (x:=.tup s) (.inr rfl) λd hd=>Ca n d (h.2 d hd)
   have l:=vn (n:=s.length) h.1
   simp_arith [qZ,xI,eq_self,Zv,decide_true,iE,l,e]
  |_=>exact h.elim
def Wk{ns:Ϝ}(hl:ns.length<=500000):yC [dI ns]=some (aI (good ns)):=by
 cases ns with
 |nil=>
  simp_arith [yC,D1,Co]
  rfl
 |cons n ns=>
  obtain⟨t,u⟩:=HK (n:=n) (ns:=ns);have e:=AO t u;have l:=G8 (n::ns);have x:Rw [dI (n::ns)]=some (.int (ns.foldl min n)):=by
   show(rB ((n::ns).map D.int)).bind (λns=>(Jl ns).map D.int)=_
   rw[sj];rfl
  have z:AI (dI (n::ns)) [.int (ns.foldl min n)]=some (.int (pW (n::ns) (n::ns).length:Nat)):=by
   show(rB ((n::ns).map D.int)).bind _=_;rw[sj];show(if _ then _ else _)=_
   rw[pB t,e]
  have ht:Co (dI (n::ns))=some true:=rfl;generalize B:n::ns=N at *;have s:(N.drop (pW N N.length)).length+(N.take (pW N N.length)).length<=qE:=by rw[ax,lTq];show _<=16777216;lia
  simp_arith [yC,D1,ht,x,z,uo,Ft N _ l,Ek N _ l,s,←mBq,C6]
  rfl
def P2{rs:Λ}(hl:∀r∈rs,r.length<=500000):rm rZ (oJ yC (om (oy 0) oC)) [] (rs.map dI)=some ((rs.map good).map aI):=by
 rw[Z.um λd=>aI (good (xQ d))]
 .rw[CW λr=>aI (good r),mPq]
  rfl
 .intro d hd;obtain⟨r,hr,rfl⟩:=Ck hd;refine⟨[some (.sh (dI r))],?_⟩
  simp_arith [Wk (hl r hr),tZ]
def VN{rs:Λ}(hl:∀r∈rs,r.length<=500000)(l:rs.length<=qE):xY [dM rs]=some (.ow ((rY (rs.map good)).map aI)):=by
 simp_arith [xY,Mc,P2 hl,l]
def dL(ms:List Λ):D:=.list (ms.map dM)
noncomputable def MC{ms:List Λ}{i:Nat}{m:Λ}(h:ms[i]?=some m):(ms.take (i+1)).flatten=(ms.take i).flatten++m:=by
 rw[dQ,h,fAq];simp
def UL(ms:List Λ)(i:Nat):(ms.take i).flatten.length<=ms.flatten.length:=by
 have:=congrArg bV (congrArg jB (aR i ms));rw[fAq,lAq]at this;lia
def YY{ms:List Λ}{i:Nat}{d:D}(h:(ms.map dM)[i]?=some d):∃m,ms[i]?=some m/\d=dM m:=by
 rw[gMq]at h;obtain⟨r,l,n⟩:=oMq.mp h;exact⟨r,l,n.symm⟩
def oM(rs:Λ):AV:=.ow (rs.map λr=>.sh (dI r))
def Us(rs:Λ):oB (oM rs)=dM rs:=by unfold oM;rw[rJ,J5]
def Qz{ms:List Λ}{body:MS}(hb:body=N4 1 (Au 2))(hl:ms.flatten.length<=500000):∃v,qR 2 body (ms.map dM) [some (.sh (dL ms)),some (.ow []),none]=some (.nx [some (.sh (dL ms)),some (oM ms.flatten),v]):=by
 subst hb;have key:=uQ (x:=2) (body:=N4 1 (Au 2)) (λi S=>∃v,S=[some (.sh (dL ms)),some (oM (ms.take i).flatten),v]) (ds:=ms.map dM) (S:=[some (.sh (dL ms)),some (.ow []),none]) ⟨none,by simp[oM]⟩ (by
  rintro i d S hd ⟨v,rfl⟩;obtain⟨m,n,rfl⟩:=YY hd;have l:=MC n;have s:=UL ms (i+1);rw[l,lAq]at s;have t:(ms.take i).flatten.length+m.length<=qE:=rP (by lia)
  refine⟨[some (.sh (dL ms)),some (oM ((ms.take i).flatten++m)),some (.sh (dM m))],?_,some (.sh (dM m)),by rw[l]⟩
  simp_arith [oM,t,Og,←mBq])
 obtain⟨u,e,v,rfl⟩:=key;rw[lMq,aY]at e;exact⟨v,e⟩
def ab9{ms:List Λ}(hl:ms.flatten.length<=500000):oX [dL ms]=some (oM ms.flatten):=by
 obtain⟨v,e⟩:=Qz (ms:=ms) (body:=uZ) rfl hl;unfold dL at e ⊢
 simp_arith [oX,zV,e]
end K13
namespace K12
open PySem L2 Mr Z Xe Zl
abbrev aP(part:Λ):AV:=.ow (part.map aI)
def GI(n:Nat):Je (n+1) (-1)=some n:=by
 unfold Je;rw[oZ (by decide),pB (by lia)]
 congr 1;lia
def TC{P0:List Λ}{last:Λ}:qg (.ow ((P0++[last]).map aP)) [P0.length]=some (last.map aI):=by
 rw[A7,gMq,gYq (aa _),cw];rfl
def DL{P0:List Λ}{last:Λ}{h:Nat}{r:Ϝ}(hr:last[h]?=some r):qg (.ow ((P0++[last]).map aP)) [P0.length,h]=some (r.map λn=>.sh (.int n)):=by
 rw[A7,gMq,gYq (aa _),cw];show qg (.ow (last.map aI)) [h]=_;rw[A7,gMq,hr];rfl
noncomputable def FD{α β:Type}(f:α->β)(l:List α)(i:Nat)(a:α):(l.map f).set i (f a)=(l.set i a).map f:=by rw[List.map_set]
noncomputable def Ow{α:Type}(l:List α)(a b:α):(l++[a]).set l.length b=l++[b]:=by
 rw[gZ _ _ (aa _),cw];rfl
def afO{P0:List Λ}{last last':Λ}:putAt (.ow ((P0++[last]).map aP)) [P0.length] (last'.map aI) = .ow ((P0++[last']).map aP):=by
 rw[B8 (a:=aP last) (by rw[gMq,gYq (aa _),cw];rfl)]
 show AV.ow (((P0++[last]).map aP).set P0.length (aP last'))=_;rw[FD,Ow]
def Vt{P0:List Λ}{last:Λ}{h:Nat}{r r':Ϝ}(hr:last[h]?=some r):putAt (.ow ((P0++[last]).map aP)) [P0.length,h] (r'.map λn=>.sh (.int n)) = .ow ((P0++[last.set h r']).map aP):=by
 rw[B8 (a:=aP last) (by rw[gMq,gYq (aa _),cw];rfl)]
 have e:putAt (aP last) [h] (r'.map λn=>.sh (.int n))=aP (last.set h r'):=by
  rw[B8 (a:=aI r) (by rw[gMq,hr];rfl)]
  show AV.ow ((last.map aI).set h (aI r'))=_;rw[FD]
 rw[e,FD,Ow]
structure Wd where
 P0:List Λ
 last:Λ
 t0:Θ
 h:Nat
 left:Ϝ
 used:Nat
noncomputable def YK(c e:Int):Int:=if c / 8 % 2=1 then -e else e
def An(nm:Ϝ)(w:Wd)(c:Int):Wd:=
 let e:=YK c (nm.getD w.used 0)
 let r:=w.last.getD w.h []
 if c % 8<4 then
  if c % 8<2 then { w with last:=w.last.set w.h (r++[e]),left:=w.left++[-e],used:=w.used+1 }
  else { w with last:=w.last.set w.h (r++[e])++[[-e]],t0:=w.t0++[w.h],h:=w.last.length,used:=w.used+1 }
 else if c % 8<6 then
  if w.left=[]then w else { w with last:=w.last.set w.h (r++[w.left.getD (c / 16 % w.left.length).toNat 0]),left:=w.left.eraseIdx (c / 16 % w.left.length).toNat }
 else if c % 8=6 then
  match w.t0.getLast? with
  |none=>w
  |some h'=>{ w with t0:=w.t0.dropLast,h:=h' }
 else { P0:=w.P0++[w.last.set w.h (r++w.left)],last:=[[]],t0:=[],h:=0,left:=[],used:=w.used }
noncomputable abbrev cN(ks:Θ):Ϝ:=ks.map λn:Nat=>(n:Int)
def st(v0 v1:Option AV)(w:Wd)(v6 v7 v8 v9:Option AV):AS:=[v0,v1,some (.ow ((w.P0++[w.last]).map aP)),some (aI (cN (w.t0++[w.h]))),some (aI w.left),i0 (w.used:Int),v6,v7,v8,v9]
def brA:Θ->MS:=(λpath=>oz ((OC 2 (oy 9)) path) (oz (oN 5 (kSc (oV uJ (oj 5) (rC (.int 1))))) (wk (rA (oV M0 (oj 7) (rC (.int 2)))) (yN 4 (kSc (Ak vz (oj 9)))) (oz (yN 3 (kSc (tT qM (oi (oV zh (oj 2) (Ak vz (rC (.int 1)))) ox)))) (Pm 2 (VW 2 (MN 2) (Ak vz (rC (.int 1)))) (qF (om (kSc (Ak vz (oj 9))) oC)))))))
def brB:Θ->MS:=(Hy 2 (C5 (oj 4)) (Jr 2 (BD 4 (oV ur (oV CL (oj 6) (rC (.int 16))) (tT qM (oi (oj 4) ox))))) (λ_=>pH))
def brC:Θ->MS:=(λ_=>(wk (rA (oV Lu (tT qM (oi (oj 3) ox)) (rC (.int 1)))) (JV (IU 3)) pH))
def brE:Θ->MS:=(λpath=>oz ((Ol 2 (Au 4)) path) (oz (oN 4 (qF oC)) (oz (yN 2 (qF (om (qF oC) oC))) (oN 3 (qF (om (kSc (rC (.int 0))) oC))))))
def Mi:Θ->MS:=(Hy 2 (rA (oV M0 (oj 7) (rC (.int 4)))) brA (Hy 2 (rA (oV M0 (oj 7) (rC (.int 6)))) brB (Hy 2 (rA (oV GP (oj 7) (rC (.int 6)))) brC brE)))
def WK:sA=(oz (oN 7 (kSc (oV ur (oj 6) (rC (.int 8))))) (Ye 8 2 (VW 2 (VW 2 (MN 2) (Ak vz (rC (.int 1)))) (oV zh (oj 3) (Ak vz (rC (.int 1))))) (Nq 2 (oN 9 (kSc (oV zh (oj 1) (oj 5)))) (Nq 2 (wk (rA (oV GP (oV ur (oV CL (oj 6) (rC (.int 8))) (rC (.int 2))) (rC (.int 1)))) (oN 9 (kSc (Ak vz (oj 9)))) pH) Mi)))):=rfl
def RE{nm:Ϝ}{P0:List Λ}{last:Λ}{t0:Θ}{hd:Nat}{left r:Ϝ}{used:Nat}{c:Int}{v0 v7 v8 v9:Option AV}(hh:hd<last.length)(hr:last[hd]?=some r)(I:used<nm.length) :
  sA (st v0 (some (.sh (dI nm))) ⟨P0,last,t0,hd,left,used⟩ (i0 c) v7 v8 v9)=Mi [P0.length,hd] (st v0 (some (.sh (dI nm))) ⟨P0,last,t0,hd,left,used⟩ (i0 c) (i0 (c % 8)) none (i0 (YK c (nm.getD used 0)))):=by
 have z:=tP (i:=c) (j:=8) (by decide)
 have B:=Aa (i:=c) (j:=8) (by decide) (by decide)
 have E:=tP (i:=c / 8) (j:=2) (by decide)
 have n2:=DL (P0:=P0) hr;have n1:=TC (P0:=P0) (last:=last);have l:(P0++[last]).length=P0.length+1:=by simp
 have G:=GI P0.length;have H:Je last.length (hd:Int)=some hd:=Pd hh;have n:atI ((cN (t0++[hd])).map D.int) (-1)=some (.int (hd:Int)):=by
  unfold cN;rw[mBq,mBq];exact GY _ _
 have V5:=pV (cN (t0++[hd]));have s:atI (nm.map D.int) (used:Int)=some (.int (nm.getD used 0)):=tu (by rw[gMq,gDq,gEg I];rfl)
 have t:((8:Nat)≠2/\8<10)=True:=by simp
 rw[WK]
 by_cases u:c / 8 % 2=1
 .have x:YK c (nm.getD used 0) = -(nm.getD used 0):=pB u
  simp_arith [st,z,l,G,n1,n2,H,V5,dI,n,t,s,B,E,u,x,eq_self]
 .have x:YK c (nm.getD used 0)=nm.getD used 0:=oZ u
  simp_arith [st,z,l,G,n1,n2,H,V5,dI,n,t,s,B,E,u,x,eq_self]
section
variable {nm:Ϝ}{P0:List Λ}{last:Λ}{t0:Θ}{hd:Nat}{left r:Ϝ}{used:Nat}{c e:Int}{v0 v1 v8:Option AV}
noncomputable def IY(r:Ϝ)(e:Int):(r.map λn=>AV.sh (.int n))++[.sh (.int e)]=(r++[e]).map λn=>.sh (.int n):=by rw[mBq];rfl
noncomputable def O6(r s:Ϝ):(r.map λn=>AV.sh (.int n))++(s.map D.int).map AV.sh=(r++s).map λn=>.sh (.int n):=by rw[mBq,mPq];rfl
def Xt(l:Λ)(e:Int):l.map aI++[.ow [.sh (.int e)]]=(l++[[e]]).map aI:=by rw[mBq];rfl
def V2(P:List Λ):P.map aP++[.ow [.ow []]]=(P++[[[]]]).map aP:=by rw[mBq];rfl
def ZE(ks:Θ)(n:Nat):(cN ks).map (λn=>AV.sh (.int n))++[.sh (.int (n:Int))]=(cN (ks++[n])).map λn=>.sh (.int n):=by unfold cN;rw[mBq,mBq];rfl
def O7(P:List Λ):(P.map aP).map oB=P.map dM:=by
 rw[mPq];refine mCq λp _=>?_
 show oB (.ow (p.map aI))=dM p;rw[rJ,mPq];show D.list _=D.list _;congr 1;exact mCq λr _=>pV r
def afM(P0:List Λ)(last:Λ):atI ((P0++[last]).map dM) (-1)=some (dM last):=by rw[mBq];exact GY _ _
theorem TQ{α β:Type}(f:α->β):∀(l:List α) (i:Nat),(l.map f).eraseIdx i=(l.eraseIdx i).map f
 | [],i=>rfl
 |x::l,0=>rfl
 |x::l,i+1=>by rw[ai,cj,cj,TQ f l i,ai]
def Y3{l:Ϝ}(h:l≠[]):Co (.list (l.map D.int))=some true:=by
 cases l with
 |nil=>exact absurd rfl h
 |cons x l=>rfl
def ac0(hh:hd<last.length)(hr:last[hd]?=some r)(l:r.length<500000)(n:left.length<500000)(s:c % 8<4)(t:c % 8<2) :
  Mi [P0.length,hd] (st v0 v1 ⟨P0,last,t0,hd,left,used⟩ (i0 c) (i0 (c % 8)) v8 (i0 e))=some (.nx (st v0 v1 ⟨P0,last.set hd (r++[e]),t0,hd,left++[-e],used+1⟩ (i0 c) (i0 (c % 8)) v8 (i0 e))):=by
 have n2:=DL (P0:=P0) hr;have u:r.length<qE:=by show _<16777216;lia
 have x:left.length<qE:=by show _<16777216;lia
 have z:=Vt (P0:=P0) (r':=r++[e]) hr;have B:=IY r e;have E:=IY left (-e);have G:((used+1:Nat):Int)=(used:Int)+1:=by lia
 simp_arith [Mi,brA,st,s,n2,u,B,z,t,x,E,G]
def ada(hh:hd<last.length)(hr:last[hd]?=some r)(t:r.length<500000)(u:last.length<500000)(x:t0.length<500000)(z:c % 8<4)(B:¬ c % 8<2) :
  Mi [P0.length,hd] (st v0 v1 ⟨P0,last,t0,hd,left,used⟩ (i0 c) (i0 (c % 8)) v8 (i0 e))=some (.nx (st v0 v1 ⟨P0,last.set hd (r++[e])++[[-e]],t0++[hd],last.length,left,used+1⟩ (i0 c) (i0 (c % 8)) v8 (i0 e))):=by
 have n2:=DL (P0:=P0) hr;have E:r.length<qE:=by show _<16777216;lia
 have G:=Vt (P0:=P0) (r':=r++[e]) hr;have H:=IY r e;have I:((used+1:Nat):Int)=(used:Int)+1:=by lia
 have J:=O7 (P0++[last.set hd (r++[e])]);have s:=afM P0 (last.set hd (r++[e]));have n1:=TC (P0:=P0) (last:=last.set hd (r++[e]));have l:(P0++[last.set hd (r++[e])]).length=P0.length+1:=by simp
 have n:(last.set hd (r++[e])).length=last.length:=lZq;have L:=GI P0.length;have M:last.length<qE:=by show _<16777216;lia
 have lt':(t0++[hd]).length<qE:=by rw[lAq];show t0.length+1<16777216;lia
 have O:=ZE (t0++[hd]) last.length;have P:=Xt (last.set hd (r++[e])) (-e);have Q:=afO (P0:=P0) (last:=last.set hd (r++[e])) (last':=last.set hd (r++[e])++[[-e]])
 simp_arith [Mi,brA,st,z,n2,E,H,G,B,J,s,n1,l,n,L,M,lt',O,P,Q,I]
def ad3(hr:last[hd]?=some r)(l:¬ c % 8<4)(n:c % 8<6) :
  Mi [P0.length,hd] (st v0 v1 ⟨P0,last,t0,hd,[],used⟩ (i0 c) (i0 (c % 8)) v8 (i0 e))=some (.nx (st v0 v1 ⟨P0,last,t0,hd,[],used⟩ (i0 c) (i0 (c % 8)) v8 (i0 e))):=by
 have n2:=DL (P0:=P0) hr;have tr:Co (.list [])=some false:=rfl
 simp_arith [Mi,brB,st,l,n2,n,tr]
def ad4(hr:last[hd]?=some r)(x:r.length<500000)(z:left.length<500000)(l:left≠[])(B:¬ c % 8<4)(E:c % 8<6) :
  Mi [P0.length,hd] (st v0 v1 ⟨P0,last,t0,hd,left,used⟩ (i0 c) (i0 (c % 8)) v8 (i0 e))=some (.nx (st v0 v1 ⟨P0,last.set hd (r++[left.getD (c / 16 % left.length).toNat 0]),t0,hd,left.eraseIdx (c / 16 % left.length).toNat,used⟩ (i0 c) (i0 (c % 8)) v8 (i0 e))):=by
 have n2:=DL (P0:=P0) hr;have G:r.length<qE:=by show _<16777216;lia
 have u:0<left.length:=cH.mpr l;have t:=Aa (i:=c) (j:=16) (by decide) (by decide)
 have H:=tP (i:=c / 16) (j:=(left.length:Int)) (by lia)
 have I:0<=c / 16 % (left.length:Int):=bP _ (by lia)
 have b1:c / 16 % (left.length:Int)<(left.length:Int):=bJ _ (by lia)
 have s:(c / 16 % (left.length:Int)).toNat<left.length:=by lia
 have J:left.length<=qE:=by show _<=16777216;lia
 have L:(left.map λn=>AV.sh (.int n))[(c / 16 % (left.length:Int)).toNat]?=i0 (left.getD (c / 16 % (left.length:Int)).toNat 0):=by
  rw[gMq,gEg s,gDq,gEg s];rfl
 have g2:(left.map λn=>AV.sh (.int n)).eraseIdx (c / 16 % (left.length:Int)).toNat=(left.eraseIdx (c / 16 % (left.length:Int)).toNat).map λn=>.sh (.int n):=TQ _ _ _
 have M:=Vt (P0:=P0) (r':=r++[left.getD (c / 16 % (left.length:Int)).toNat 0]) hr;have O:=IY r (left.getD (c / 16 % (left.length:Int)).toNat 0);have P:=pV left;have q:(0<=c / 16 % (left.length:Int)/\c / 16 % (left.length:Int)<(left.length:Int)/\left.length<=qE)=True:=by simp[I,b1,J]
 have tr:=Y3 l
 simp_arith [Mi,brB,st,B,n2,E,G,t,H,q,L,g2,O,M,P,dI,tr,eq_self,true_and]
def adH(hr:last[hd]?=some r)(l:c % 8=6) :
  Mi [P0.length,hd] (st v0 v1 ⟨P0,last,[],hd,left,used⟩ (i0 c) (i0 (c % 8)) v8 (i0 e))=some (.nx (st v0 v1 ⟨P0,last,[],hd,left,used⟩ (i0 c) (i0 (c % 8)) v8 (i0 e))):=by
 have n2:=DL (P0:=P0) hr;have n:¬ (6:Int)<4:=by decide
 have s:¬ (6:Int)<6:=by decide
 have t:=pV (cN [hd]);have u:decide ((1:Int)<((1:Nat):Int))=false:=by decide
 simp_arith [Mi,brC,st,l,n2,n,s,t,dI,cN,u]
def aeM{t:Θ}{h':Nat}(hr:last[hd]?=some r)(l:c % 8=6) :
  Mi [P0.length,hd] (st v0 v1 ⟨P0,last,t++[h'],hd,left,used⟩ (i0 c) (i0 (c % 8)) v8 (i0 e))=some (.nx (st v0 v1 ⟨P0,last,t,h',left,used⟩ (i0 c) (i0 (c % 8)) v8 (i0 e))):=by
 have n2:=DL (P0:=P0) hr;have s:¬ (6:Int)<4:=by decide
 have u:¬ (6:Int)<6:=by decide
 have x:=pV (cN (t++[h']++[hd]));have z:(1:Int)<((t++[h']++[hd]).length:Int):=by simp;lia
 have B:(cN (t++[h']++[hd])).map (λn=>AV.sh (.int n))=(cN (t++[h'])).map (λn=>AV.sh (.int n))++[.sh (.int (hd:Int))]:=(ZE (t++[h']) hd).symm
 have E:((cN (t++[h'])).map (λn=>AV.sh (.int n))++[AV.sh (.int (hd:Int))])[((cN (t++[h'])).map (λn=>AV.sh (.int n))++[AV.sh (.int (hd:Int))]).length-1]?=i0 (hd:Int):=by
  rw[lAq,lSq,gYq (by lia)]
  simp
 have G:((cN (t++[h'])).map (λn=>AV.sh (.int n))++[AV.sh (.int (hd:Int))]).dropLast=(cN (t++[h'])).map (λn=>AV.sh (.int n)):=fU
 simp_arith [Mi,brC,st,l,n2,s,u,x,dI,z,B,E,G]
def afG(hr:last[hd]?=some r)(t:r.length+left.length<500000)(u:P0.length<500000)(x:¬ c % 8<4)(z:¬ c % 8<6)(B:¬ c % 8=6) :
  Mi [P0.length,hd] (st v0 v1 ⟨P0,last,t0,hd,left,used⟩ (i0 c) (i0 (c % 8)) v8 (i0 e))=some (.nx (st v0 v1 ⟨P0++[last.set hd (r++left)],[[]],[],0,[],used⟩ (i0 c) (i0 (c % 8)) v8 (i0 e))):=by
 have n2:=DL (P0:=P0) hr;have E:r.length+left.length<=qE:=by show _<=16777216;lia
 have G:=Vt (P0:=P0) (r':=r++left) hr;have H:=O6 r left;have s:(r.map λn=>AV.sh (.int n))++(left.map λn=>AV.sh (.int n))=(r++left).map λn=>.sh (.int n):=mBq.symm
 have l:(P0++[last.set hd (r++left)]).length<qE:=by rw[lAq];show P0.length+1<16777216;lia
 have I:=V2 (P0++[last.set hd (r++left)]);have J:=pV left
 simp_arith [Mi,brE,st,x,n2,z,B,E,H,s,G,l,I,J,dI]
 first|rfl|(simp[cN];done)
end
noncomputable def Cc(nm:Ϝ)(k:Nat):Ϝ:=(nm.take k).flatMap λx=>[x, -x]
def D0{nm:Ϝ}{k:Nat}{x:Int}(h:nm[k]?=some x):Cc nm (k+1)=Cc nm k++[x, -x]:=by
 unfold Cc;rw[ql h,iF];rfl
theorem Hh{nm:Ϝ}:∀{k:Nat},k<=nm.length->(Cc nm k).length=2*k
 |0,_=>rfl
 |k+1,h=>by
  rw[D0 (gEg (show k<nm.length by lia)),lAq,Hh (by lia)]
  show 2*k+2=_;lia
theorem Ag{x r:Ϝ}(a:Int):∀{l:Λ}{h:Nat},l[h]?=some r->(l.set h (r++x)).flatten.count a=l.flatten.count a+x.count a
 | [],_,h=>by simp at h
 |s::l,0,h=>by
  cases h;rw[dC,fCq,fCq,cAq,cAq,cAq];lia
 |s::l,h+1,e=>by
  rw[fg,fCq,fCq,cAq,cAq,Ag a (by simpa using e)]
  lia
theorem Ei(a:Int):∀{l:Ϝ}{j:Nat},j<l.length->(l.eraseIdx j).count a+[l.getD j 0].count a=l.count a
 | [],_,h=>by simp at h
 |x::l,0,_=>by
  rw[List.eraseIdx_cons_zero,show x::l=[x]++l from rfl,cAq]
  show l.count a+[x].count a=_;lia
 |x::l,j+1,h=>by
  have n:=Ei a (l:=l) (j:=j) (by simpa using h)
  rw[cj,show x::l.eraseIdx j=[x]++l.eraseIdx j from rfl,show(x::l).getD (j+1) 0=l.getD j 0 from rfl,show x::l=[x]++l from rfl,cAq,cAq]
  lia
def OF(a c x:Int):[YK c x].count a+[-(YK c x)].count a=[x, -x].count a:=by
 rw[show[x, -x]=[x]++[-x]from rfl,cAq]
 unfold YK;split
 .rw[bp];lia
 .rfl
structure Qq (nm:Ϝ)(w:Wd)(n:Nat):Prop where
 hh:w.h<w.last.length
 ht:∀k∈w.t0,k<w.last.length
 us:w.used<=n
 lP:w.P0.length<=n
 lt:w.t0.length<=n
 tl:w.P0.flatten.length+w.last.length<=n+1
 cnt:∀a,w.P0.flatten.flatten.count a+w.last.flatten.count a+w.left.count a=(Cc nm w.used).count a
def Qq.perm{nm:Ϝ}{w:Wd}{n:Nat}(h:Qq nm w n):(w.P0.flatten.flatten++w.last.flatten++w.left).Perm (Cc nm w.used):=by
 rw[iG];intro a;rw[cAq,cAq];exact h.cnt a
def Qq.len{nm:Ϝ}{w:Wd}{n:Nat}(h:Qq nm w n)(l:w.used<=nm.length):w.last.flatten.length+w.left.length<=2*n:=by
 have:=h.perm.length_eq;rw[Hh l,lAq,lAq]at this;have:=h.us;lia
noncomputable def OE{l:Λ}{h:Nat}{r:Ϝ}(e:l[h]?=some r):r.length<=l.flatten.length:=cE.length_le (aE (mGq e))
def Qq.step{nm:Ϝ}{w:Wd}{n:Nat}(h:Qq nm w n)(t:w.used<nm.length)(c:Int):Qq nm (An nm w c) (n+1):=by
 obtain⟨P0,last,t0,hd,left,used⟩:=w;obtain⟨hh,ht,us,lP,lt,tl,cnt⟩:=h;simp only at hh ht us lP lt tl cnt t;have hr:last[hd]?=some (last.getD hd []):=by rw[gDq,gEg hh];rfl
 have u:nm[used]?=some (nm.getD used 0):=by rw[gDq,gEg t];rfl
 unfold An;simp only;split
 .split
  .refine⟨?_,?_,?_,?_,?_,?_,λa=>?_⟩
   .simp only[lZq];exact hh
   .simp only[lZq];exact ht
   .simp only;lia
   .simp only;lia
   .simp only;lia
   .simp only[lZq];lia
   .simp only;rw[Ag a hr,D0 u,cAq,cAq,←cnt a,←OF a c (nm.getD used 0)];lia
  .refine⟨?_,?_,?_,?_,?_,?_,λa=>?_⟩
   .simp only[lAq,lZq,lSq];lia
   .intro k hk;simp only[lAq,lZq,lSq];rcases mAq.mp hk with q|q
    .have:=ht k q;lia
    .rw[mSq.mp q];lia
   .simp only;lia
   .simp only;lia
   .simp only[lAq,lSq];lia
   .simp only[lAq,lZq,lSq];lia
   .simp only;rw[fAq,cAq,aQ,Ag a hr,D0 u,cAq,←cnt a,←OF a c (nm.getD used 0)];lia
 .split
  .split
   .exact⟨hh,ht,by simp only;lia,by simp only;lia,by simp only;lia,by simp only;lia,cnt⟩
   .rename_i l;have x:0<left.length:=cH.mpr l;have s:(c / 16 % (left.length:Int)).toNat<left.length:=by
     have B:0<=c / 16 % (left.length:Int):=bP _ (by lia)
     have b1:c / 16 % (left.length:Int)<(left.length:Int):=bJ _ (by lia)
     lia
    refine⟨?_,?_,?_,?_,?_,?_,λa=>?_⟩
    .simp only[lZq];exact hh
    .simp only[lZq];exact ht
    .simp only;lia
    .simp only;lia
    .simp only;lia
    .simp only[lZq];lia
    .simp only;have:=Ei a s;rw[Ag a hr,←cnt a];lia
  .split
   .split
    .exact⟨hh,ht,by simp only;lia,by simp only;lia,by simp only;lia,by simp only;lia,cnt⟩
    .rename_i z hl;refine⟨ht z (List.mem_of_getLast? hl),λk hk=>ht k (List.dropLast_subset _ hk),by simp only;lia,by simp only;lia,?_,by simp only;lia,cnt⟩
     simp only[iq];lia
   .refine⟨?_,?_,?_,?_,?_,?_,λa=>?_⟩
    .simp
    .intro k hk;cases hk
    .simp only;lia
    .simp only[lAq,lSq];lia
    .simp
    .simp only[fAq,lAq,aQ,lZq,lSq];lia
    .simp only;rw[fAq,fAq,aQ,cAq,Ag a hr,←cnt a];simp;lia
def QH{nm:Ϝ}{w:Wd}{n:Nat}{c:Int}{v0 v7 v8 v9:Option AV}(h:Qq nm w n)(hn:n<1000)(B:w.used<nm.length):∃E G H,sA (st v0 (some (.sh (dI nm))) w (i0 c) v7 v8 v9)=some (.nx (st v0 (some (.sh (dI nm))) (An nm w c) (i0 c) E G H)):=by
 have u:=h.len (cC B);obtain⟨P0,last,t0,hd,left,used⟩:=w;obtain⟨hh,ht,us,lP,lt,tl,cnt⟩:=h;simp only at hh ht us lP lt tl cnt B u;have hr:last[hd]?=some (last.getD hd []):=by rw[gDq,gEg hh];rfl
 have I:=OE hr;have pre:=RE (P0:=P0) (t0:=t0) (left:=left) (c:=c) (v0:=v0) (v7:=v7) (v8:=v8) (v9:=v9) hh hr B;refine⟨i0 (c % 8),none,i0 (YK c (nm.getD used 0)),?_⟩;rw[pre];unfold An;simp only
 by_cases s:c % 8<4
 .rw[pB s]
  by_cases z:c % 8<2
  .rw[pB z];exact ac0 hh hr (by lia) (by lia) s z
  .rw[oZ z];exact ada hh hr (by lia) (by lia) (by lia) s z
 .rw[oZ s]
  by_cases x:c % 8<6
  .rw[pB x]
   by_cases hl:left=[]
   .subst hl;rw[pB rfl];exact ad3 hr s x
   .rw[oZ hl];exact ad4 hr (by lia) (by lia) hl s x
  .rw[oZ x]
   by_cases l:c % 8=6
   .rw[pB l];rcases cP t0 with rfl|⟨t,J,rfl⟩
    .exact adH hr l
    .rw[cQ,List.getLast?_append];simp only[List.getLast?_singleton,Option.some_or,fU];exact aeM hr l
   .rw[oZ l];exact afG hr (by lia) (by lia) s x l
noncomputable def w0:Wd:=⟨[],[[]],[],0,[],0⟩
def Sa(nm:Ϝ):Qq nm w0 0:=⟨by decide,(λk h=>by cases h),aa _,aa _,aa _,by decide,λa=>by simp[w0,Cc]⟩
theorem FS{nm:Ϝ}:∀(l:Ϝ) {w:Wd}{n:Nat},Qq nm w n->n+l.length<=nm.length->Qq nm (l.foldl (An nm) w) (n+l.length)
 | [],w,n,h,_=>h
 |c::l,w,n,h,hl=>by
  rw[lCq]at hl;have s:=h.step (by have:=h.us;lia) c
  have:=FS l s (by lia)
  rw[cJ,lCq,show n+(l.length+1)=n+1+l.length by lia]
  exact this
def J9(w:Wd):List Λ:=w.P0++[w.last.set w.h (w.last.getD w.h []++w.left)]
def N1{nm l:Ϝ}{v6 v7 v8 v9:Option AV}(B:l.length<=63)(hn:nm.length=66):∃u n s t,qR 6 sA (l.map D.int) (st (some (.sh (dI l))) (some (.sh (dI nm))) w0 v6 v7 v8 v9)=some (.nx (st (some (.sh (dI l))) (some (.sh (dI nm))) (l.foldl (An nm) w0) u n s t)):=by
 have key:=uQ (x:=6) (body:=sA) (λi S=>∃v6 v7 v8 v9,S=st (some (.sh (dI l))) (some (.sh (dI nm))) ((l.take i).foldl (An nm) w0) v6 v7 v8 v9) (ds:=l.map D.int) (S:=st (some (.sh (dI l))) (some (.sh (dI nm))) w0 v6 v7 v8 v9) ⟨v6,v7,v8,v9,rfl⟩ (by
  rintro i d S hd ⟨v6,v7,v8,v9,rfl⟩;rw[gMq]at hd;obtain⟨c,z,rfl⟩:=oMq.mp hd;have hi:i<l.length:=(gSq.mp z).1;have ok:=FS (nm:=nm) (l.take i) (Sa nm) (by rw[lTq];lia)
  rw[lTq]at ok;obtain⟨n,s,t,e⟩:=QH (c:=c) (v0:=some (.sh (dI l))) (v7:=v7) (v8:=v8) (v9:=v9) ok (by lia) (by have:=ok.us;lia)
  refine⟨_,e,i0 c,n,s,t,?_⟩;rw[Qj z])
 obtain⟨E,e,u,n,s,t,rfl⟩:=key;rw[lMq,aY]at e;exact⟨u,n,s,t,e⟩
def nmk(st sh a b k:Int):Int:=st*((a*k+b) % 67+1)+sh
def Y4(st sh a b:Int):Ϝ:=(bI 66).map λk:Nat=>nmk st sh a b k
def GS{st sh a b:Int}(t:1<=a)(u:a<=66):rm rZ (kSc (oV uJ (oV D4 (oj 2) (oV uJ (oV ur (oV uJ (oV D4 (oj 4) (oj 0)) (oj 3)) (rC (.int 67))) (rC (.int 1)))) (oj 1))) [i0 sh,i0 st,i0 b,i0 a] (qd 0 66)=some ((Y4 st sh a b).map λz=>.sh (.int z)):=by
 have key:=um (te:=kSc (oV uJ (oV D4 (oj 2) (oV uJ (oV ur (oV uJ (oV D4 (oj 4) (oj 0)) (oj 3)) (rC (.int 67))) (rC (.int 1)))) (oj 1))) (cap:=[i0 sh,i0 st,i0 b,i0 a])
  (λd=>match d with|.int k=>.sh (.int (nmk st sh a b k))|_=>.sh .non) (ds:=qd 0 66) (by
  intro d hd;rw[Bf]at hd;obtain⟨k,_,rfl⟩:=mMq.mp hd;have b1:0<=(a*(k:Int)+b) % 67:=bP _ (by decide)
  have b2:(a*(k:Int)+b) % 67<67:=bJ _ (by decide)
  have n:=SJ (i:=a) (j:=(k:Int)) (by lia) (by lia)
  have s:=adX (i:=st) (j:=(a*(k:Int)+b) % 67+1) (by lia) (by lia)
  have l:=λi:Int=>tP (i:=i) (j:=67) (by decide)
  refine⟨[i0 (k:Int),i0 sh,i0 st,i0 b,i0 a],?_⟩
  simp_arith [n,s,l,nmk])
 rw[key,Bf,mPq];unfold Y4;rw[mPq];rfl
def Ur(ns:Ϝ):∃st sh a b:Int,1<=st/\st<=10 ^ 58/\0<=sh/\sh<10 ^ 58/\1<=a/\a<=66/\xo [.scr ns]=some (aI (Y4 st sh a b)):=by
 have J:0<=cell ns 0 / 3 % 66:=bP _ (by decide)
 have L:cell ns 0 / 3 % 66<66:=bJ _ (by decide)
 have M:0<=cell ns 1 % 10 ^ 58:=bP _ (by decide)
 have O:cell ns 1 % 10 ^ 58<10 ^ 58:=bJ _ (by decide)
 have H:0<=cell ns 2 % 10 ^ 58:=bP _ (by decide)
 have I:cell ns 2 % 10 ^ 58<10 ^ 58:=bJ _ (by decide)
 have B:=λi:Int=>tP (i:=i) (j:=3) (by decide)
 have s:=λi:Int=>tP (i:=i) (j:=66) (by decide)
 have t:=λi:Int=>tP (i:=i) (j:=67) (by decide)
 have z:=λi:Int=>tP (i:=i) (j:=10 ^ 58) (by decide)
 have E:=λi:Int=>Aa (i:=i) (j:=3) (by decide) (by decide)
 have l:=λi:Int=>Aa (i:=i) (j:=198) (by decide) (by decide)
 have u:Ht [.int 66]=some (qd 0 66):=vn (n:=66) (by decide)
 have x:(qd 0 66).length<=qE:=by rw[qu];show 66<=16777216;decide
 by_cases G:0<cell ns 0 % 3
 .refine⟨1+cell ns 1 % 10 ^ 58,cell ns 2 % 10 ^ 58,1+cell ns 0 / 3 % 66,cell ns 0 / 198 % 67,by lia,by lia,H,I,by lia,by lia,?_⟩
  have rc:=GS (st:=1+cell ns 1 % 10 ^ 58) (sh:=cell ns 2 % 10 ^ 58) (a:=1+cell ns 0 / 3 % 66) (b:=cell ns 0 / 198 % 67) (by lia) (by lia)
  simp_arith [xo,CK,Zi,aeO,adu,G,B,s,t,z,E,l,p58,u,x,rc]
 .refine⟨1,0,1+cell ns 0 / 3 % 66,cell ns 0 / 198 % 67,by decide,by decide,by decide,by decide,by lia,by lia,?_⟩
  have rc:=GS (st:=1) (sh:=0) (a:=1+cell ns 0 / 3 % 66) (b:=cell ns 0 / 198 % 67) (by lia) (by lia)
  simp_arith [xo,CK,Zi,G,B,s,t,E,l,u,x,rc]
def X3{st sh a b:Int}(z:1<=st)(B:1<=a)(E:a<=66){j k:Nat}(G:j<67)(hk:k<67)(h:nmk st sh a b j=nmk st sh a b k):j=k:=by
 unfold nmk at h;have n:st*((a*j+b) % 67+1)=st*((a*k+b) % 67+1):=by lia
 have H:=Int.eq_of_mul_eq_mul_left (by lia) n
 have s:((a*j+b)-(a*k+b)) % 67=0:=Int.emod_eq_emod_iff_emod_sub_eq_zero.mp (by lia)
 have t:(a*((j:Int)-k)) % 67=0:=by
  rw[←s];congr 1;rw[Int.mul_sub];lia
 obtain⟨l,rfl⟩:∃l:Nat,a=(l:Int)+1:=⟨(a-1).toNat,by lia⟩
 rcases iT j k with q|q|q
 .exfalso;refine Mr.Pg ⟨l,by lia⟩ ⟨k-j,by lia⟩ (by show 0<k-j;lia) ?_
  show(l+1)*(k-j) % 67=0;have u:(((l:Int)+1)*((k:Int)-j)) % 67=0:=by
   have:((l:Int)+1)*((k:Int)-j) = -(((l:Int)+1)*((j:Int)-k)):=by
    rw[←Int.mul_neg];congr 1;lia
   rw[this];lia
  have x:(((l+1)*(k-j) % 67:Nat):Int)=0:=by
   rw[←u];push_cast [cC q];rfl
  lia
 .exact q
 .exfalso;refine Mr.Pg ⟨l,by lia⟩ ⟨j-k,by lia⟩ (by show 0<j-k;lia) ?_
  show(l+1)*(j-k) % 67=0;have x:(((l+1)*(j-k) % 67:Nat):Int)=0:=by
   rw[←t];push_cast [cC q];rfl
  lia
structure Nm (nm:Ϝ):Prop where
 len:nm.length=66
 nd:nm.Nodup
 lo:∀x∈nm,1<=x
 hi:∀x∈nm,x<10 ^ 60
def acy{st sh a b:Int}(n:1<=st)(l:st<=10 ^ 58)(z:0<=sh)(s:sh<10 ^ 58)(t:1<=a)(u:a<=66):Nm (Y4 st sh a b):=by
 have key:∀x∈Y4 st sh a b,1<=x/\x<10 ^ 60:=λx h=>by
  obtain⟨k,_,rfl⟩:=mMq.mp h;have b1:0<=(a*(k:Int)+b) % 67:=bP _ (by decide)
  have b2:(a*(k:Int)+b) % 67<67:=bJ _ (by decide)
  have B:1*1<=st*((a*(k:Int)+b) % 67+1):=jx n (by lia) (by decide) (by lia)
  have E:st*((a*(k:Int)+b) % 67+1)<=10 ^ 58*67:=jx l (by lia) (by lia) (by decide)
  show 1<=st*((a*(k:Int)+b) % 67+1)+sh/\st*((a*(k:Int)+b) % 67+1)+sh<10 ^ 60;lia
 refine⟨by unfold Y4;rw[lMq,bo],?_,λx h=>(key x h).1,λx h=>(key x h).2⟩
 unfold Y4;rw[aG,bf];refine aJ.imp_of_mem (λ{x y} hx hy hne e=>hne (X3 n t u (by have:=eS.mp hx;lia) (by have:=eS.mp hy;lia) e)) (aG.mp jg)
def Du{nm:Ϝ}{k:Nat}{z:Int}:z∈Cc nm k↔∃x∈nm.take k,z=x∨z = -x:=by
 unfold Cc;rw[fM];simp
theorem GE:∀{l:Ϝ},l.Nodup->(∀x∈l,1<=x)->(l.flatMap λx=>[x, -x]).Nodup
 | [],_,_=>aV
 |x::l,hn,hp=>by
  have n:=ah.mp hn;have t:=hp x (ao ..);rw[iV,nAq];refine⟨?_,GE n.2 λy s=>hp y (mCo _ s),λa ha b hb e=>?_⟩
  .rw[ah];refine⟨?_,by simp⟩
   rw[mSq];lia
  .subst e;obtain⟨y,s,q⟩:=fM.mp hb;have py:=hp y (mCo _ s);simp at ha q;have:y=x:=by lia
   exact n.1 (this ▸ s)
def Nb{nm:Ϝ}(h:Nm nm)(k:Nat):(Cc nm k).Nodup:=GE (h.nd.sublist (bj ..)) λx l=>h.lo x (bh l)
def Vj{nm:Ϝ}{k:Nat}{z:Int}(h:z∈Cc nm k):-z∈Cc nm k:=by
 obtain⟨x,l,q⟩:=Du.mp h;refine Du.mpr ⟨x,l,?_⟩;lia
end K12
namespace K51
open PySem L2 Mr Z Xe Zl
def XF{rs:Λ}(hl:rs.length<=500000):zg [dM rs]=some (.ow (rs.map aI)):=by
 have key:=um (te:=Am (uj 0)) (cap:=[]) (λd=>match d with|.list l=>.ow (l.map .sh)|_=>.sh .non) (ds:=rs.map dI) (by
  intro d hd;obtain⟨r,_,rfl⟩:=mMq.mp hd;refine⟨[some (.sh (dI r))],?_⟩
  simp_arith [dI])
 have n:rs.length<=qE:=by show _<=16777216;lia
 have e:(rs.map dI).map (λd=>match d with|D.list l=>AV.ow (l.map .sh)|_=>.sh .non)=rs.map aI:=by
  rw[mPq];refine mCq λr _=>?_
  show AV.ow ((r.map D.int).map .sh)=aI r;rw[mPq];rfl
 rw[e]at key
 simp_arith [zg,IM,dM,key,n]
noncomputable def kd(ks:Θ):List (pE×D):=ks.map λk:Nat=>((aO (k:Int):pE),D.bl true)
noncomputable def wd(ws:Θ):List AV:=ws.map λk:Nat=>AV.sh (.int (k:Int))
def N5(ks:Θ)(t:Nat):(kd ks).any (λkv=>decide (kv.1=(aO (t:Int):pE)))=decide (t∈ks):=by
 induction ks with
 |nil=>simp[kd]
 |cons k ks l=>
  unfold kd at l ⊢;rw[ai,dO,l]
  by_cases h:t=k
  .subst h;simp
  .have n:¬ (aO (k:Int):pE)=aO (t:Int):=λq=>h (by have:=aO.inj q;lia)
   simp[n,h]
def SV(ks:Θ)(t:Nat):(getD (kd ks) (aO (t:Int))).isSome=decide (t∈ks):=by
 unfold getD;rw[fq,←N5,cx,iW,fK]
def TM{ks:Θ}{t:Nat}(h:t∉ks):Ax (kd ks) (aO (t:Int)) (.bl true)=kd (ks++[t]):=by
 unfold Ax;rw[N5,d6 h,oZ (by simp)]
 simp[kd]
def Nf{kvs:List (pE×D)}{ks ws:Θ}{e:Int}{t:Nat}{v0 v1 v5 v7:Option AV}(s:getD kvs (aO (-e))=some (.int (t:Int)))(hk:ks.length<500000)(hw:ws.length<500000) :
  uc [v0,v1,some (.owd kvs),some (.owd (kd ks)),some (.ow (wd ws)),v5,i0 e,v7]=some (.nx [v0,v1,some (.owd kvs),some (.owd (kd (if t∈ks then ks else ks++[t]))),some (.ow (wd (if t∈ks then ws else ws++[t]))),v5,i0 e,i0 (t:Int)]):=by
 have u:(kd ks).length<qE:=by unfold kd;rw[lMq];show _<16777216;lia
 have x:(wd ws).length<qE:=by unfold wd;rw[lMq];show _<16777216;lia
 have l:=SV ks t
 by_cases h:t∈ks
 .rw[d4 h]at l
  simp_arith [uc,s,l,h]
 .rw[d6 h]at l;have z:=TM h;have n:wd ws++[.sh (.int (t:Int))]=wd (ws++[t]):=by simp[wd]
  simp_arith [uc,s,l,h,z,u,x,n]
noncomputable def Fy(pl:Int->Nat)(x:List Nat×Θ)(e:Int):List Nat×Θ:=if pl (-e)∈x.1 then x else (x.1++[pl (-e)],x.2++[pl (-e)])
theorem ON(pl:Int->Nat):∀(r:Ϝ) (x:List Nat×Θ),(r.foldl (Fy pl) x).1.length<=x.1.length+r.length/\(r.foldl (Fy pl) x).2.length<=x.2.length+r.length
 | [],x=>⟨aa _,aa _⟩
 |e::r,x=>by
  obtain⟨l,n⟩:=ON pl r (Fy pl x e);have s:(Fy pl x e).1.length<=x.1.length+1/\(Fy pl x e).2.length<=x.2.length+1:=by
   unfold Fy;split
   .exact⟨cL _,cL _⟩
   .simp
  rw[cJ,lCq];lia
def QP{kvs:List (pE×D)}{ks ws:Θ}{r:Ϝ}{pl:Int->Nat}{v0 v1 v5 v6 v7:Option AV}(t:∀e∈r,getD kvs (aO (-e))=some (.int (pl (-e):Int)))(hk:ks.length+r.length<500000)(hw:ws.length+r.length<500000) :
  ∃n l,qR 6 uc (r.map D.int) [v0,v1,some (.owd kvs),some (.owd (kd ks)),some (.ow (wd ws)),v5,v6,v7]=some (.nx [v0,v1,some (.owd kvs),some (.owd (kd (r.foldl (Fy pl) (ks,ws)).1)),some (.ow (wd (r.foldl (Fy pl) (ks,ws)).2)),v5,n,l]):=by
 have key:=uQ (x:=6) (body:=uc) (λi S=>∃n l,S=[v0,v1,some (.owd kvs),some (.owd (kd ((r.take i).foldl (Fy pl) (ks,ws)).1)),some (.ow (wd ((r.take i).foldl (Fy pl) (ks,ws)).2)),v5,n,l]) (ds:=r.map D.int) (S:=[v0,v1,some (.owd kvs),some (.owd (kd ks)),some (.ow (wd ws)),v5,v6,v7])
  ⟨v6,v7,rfl⟩ (by
  rintro i d S hd ⟨n,l,rfl⟩;rw[gMq]at hd;obtain⟨e,s,rfl⟩:=oMq.mp hd;have hi:i<r.length:=(gSq.mp s).1;have u:e∈r:=mGq s;obtain⟨n1,n2⟩:=ON pl (r.take i) (ks,ws);rw[lTq]at n1 n2;have z:((r.take i).foldl (Fy pl) (ks,ws)).1.length<=ks.length+min i r.length:=n1;have B:((r.take i).foldl (Fy pl) (ks,ws)).2.length<=ws.length+min i r.length:=n2;have step:=Nf (v0:=v0) (v1:=v1) (v5:=v5) (v7:=l) (t e u) (ks:=((r.take i).foldl (Fy pl) (ks,ws)).1) (ws:=((r.take i).foldl (Fy pl) (ks,ws)).2) (by lia) (by lia)
  have E:(r.take (i+1)).foldl (Fy pl) (ks,ws)=Fy pl ((r.take i).foldl (Fy pl) (ks,ws)) e:=by
   have:r[i]'hi=e:=by rw[gEg hi]at s;exact aw.inj s
   rw[dW hi,gC,this];rfl
  refine⟨_,step,i0 e,i0 (pl (-e):Int),?_⟩;rw[E];unfold Fy;split <;> rfl)
 obtain⟨G,e,n,l,rfl⟩:=key;rw[lMq,aY]at e;exact⟨n,l,e⟩
theorem pig:∀(N:Nat) (l:Θ),l.Nodup->(∀x∈l,x<N)->l.length<=N
 |0,l,_,h=>by
  cases l with
  |nil=>exact aa _
  |cons x l=>exact absurd (h x (ao ..)) (cG _)
 |N+1,l,hn,h=>by
  have n:=pig N (l.erase N) (hn.erase N) (λx s=>by
   have:=(hn.mem_erase_iff).mp s;have:=h x this.2;lia)
  rw[List.length_erase]at n;split at n <;> lia
noncomputable def plc(rs:Λ)(e:Int):Nat:=rs.findIdx λr=>decide (e∈r)
def same_place{rs:Λ}(hn:rs.flatten.Nodup){i j:Nat}{r s:Ϝ}{e:Int}(hi:rs[i]?=some r)(l:rs[j]?=some s)(n:e∈r)(t:e∈s):i=j:=by
 have a:=By 0 hn hi n;have b:=By 0 hn l t;rw[a]at b;have:=D.int.inj (aw.inj b);lia
def plc_eq{rs:Λ}(hn:rs.flatten.Nodup){i:Nat}{r:Ϝ}{e:Int}(hi:rs[i]?=some r)(l:e∈r):plc rs e=i:=by
 have hl:rs.findIdx (λr=>decide (e∈r))<rs.length:=dU ⟨r,mGq hi,d4 l⟩
 have n:=fT (xs:=rs) (p:=λr=>decide (e∈r)) (w:=hl)
 exact same_place hn (gEg hl) hi (of_decide_eq_true n) l
structure Mp (rs:Λ):Prop where
 hn:rs.flatten.Nodup
 hl:rs.flatten.length<=1000
 hr:rs.length<=1000
 hneg:∀e∈rs.flatten, -e∈rs.flatten
def Mp.at{rs:Λ}(h:Mp rs){e:Int}(s:e∈rs.flatten):∃r,rs[plc rs e]?=some r/\e∈r:=by
 obtain⟨r,t,l⟩:=mFq.mp s;obtain⟨i,n⟩:=aj.mp t;exact⟨r,by rw[plc_eq h.hn n l];exact n,l⟩
noncomputable def Mp.other{rs:Λ}(h:Mp rs){k:Nat}{r:Ϝ}{e:Int}(hk:rs[k]?=some r)(l:e∈r):-e∈rs.flatten:=h.hneg e (mFq.mpr ⟨r,mGq hk,l⟩)
def Mp.kv{rs:Λ}(h:Mp rs){e:Int}(l:e∈rs.flatten):getD (qT 0 rs) (aO e)=some (.int (plc rs e:Int)):=by
 obtain⟨r,n,s⟩:=h.at l;have:=By 0 h.hn n s
 rwa [bC]at this
def Mp.lt{rs:Λ}(h:Mp rs){e:Int}(l:e∈rs.flatten):plc rs e<rs.length:=by
 obtain⟨r,n,_⟩:=h.at l;exact(gSq.mp n).1
noncomputable def Mp.row{rs:Λ}(h:Mp rs){k:Nat}{r:Ϝ}(hk:rs[k]?=some r):r.length<=1000:=by
 have:=cE.length_le (aE (mGq hk));have:=h.hl;lia
inductive ui (rs:Λ)(s:Nat):Nat->Prop
 |base:ui rs s s
 |step {k:Nat}{r:Ϝ}{e:Int}:ui rs s k->rs[k]?=some r->e∈r->ui rs s (plc rs (-e))
theorem FJ(pl:Int->Nat):∀(r:Ϝ) (ks ws:Θ),∃a,r.foldl (Fy pl) (ks,ws)=(ks++a,ws++a)/\(∀k∈a,∃e∈r,k=pl (-e))/\(∀e∈r,pl (-e)∈ks++a)/\(ks.Nodup->(ks++a).Nodup)
 | [],ks,ws=>⟨[],by simp,by simp,by simp,by simp⟩
 |e::r,ks,ws=>by
  rw[cJ]
  by_cases h:pl (-e)∈ks
  .have n:Fy pl (ks,ws) e=(ks,ws):=by unfold Fy;rw[pB h]
   rw[n];obtain⟨a,s,t,u,z⟩:=FJ pl r ks ws;refine⟨a,s,λk hk=>?_,λx l=>?_,z⟩
   .obtain⟨x,l,q⟩:=t k hk;exact⟨x,mCo _ l,q⟩
   .rcases ab.mp l with rfl|l
    .exact mAq.mpr (.inl h)
    .exact u x l
  .have n:Fy pl (ks,ws) e=(ks++[pl (-e)],ws++[pl (-e)]):=by unfold Fy;rw[oZ h]
   rw[n];obtain⟨a,s,t,u,z⟩:=FJ pl r (ks++[pl (-e)]) (ws++[pl (-e)]);refine⟨pl (-e)::a,by rw[s,ag,ag];rfl,λk hk=>?_,λx l=>?_,λhn=>?_⟩
   .rcases ab.mp hk with rfl|hk
    .exact⟨e,ao ..,rfl⟩
    .obtain⟨x,l,q⟩:=t k hk;exact⟨x,mCo _ l,q⟩
   .rcases ab.mp l with rfl|l
    .exact mAq.mpr (.inr (ao ..))
    .have:=u x l
     rwa [ag]at this
   .have:=z (by
     rw[nAq];exact⟨hn,by simp,λx l y B q=>h (by rw[mSq.mp B]at q;rw[←q];exact l)⟩)
    rwa [ag]at this
structure Inv (rs:Λ)(s:Nat)(ks ws:Θ):Prop where
 nd:ks.Nodup
 lt:∀k∈ks,k<rs.length
 st:s∈ks
 rc:∀k∈ks,ui rs s k
 sub:∀w∈ws,w∈ks
 cl:∀k∈ks,k∉ws->∀r e,rs[k]?=some r->e∈r->plc rs (-e)∈ks
 few:2*(rs.length-ks.length)+ws.length<=2*rs.length+1
def Inv.go{rs:Λ}(t:Mp rs){s h:Nat}{ks ws:Θ}{r:Ϝ}(hi:Inv rs s ks (ws++[h]))(hr:rs[h]?=some r):∃a,r.foldl (Fy (plc rs)) (ks,ws)=(ks++a,ws++a)/\Inv rs s (ks++a) (ws++a)/\2*(rs.length-(ks++a).length)+(ws++a).length<2*(rs.length-ks.length)+(ws++[h]).length:=by
 obtain⟨a,x,u,B,E⟩:=FJ (plc rs) r ks ws;have hh:h∈ks:=hi.sub h (by simp)
 have nd:=E hi.nd;have lt:∀k∈ks++a,k<rs.length:=by
  intro k hk;rcases mAq.mp hk with q|q
  .exact hi.lt k q
  .obtain⟨e,n,rfl⟩:=u k q;exact t.lt (t.other hr n)
 have G:=pig _ _ nd lt;have H:=hi.few;rw[lAq]at G;rw[lAq,lSq]at H;have key:2*(rs.length-(ks++a).length)+(ws++a).length<2*(rs.length-ks.length)+(ws++[h]).length:=by
  rw[lAq,lAq,lAq,lSq];lia
 refine⟨a,x,⟨nd,lt,mAq.mpr (.inl hi.st),λk hk=>?_,λw hw=>?_,λk hk hw=>?_,?_⟩,key⟩
 .rcases mAq.mp hk with q|q
  .exact hi.rc k q
  .obtain⟨e,n,rfl⟩:=u k q;exact .step (hi.rc h hh) hr n
 .rcases mAq.mp hw with q|q
  .exact mAq.mpr (.inl (hi.sub w (mAq.mpr (.inl q))))
  .exact mAq.mpr (.inr q)
 .intro I e l n;have J:k∈ks:=(mAq.mp hk).resolve_right λq=>hw (mAq.mpr (.inr q))
  by_cases q:k=h
  .subst q;rw[hr]at l;cases l;exact B e n
  .exact mAq.mpr (.inl (hi.cl k J (λz=>by
    rcases mAq.mp z with z|z
    .exact hw (mAq.mpr (.inl z))
    .exact q (mSq.mp z)) I e l n))
 .rw[lAq,lAq]at key ⊢;rw[lAq,lSq]at key;lia
def mu(N:Nat):AS->Nat
 | [_,_,_,some (.owd kv),some (.ow w),_,_,_]=>2*(N-kv.length)+w.length
 |_=>0
def Of{rs:Λ}(n:Mp rs){s:Nat}(I:s<rs.length):∃S',rq (rA (oV Lu (tT qM (oi (oj 4) ox)) (rC (.int 0)))) wZ 100000 [some (.sh (dM rs)),i0 (s:Int),some (.owd (qT 0 rs)),some (.owd (kd [s])),some (.ow (wd [s])),none,none,none]=some (.nx S') /\
  ∃ks v5 v6 v7,S'=[some (.sh (dM rs)),i0 (s:Int),some (.owd (qT 0 rs)),some (.owd (kd ks)),some (.ow (wd [])),v5,v6,v7]/\Inv rs s ks []:=by
 have t:=n.hr;refine wa (c:=rA (oV Lu (tT qM (oi (oj 4) ox)) (rC (.int 0)))) (body:=wZ) (λS=>∃ks l v5 v6 v7,S=[some (.sh (dM rs)),i0 (s:Int),some (.owd (qT 0 rs)),some (.owd (kd ks)),some (.ow (wd l)),v5,v6,v7]/\Inv rs s ks l) (mu rs.length) (λS'=>∃ks v5 v6 v7,S'=[some (.sh (dM rs)),i0 (s:Int),some (.owd (qT 0 rs)),some (.owd (kd ks)),some (.ow (wd [])),v5,v6,v7]/\Inv rs s ks []) ?_ 100000 _ ⟨[s],[s],none,none,none,rfl,?_⟩ ?_
 .rintro S ⟨ks,l,v5,v6,v7,rfl,hi⟩;rcases cP l with rfl|⟨l,h,rfl⟩
  .refine⟨false,_,?_,λq=>(nomatch q),λ_=>⟨ks,v5,v6,v7,rfl,hi⟩⟩
   simp_arith [wd]
   rfl
  .rw[cQ]at hi ⊢;have u:h<rs.length:=hi.lt h (hi.sub h (by simp))
   have hr:rs[h]?=some rs[h]:=gEg u;obtain⟨a,J,x,z⟩:=hi.go n hr;have few:=hi.few;have Q:=pig _ _ hi.nd hi.lt;have R:=n.row hr;rw[lAq,lSq]at few;obtain⟨B,E,H⟩:=QP (kvs:=qT 0 rs) (ks:=ks) (ws:=l) (r:=rs[h]) (pl:=plc rs) (v0:=some (.sh (dM rs))) (v1:=i0 (s:Int)) (v5:=i0 (h:Int)) (v6:=v6) (v7:=v7) (λe L=>n.kv (n.other hr L)) (by lia) (by lia)
   rw[J]at H;have hw:wd (l++[h])=wd l++[.sh (.int (h:Int))]:=by simp[wd]
   have T:(wd l).length=l.length:=by simp[wd]
   have M:(0:Int)<((wd l++[AV.sh (.int (h:Int))]).length:Int):=by
    rw[lAq,lSq];lia
   have O:(wd l++[AV.sh (.int (h:Int))])[(wd l++[AV.sh (.int (h:Int))]).length-1]?=i0 (h:Int):=by
    rw[lAq,lSq,gYq (by lia)]
    simp
   have P:(wd l++[AV.sh (.int (h:Int))]).dropLast=wd l:=fU;have G:atI (rs.map dI) (h:Int)=some (dI rs[h]):=tu (by rw[gMq,hr];rfl)
   refine⟨true,[some (.sh (dM rs)),i0 (s:Int),some (.owd (qT 0 rs)),some (.owd (kd ks)),some (.ow (wd l++[.sh (.int (h:Int))])),v5,v6,v7],?_,λ_=>⟨[some (.sh (dM rs)),i0 (s:Int),some (.owd (qT 0 rs)),some (.owd (kd (ks++a))),some (.ow (wd (l++a))),i0 (h:Int),B,E],?_,⟨_,_,_,_,_,rfl,x⟩,?_⟩,λq=>(nomatch q)⟩
   .simp_arith [hw,M]
   .simp_arith [wZ,O,P,dM,G,H]
   .show 2*(rs.length-(kd (ks++a)).length)+(wd (l++a)).length<2*(rs.length-(kd ks).length)+(wd (l++[h])).length;unfold kd wd;rw[lMq,lMq,lMq,lMq];exact z
 .refine⟨by simp,?_,by simp,?_,λw h=>h,?_,?_⟩
  .intro k hk;rw[mSq.mp hk];exact I
  .intro k hk;rw[mSq.mp hk];exact .base
  .intro k hk hn;exact absurd hk hn
  .simp only[lSq];lia
 .show 2*(rs.length-(kd [s]).length)+(wd [s]).length<100000;simp only[kd,wd,lMq,lSq];lia
def MU{rs:Λ}(l:Mp rs){s:Nat}(n:s<rs.length):∃ks,Inv rs s ks []/\yP [dM rs,.int (s:Int)]=some (aI (uk (ks.map λk:Nat=>(k:Int)))):=by
 obtain⟨E,e,ks,G,H,I,rfl,hi⟩:=Of l n;have hl:=l.hl;have t:=Jf l.hn (by lia)
 have u:[((aO (s:Int):pE),D.bl true)]=kd [s]:=rfl;have x:[AV.sh (.int (s:Int))]=wd [s]:=rfl;have z:B1 (kd ks)=some (ks.map λk:Nat=>(k:Int)):=HX (λk:Nat=>(k:Int)) (λ_=>D.bl true) ks
 have B:(wd [s]).length<=qE:=by show 1<=16777216;decide
 refine⟨ks,hi,?_⟩
 simp_arith [yP,FR,t,u,x,e,z,B]
def VZ(ks:Θ):∃ps:Θ,ps.Perm ks/\ps.Pairwise (·<=·)/\uk (ks.map λk:Nat=>(k:Int))=ps.map λk:Nat=>(k:Int):=by
 have l:=vG (ks.map λk:Nat=>(k:Int))
 have n:=EH (ks.map λk:Nat=>(k:Int))
 have s:(uk (ks.map λk:Nat=>(k:Int)))=((uk (ks.map λk:Nat=>(k:Int))).map fA).map λk:Nat=>(k:Int):=by
  rw[mPq]
  conv=>lhs;rw[←de (uk (ks.map λk:Nat=>(k:Int)))]
  refine mCq λz t=>?_
  obtain⟨k,_,rfl⟩:=mMq.mp (l.mem_iff.mp t);rfl
 refine⟨(uk (ks.map λk:Nat=>(k:Int))).map fA,?_,?_,s⟩
 .have:=l.map fA;rw[mPq]at this;have e:ks.map (fA∘λk:Nat=>(k:Int))=ks:=by
   conv=>rhs;rw[←de ks]
   refine mCq λk _=>?_
   show fA (k:Int)=k;exact cu k
  rwa [e]at this
 .rw[bf];refine aJ.imp (λh=>?_) n
  lia
structure Pc (rs:Λ)(s:Nat)(ps:Θ):Prop where
 nd:ps.Nodup
 so:ps.Pairwise (·<=·)
 lt:∀k∈ps,k<rs.length
 iff:∀k,k∈ps↔ui rs s k
def NF{rs:Λ}(n:Mp rs){s:Nat}(t:s<rs.length):∃ps,Pc rs s ps/\yP [dM rs,.int (s:Int)]=some (aI (ps.map λk:Nat=>(k:Int))):=by
 obtain⟨u,hi,e⟩:=MU n t;obtain⟨ps,l,x,z⟩:=VZ u;rw[z]at e;refine⟨ps,⟨l.symm.nodup hi.nd,x,λk hk=>hi.lt k (l.mem_iff.mp hk),λk=>⟨λhk=>hi.rc k (l.mem_iff.mp hk),λhk=>l.mem_iff.mpr ?_⟩⟩,e⟩
 induction hk with
 |base=>exact hi.st
 |step _ a b c=>exact hi.cl _ c (dr) _ _ a b
noncomputable def addN(kn:Θ)(t:Nat):Θ:=if t∈kn then kn else kn++[t]
def Wu(ks:Θ)(t:Nat):Ax (kd ks) (aO (t:Int)) (.bl true)=kd (addN ks t):=by
 unfold addN
 by_cases h:t∈ks
 .rw[pB h];unfold Ax;rw[N5,d4 h,pB rfl];unfold kd;rw[mPq];refine mCq λk _=>?_
  show(if _ then _ else _)=_
  split <;> rfl
 .rw[oZ h];exact TM h
def RI(kn:Θ)(t:Nat):(addN kn t).length<=kn.length+1:=by
 unfold addN;split
 .lia
 .simp
theorem KC:∀(ps kn:Θ),(ps.foldl addN kn).length<=kn.length+ps.length
 | [],kn=>aa _
 |p::ps,kn=>by
  have l:=KC ps (addN kn p);have n:=RI kn p;rw[cJ,lCq];lia
def R9{kn:Θ}{t k:Nat}:k∈addN kn t↔k∈kn∨k=t:=by
 unfold addN;split
 .rename_i h;exact⟨.inl,λq=>q.elim id λq=>q ▸ h⟩
 .simp
theorem xD:∀{ps kn:Θ}{k:Nat},k∈ps.foldl addN kn↔k∈kn∨k∈ps
 | [],kn,k=>by simp
 |p::ps,kn,k=>by
  rw[cJ,xD,R9,ab,or_assoc]
def V7{kn:Θ}{t:Nat}(h:kn.Nodup):(addN kn t).Nodup:=by
 unfold addN;split
 .exact h
 .rename_i q;rw[nAq];exact⟨h,by simp,λx l y n z=>q (by rw[mSq.mp n]at z;rw[←z];exact l)⟩
theorem OD:∀{ps kn:Θ},kn.Nodup->(ps.foldl addN kn).Nodup
 | [],kn,h=>h
 |p::ps,kn,h=>by
  rw[cJ];exact OD (V7 h)
def P6{ps kn:Θ}{v0 v2 v3 v4 v5:Option AV}(hk:kn.length+ps.length<500000):∃l,qR 5 xT ((ps.map λk:Nat=>(k:Int)).map D.int) [v0,some (.owd (kd kn)),v2,v3,v4,v5]=some (.nx [v0,some (.owd (kd (ps.foldl addN kn))),v2,v3,v4,l]):=by
 have key:=uQ (x:=5) (body:=xT) (λi S=>∃l,S=[v0,some (.owd (kd ((ps.take i).foldl addN kn))),v2,v3,v4,l]) (ds:=(ps.map λk:Nat=>(k:Int)).map D.int) (S:=[v0,some (.owd (kd kn)),v2,v3,v4,v5]) ⟨v5,rfl⟩ (by
  rintro i d S hd ⟨l,rfl⟩;rw[gMq,gMq]at hd;obtain⟨z,t,rfl⟩:=oMq.mp hd;obtain⟨k,n,rfl⟩:=oMq.mp t;have hi:i<ps.length:=(gSq.mp n).1;have n1:=KC (ps.take i) kn;rw[lTq]at n1;have u:(kd ((ps.take i).foldl addN kn)).length<qE:=by unfold kd;rw[lMq];show _<16777216;lia
  have B:(ps.take (i+1)).foldl addN kn=addN ((ps.take i).foldl addN kn) k:=by
   have:ps[i]'hi=k:=by rw[gEg hi]at n;exact aw.inj n
   rw[dW hi,gC,this];rfl
  have s:=Wu ((ps.take i).foldl addN kn) k;rw[←B]at s;refine⟨_,?_,i0 (k:Int),rfl⟩
  simp_arith [xT,u,s])
 obtain⟨E,e,l,rfl⟩:=key;rw[lMq,lMq,aY]at e;exact⟨l,e⟩
def NX{rs:Λ}{ps:Θ}(h:∀k∈ps,k<rs.length):rm rZ (Am (lOf (RB (uj 1) (oj 0)))) [some (.sh (dM rs))] ((ps.map λk:Nat=>(k:Int)).map D.int)=some (ps.map λk=>aI (rs.getD k [])):=by
 have key:=um (te:=Am (lOf (RB (uj 1) (oj 0)))) (cap:=[some (.sh (dM rs))]) (λd=>match d with|.int k=>aI (rs.getD k.toNat [])|_=>.sh .non) (ds:=(ps.map λk:Nat=>(k:Int)).map D.int) (by
  intro d hd;rw[mPq]at hd;obtain⟨k,hk,rfl⟩:=mMq.mp hd;have l:=aef (h k hk);refine⟨[i0 (k:Int),some (.sh (dM rs))],?_⟩
  simp_arith [dM,l,Function.comp,cu,dI,aI,mPq]
  rfl)
 rw[key,mPq,mPq];rfl
def pA(rs:Λ)(ps:Θ):AV:=.ow (ps.map λk=>aI (rs.getD k []))
def ui.trans{rs:Λ}{a b c:Nat}(h:ui rs a b)(l:ui rs b c):ui rs a c:=by
 induction l with
 |base=>exact h
 |step _ p q r=>exact .step r p q
def ui.symm{rs:Λ}(l:Mp rs){a b:Nat}(h:ui rs a b):ui rs b a:=by
 induction h with
 |base=>exact .base
 | @step k r e _ p q n=>
  obtain⟨x,t,u⟩:=l.at (l.other p q);have:=ui.step (s:=plc rs (-e)) .base t u;rw[bp,plc_eq l.hn p q]at this;exact this.trans n
structure Ps (rs:Λ)(i:Nat)(kn:Θ)(PS:List Θ):Prop where
 sub:∀ps∈PS,∀k∈ps,k∈kn
 dj:PS.Pairwise λa b=>∀k∈a,k∉b
 pc:∀ps∈PS,∃s,s<rs.length/\Pc rs s ps
 all:∀k,k<i->k∈kn
 mem:∀k,k∈kn->∃ps∈PS,k∈ps
 nd:kn.Nodup
 lt:∀k∈kn,k<rs.length
 len:PS.length<=i
def Ee{rs:Λ}(J:Mp rs):∃kn PS,Ps rs rs.length kn PS/\Bk [dM rs]=some (.ow (PS.map (pA rs))):=by
 have L:=J.hr;have key:=uQ (x:=3) (body:=yn) (λi S=>∃kn PS M H E,S=[some (.sh (dM rs)),some (.owd (kd kn)),some (.ow (PS.map (pA rs))),M,H,E]/\Ps rs i kn PS) (ds:=qd 0 rs.length) (S:=[some (.sh (dM rs)),some (.owd []),some (.ow []),none,none,none])
  ⟨[],[],none,none,none,rfl,⟨by simp,by simp,by simp,by simp,by simp,by simp,by simp,by simp⟩⟩ (by
  rintro i d S hd ⟨kn,PS,M,H,E,rfl,l⟩;have hi:i<rs.length:=by
   have:=(gSq.mp hd).1
   rwa [qu]at this
  rw[zQ hi,iR]at hd;cases hd;have I:=SV kn i
  by_cases c:i∈kn
  .rw[d4 c]at I;refine⟨[some (.sh (dM rs)),some (.owd (kd kn)),some (.ow (PS.map (pA rs))),i0 (i:Int),H,E],?_,kn,PS,_,_,_,rfl,l.sub,l.dj,l.pc,?_,l.mem,l.nd,l.lt,?_⟩
   .simp_arith [yn,I]
   .intro k hk;rcases cB.mp hk with q|rfl
    .exact l.all k q
    .exact c
   .have:=l.len;lia
  .rw[d6 c]at I;obtain⟨t,z,Q⟩:=NF J hi;have p1:=pig _ _ l.nd l.lt;have p2:=pig _ _ z.nd z.lt;have p3:=l.len;have R:t.length<=qE:=by show _<=16777216;lia
   have T:PS.length<qE:=by show _<16777216;lia
   obtain⟨O,U⟩:=P6 (ps:=t) (kn:=kn) (v0:=some (.sh (dM rs))) (v2:=some (.ow (PS.map (pA rs)))) (v3:=i0 (i:Int)) (v4:=some (.sh (dI (t.map λk:Nat=>(k:Int))))) (v5:=E) (by lia)
   have X:=NX z.lt;refine⟨[some (.sh (dM rs)),some (.owd (kd (t.foldl addN kn))),some (.ow ((PS++[t]).map (pA rs))),i0 (i:Int),some (.sh (dI (t.map λk:Nat=>(k:Int)))),O],?_,t.foldl addN kn,PS++[t],_,_,_,rfl,?_,?_,?_,?_,?_,OD l.nd,?_,?_⟩
   .simp_arith [yn,I,Q,U,X,R,T,mBq,pA]
   .intro u B k hk;rcases mAq.mp B with q|q
    .exact xD.mpr (.inl (l.sub u q k hk))
    .rw[mSq.mp q]at hk;exact xD.mpr (.inr hk)
   .rw[aM];refine⟨l.dj,List.pairwise_singleton ..,λu B b hb k hk G=>c ?_⟩
    rw[mSq.mp hb]at G;obtain⟨s,hs,P⟩:=l.pc u B;exact l.sub u B i ((P.iff i).mpr (((P.iff k).mp hk).trans (((z.iff k).mp G).symm J)))
   .intro u B;rcases mAq.mp B with q|q
    .exact l.pc u q
    .rw[mSq.mp q];exact⟨i,hi,z⟩
   .intro k hk;rcases cB.mp hk with q|rfl
    .exact xD.mpr (.inl (l.all k q))
    .exact xD.mpr (.inr ((z.iff k).mpr .base))
   .intro k hk;rcases xD.mp hk with q|q
    .obtain⟨u,a,b⟩:=l.mem k q;exact⟨u,mAq.mpr (.inl a),b⟩
    .exact⟨t,mAq.mpr (.inr (mSq.mpr rfl)),q⟩
   .intro k hk;rcases xD.mp hk with q|q
    .exact l.lt k q
    .exact z.lt k q
   .rw[lAq,lSq];lia)
 obtain⟨S',e,kn,PS,M,H,E,rfl,l⟩:=key;rw[qu]at l;have Y:=vn (n:=rs.length) (by lia)
 refine⟨kn,PS,l,?_⟩
 simp_arith [Bk,Iv,dM,Y,e]
end K51
namespace K12
open PySem L2 Mr Z Xe Zl
structure Pt (P:List Λ):Prop where
 nd:P.flatten.flatten.Nodup
 ng:∀z∈P.flatten.flatten, -z∈P.flatten.flatten
 nz:∀z∈P.flatten.flatten,z≠0/\-(10 ^ 60)<z/\z<10 ^ 60
 le:P.flatten.flatten.length<=126
 lt:P.flatten.length<=64
 lp:P.length<=64
def ad1{nm:Ϝ}(s:Nm nm){P:List Λ}{u:Nat}(n:P.flatten.flatten.Perm (Cc nm u))(H:u<=63)(E:P.flatten.length<=64)(G:P.length<=64):Pt P:=by
 refine⟨n.symm.nodup (Nb s u),λz t=>n.mem_iff.mpr (Vj (n.mem_iff.mp t)),λz t=>?_,?_,E,G⟩
 .obtain⟨x,B,q⟩:=Du.mp (n.mem_iff.mp t);have l:=s.lo x (bh B);have h:=s.hi x (bh B);lia
 .rw[n.length_eq,Hh (by rw[s.len];lia)]
  lia
theorem Os:∀{PS:List Θ},(∀ps∈PS,ps.Nodup)->(PS.Pairwise λa b=>∀k∈a,k∉b)->PS.flatten.Nodup
 | [],_,_=>aV
 |p::PS,h1,h2=>by
  obtain⟨n,s⟩:=cS.mp h2;rw[fCq,nAq];refine⟨h1 p (ao ..),Os (λps t=>h1 ps (mCo _ t)) s,λa ha b hb e=>?_⟩
  obtain⟨q,u,l⟩:=mFq.mp hb;exact n q u a ha (e ▸ l)
def ya{rs:Λ}{kn:Θ}{PS:List Θ}(l:K51.Ps rs rs.length kn PS):(PS.map λps=>ps.map λk=>rs.getD k []).flatten.Perm rs:=by
 have n:(PS.map λps=>ps.map λk=>rs.getD k []).flatten=PS.flatten.map λk=>rs.getD k []:=by rw[←List.map_flatten]
 rw[n];have nd:PS.flatten.Nodup:=Os (λps h=>by obtain⟨s,_,q⟩:=l.pc ps h;exact q.nd) l.dj
 have pm:PS.flatten.Perm (bI rs.length):=(bx nd jg).mpr λk=>by
  rw[eS,mFq];constructor
  .rintro⟨ps,t,u⟩;obtain⟨s,_,q⟩:=l.pc ps t;exact q.lt k u
  .intro hk;exact l.mem k (l.all k hk)
 have x:(bI rs.length).map (λk=>rs.getD k [])=rs:=by
  refine eP λi=>?_
  rw[gMq]
  by_cases hi:i<rs.length
  .rw[eA hi,gEg hi,cK,gDq,gEg hi];rfl
  .rw[bK (by simpa using hi),bK (by lia)]
   rfl
 have:=pm.map (λk=>rs.getD k [])
 rwa [x]at this
def KG{α:Type}(xs:List α)(i:Nat):xa xs (some (i:Int)) none=xs.drop i:=by
 unfold xa;rw[HT.BH,HT.Dm,bR (by rw[ax];exact aa _)]
 by_cases h:i<=xs.length
 .rw[dG h]
 .rw[fJ (by lia),dk (aa _),dk (by lia)]
def SN{α:Type}(xs:List α)(i:Nat):xa xs none (some (i:Int))=xs.take i:=by
 by_cases h:i<=xs.length
 .exact Ft xs i h
 .unfold xa;rw[HT.BH,HT.Dm,fJ (by lia),eT,jA,bR (aa _),bR (by lia)]
def tl:MS:=(oz (oN 5 (tj (Bh (oy 3)) [] rZ (tj (Bh (oy 0)) [] rZ (Am (uj 0)))))
 (oz (oN 6 (oJ (okX K13.Gg) (om (oy 5) oC)))
 (oz (wk (Oc (vD (rA (qP K13.rF (oi (oj 6) (oi (oj 2) ox))))) (vD (rA (qP K13.rF (oi (oj 5) (oi (oj 3) ox)))))) (pZ (kSc (rC (.bl false)))) pH)
 (oz (aac 6 7 (.int 7))
 (oz (yN 6 (qF (om (kSc (rC (.int 8))) oC)))
 (oz (wk (Oc (vD (rA (qP K13.rF (oi (oj 5) (oi (oj 3) ox))))) (vD (rA (qP K13.rF (oi (rOf (oJ (okX K13.Gg) (om (oy 5) oC))) (oi (oj 2) ox)))))) (pZ (kSc (rC (.bl false)))) pH)
 (pZ (kSc (qP K13.rF (oi (rOf (oJ (okX K13.Gg) (om (oJ K51.Bk (om (tj (Bh (oy 2)) [] rZ (Am (uj 0))) oC)) oC))) (oi (oj 2) ox)))))))))))
end K12
namespace K23
open PySem L2 Mr Z Xe Zl
noncomputable abbrev cz(z:Int):D:=.ins "Cut" [("road", .int z)]
noncomputable def vB(z:Int)(t:Ϝ):Ϝ:=t.filter λe=>!decide (e∈[z, -z])
def ZX(i z:Int):ES true (.int i) (.tup [.int z,.int (-z)])=some (.bl (!decide (i∈[z, -z]))):=DS true i [z, -z]
noncomputable def Xc(t:Ϝ)(p:Int->Bool):((t.map D.int).filter λd=>match d with|.int e=>p e|_=>false).map (λd=>AV.sh d)=(t.filter p).map λn=>.sh (.int n):=by
 rw[fc,mPq];rfl
def Ys(z:Int)(t:Ϝ):rm (rA (oV (ES true) (oj 0) (oj 1))) (oy 0) [some (.sh (.tup [.int z,.int (-z)]))] (t.map D.int)=some ((vB z t).map λn=>.sh (.int n)):=by
 rw[Z.uN (λd=>match d with|.int e=>!decide (e∈[z, -z])|_=>false) (λd=>.sh d)]
 .rw[Xc];rfl
 .intro d hd;obtain⟨e,_,rfl⟩:=mMq.mp hd;have h:=ZX e z;refine⟨[i0 e,some (.sh (.tup [.int z,.int (-z)]))],?_,λ_=>⟨[i0 e,some (.sh (.tup [.int z,.int (-z)]))],?_⟩⟩
  .simp_arith [h]
  .simp_arith []
def Xv(z:Int)(t:Ϝ)(ht:t.length<=1000):yK [dI t,.tup [.int z,.int (-z)]]=some (aI (vB z t)):=by
 have h:=Ys z t;have l:t.length<=qE:=rP (by lia)
 simp_arith [yK,GV,dI,h,l]
def Nk(z:Int){rs:Λ}(hr:∀r∈rs,r.length<=1000):rm rZ (oJ yK (om (oy 0) (om (Av (om (oy 1) (om (kSc (Ak vz (oj 1))) oC))) oC))) [i0 z] (rs.map dI)=some ((rs.map (vB z)).map aI):=by
 rw[Z.um λd=>aI (vB z (xQ d))]
 .rw[CW λr=>aI (vB z r),mPq]
  rfl
 .intro d hd;obtain⟨r,l,rfl⟩:=Ck hd;refine⟨[some (.sh (dI r)),i0 z],?_⟩
  simp_arith [Xv z r (hr r l),tZ]
def Rg(rs:Λ):rm (vD (C5 (oj 0))) (oy 0) [] (rs.map dI)=some ((rs.filter λr=>decide (r=[])).map λr=>.sh (dI r)):=by
 rw[Z.uN (λd=>decide (xQ d=[])) (λd=>.sh d)]
 .rw[fc,mPq];have:(λd=>decide (xQ d=[]))∘dI=λr=>decide (r=[]):=by funext r;show decide (xQ (dI r)=[])=_;rw[tZ]
  rw[this];rfl
 .intro d hd;obtain⟨r,hr,rfl⟩:=Ck hd;rw[tZ];refine⟨[some (.sh (dI r))],?_,λ_=>⟨[some (.sh (dI r))],?_⟩⟩
  .cases r with
   |nil=>
    have t0:Co (dI [])=some false:=rfl
    simp_arith [t0]
   |cons x r=>
    have l:Co (dI (x::r))=some true:=rfl
    simp_arith [l]
  .simp_arith []
def QA(rs:Λ):(rs.filter λr=>decide (r=[])).length=bare rs:=by
 rw[←bS];rfl
def C(z:Int)(rs:Λ):Λ:=rs.map (vB z)
noncomputable def af6(w:Str)(z:Int):AV:=.ow [.sh (.str "refused"),.ow [.sh (.tup [.str w,.int z])]]
def afp(G:Λ):AV:=.ow [.sh (.str "map"),.ow (G.map aI)]
section
variable {rs:Λ}{z:Int}
def G5:(C z rs).flatten=vB z rs.flatten:=by
 unfold C vB;rw[List.filter_flatten]
def afX(h:rs.flatten.length<=128):(C z rs).flatten.length<=128:=by
 rw[G5];exact bX (cR _ _) h
end
end K23
namespace K51
open PySem L2 Mr Z Xe Zl
noncomputable def rot(r:Ϝ):Ϝ:=r.drop 1++r.take 1
def rH(r:Ϝ):List (pE×Int):=(r.zip (rot r)).map λp=>(.inl p.1,p.2)
def qf(rs:Λ):List (pE×Int):=(rs.map rH).flatten
noncomputable def xU(ps:List (pE×Int)):List (pE×D):=ps.map λp=>(p.1,D.int p.2)
def Dt(r:Ϝ):(rot r).length=r.length:=by
 unfold rot;rw[lAq,ax,lTq];lia
def rot_perm(r:Ϝ):(rot r).Perm r:=by
 unfold rot;refine bD.trans ?_;rw[aR]
def xZ(r:Ϝ):(rH r).length=r.length:=by
 unfold rH;rw[lMq,List.length_zip,Dt,Nat.min_self]
def C0(r:Ϝ):(rH r).map (·.1)=r.map aO:=by
 unfold rH;rw[mPq];have:r.map aO=((r.zip (rot r)).map Prod.fst).map (aO:Int->pE):=by rw[gO (by rw[Dt];exact aa _)]
 rw[this,mPq];rfl
def JM(r:Ϝ):(rH r).map (·.2)=rot r:=by
 unfold rH;rw[mPq];have:rot r=(r.zip (rot r)).map Prod.snd:=by rw[List.map_snd_zip (by rw[Dt];exact aa _)]
 exact this.symm
theorem vF:∀(rs:Λ),(qf rs).map (·.1)=rs.flatten.map aO
 | []=>rfl
 |r::rs=>by
  show(rH r++qf rs).map (·.1)=_;rw[mBq,C0,vF rs,fCq,mBq]
theorem CH:∀(rs:Λ),((qf rs).map (·.2)).Perm rs.flatten
 | []=>.nil
 |r::rs=>by
  show((rH r++qf rs).map (·.2)).Perm _;rw[mBq,JM,fCq];exact(rot_perm r).append (CH rs)
def QI(rs:Λ):(qf rs).length=rs.flatten.length:=by
 have:=congrArg bV (vF rs)
 rwa [lMq,lMq]at this
def He(rs:Λ)(r:Ϝ):qf (rs++[r])=qf rs++rH r:=by
 unfold qf;rw[mBq,fAq];simp
def WS(ps:List (pE×Int)):(xU ps).length=ps.length:=lMq _
def WT(a b:List (pE×Int)):xU (a++b)=xU a++xU b:=mBq
def VC(ps:List (pE×Int)):(xU ps).map (·.1)=ps.map (·.1):=by
 unfold xU;rw[mPq];rfl
def G7{r:Ϝ}{j:Nat}{z y:Int}(h:r[j]?=some z)(l:(rot r)[j]?=some y):(rH r)[j]?=some (.inl z,y):=by
 unfold rH;rw[gMq,dR (z:=(z,y)).mpr ⟨h,l⟩];rfl
def Md{rs:Λ}{i j:Nat}{r:Ϝ}{z y:Int}(hn:rs.flatten.Nodup)(hr:rs[i]?=some r)(hz:r[j]?=some z)(u:(rot r)[j]?=some y) :
  Ax (xU (qf (rs.take i)++(rH r).take j)) (.inl z) (.int y)=xU (qf (rs.take i)++(rH r).take (j+1)):=by
 have n:=rN hr;have l:((rs.take i).flatten++r).Nodup:=by
  rw[←n];have B:rs.flatten=(rs.take (i+1)).flatten++(rs.drop (i+1)).flatten:=by rw[←fAq,aR]
  rw[B]at hn;exact(nAq.mp hn).1
 rw[Dz]
 .rw[ql (G7 hz u),←ag,WT (_++_) [_]];rfl
 .rw[VC,mBq,vF,iD,C0,←iD];intro m;rcases mAq.mp m with m|m
  .obtain⟨x,s,t⟩:=mMq.mp m;cases t;exact(nAq.mp l).2.2 _ s _ (mGq hz) rfl
  .obtain⟨x,s,t⟩:=mMq.mp m;cases t;have:=aJ.sublist (bj (j+1) r) (nAq.mp l).2.1;rw[ql hz]at this;exact(nAq.mp this).2.2 _ s _ (by simp) rfl
def Ik{rs:Λ}{i j:Nat}{r:Ϝ}(hl:rs.flatten.length<=1000)(hr:rs[i]?=some r):(xU (qf (rs.take i)++(rH r).take j)).length<qE:=by
 refine RZ ?_;have l:=uE rs (i+1);rw[rN hr,lAq]at l;rw[WS,lAq,QI,lTq,xZ];lia
def afa(r:Ϝ):xa (r.map D.int) (some 1) none=(r.drop 1).map D.int:=by
 rw[uo];cases r with
 |nil=>rfl
 |cons x r=>rw[show(some 1:Option Int)=some ((1:Nat):Int)from rfl,Ek _ _ (by simp)]
def af7(r:Ϝ):xa (r.map D.int) none (some 1)=(r.take 1).map D.int:=by
 rw[uo];cases r with
 |nil=>rfl
 |cons x r=>rw[show(some 1:Option Int)=some ((1:Nat):Int)from rfl,Ft _ _ (by simp)]
def U4{rs:Λ}(hn:rs.flatten.Nodup)(hl:rs.flatten.length<=1000):FB [dM rs]=some (.owd (xU (qf rs))):=by
 have key:=uQ (x:=2) (body:=CM) (λi S=>∃E l n,S=[some (.sh (dM rs)),some (.owd (xU (qf (rs.take i)))),E,l,n]) (ds:=rs.map dI) (S:=[some (.sh (dM rs)),some (.owd []),none,none,none]) ⟨none,none,none,rfl⟩ (by
  rintro i d S hd ⟨E,l,n,rfl⟩;obtain⟨r,hr,rfl⟩:=Bn hd;have I:r.length<=1000:=by
   have J:=uE rs (i+1);rw[rN hr,lAq]at J;lia
  have t:(r.map D.int).length=((rot r).map D.int).length:=by rw[lMq,lMq,Dt]
  have L:=Zn (x:=3) (y:=4) (k:=0) (body:=CG) (λj S=>∃l n,S=[some (.sh (dM rs)),some (.owd (xU (qf (rs.take i)++(rH r).take j))),some (.sh (dI r)),l,n]) (ds:=r.map D.int) (es:=(rot r).map D.int) (S:=[some (.sh (dM rs)),some (.owd (xU (qf (rs.take i)))),some (.sh (dI r)),l,n]) t ⟨l,n,by simp⟩ (by
   rintro j d e S hd M ⟨l,n,rfl⟩;obtain⟨z,O,rfl⟩:=JK hd;obtain⟨y,P,rfl⟩:=JK M;rw[bC]at *;have Q:=Ik (j:=j) hl hr;have u:=Md hn hr O P;refine⟨_,?_,i0 z,i0 y,rfl⟩
   simp_arith [CG,Q,u])
  obtain⟨U,H,R,T,rfl⟩:=L;rw[bC,lMq,←xZ,aY]at H;refine⟨_,?_,some (.sh (dI r)),R,T,rfl⟩;rw[ql hr,He];have G:(r.drop 1).length+(r.take 1).length<=qE:=rP (by rw[ax,lTq];lia)
  have B:(r.drop 1).map D.int++(r.take 1).map D.int=(rot r).map D.int:=by unfold rot;rw[mBq]
  have s:r.length=(rot r).length:=(Dt r).symm
  simp_arith [CM,afa,af7,G,B,s,H])
 obtain⟨X,e,E,l,n,rfl⟩:=key;rw[lMq,aY]at e
 simp_arith [FB,Ma,e]
end K51
namespace K15
open PySem L2 Mr Z Xe Zl
def AD{ps:List (pE×Int)}{k:pE}{n:Int}(hn:(ps.map (·.1)).Nodup)(h:(k,n)∈ps):Z.getD (K51.xU ps) k=some (.int n):=by
 induction ps with
 |nil=>cases h
 |cons p ps l=>
  rw[ai,ah]at hn;unfold Z.getD;show(((p.1,D.int p.2)::K51.xU ps).find? _).map _=_;rcases ab.mp h with e|e
  .rw[←e,eK (by simp)]
   rfl
  .rw[du (by
    intro z;have s:p.1=k:=by simpa using z
    exact hn.1 (by rw[s];exact mMq.mpr ⟨_,e,rfl⟩))]
   exact l hn.2 e
def VO{ps:List (pE×Int)}{k s:pE}{n:Int}(hn:(ps.map (·.2)).Nodup)(h:(k,n)∈ps)(h':(s,n)∈ps):k=s:=by
 induction ps with
 |nil=>cases h
 |cons p ps t=>
  rw[ai,ah]at hn;rcases ab.mp h with e|e
  .rcases ab.mp h' with l|l
   .rw[←e]at l;exact(congrArg Prod.fst l).symm
   .exact absurd (mMq.mpr ⟨_,l,by rw[←e]⟩) hn.1
  .rcases ab.mp h' with l|l
   .exact absurd (mMq.mpr ⟨_,e,by rw[←l]⟩) hn.1
   .exact t hn.2 e l
def nx(rs:Λ)(e:Int):Int:=match Z.getD (K51.xU (K51.qf rs)) (.inl e)with
 |some (.int n)=>n
 |_=>0
def fw(rs:Λ)(e:Int):Int:=nx rs (-e)
section
variable {rs:Λ}
def JW(hn:rs.flatten.Nodup):((K51.qf rs).map (·.1)).Nodup:=by
 rw[K51.vF,aG,bf];exact aJ.imp (λh e=>h (aO.inj e)) (aG.mp hn)
def Fp(hn:rs.flatten.Nodup){e:Int}(s:e∈rs.flatten):(aO e,nx rs e)∈K51.qf rs:=by
 have hk:(aO e:pE)∈(K51.qf rs).map (·.1):=by rw[K51.vF];exact mMq.mpr ⟨e,s,rfl⟩
 obtain⟨⟨k,n⟩,l,rfl⟩:=mMq.mp hk;have:=AD (JW hn) l;unfold nx;rw[this];exact l
def TY(hn:rs.flatten.Nodup){e:Int}(l:e∈rs.flatten):Z.getD (K51.xU (K51.qf rs)) (.inl e)=some (.int (nx rs e)):=AD (JW hn) (Fp hn l)
def Cz(hn:rs.flatten.Nodup){e:Int}(l:e∈rs.flatten):nx rs e∈rs.flatten:=(K51.CH rs).mem_iff.mp (mMq.mpr ⟨_,Fp hn l,rfl⟩)
def wF(hn:rs.flatten.Nodup){a b:Int}(ha:a∈rs.flatten)(hb:b∈rs.flatten)(h:nx rs a=nx rs b):a=b:=by
 have l:=Fp hn ha;have n:=Fp hn hb;rw[h]at l;exact aO.inj (VO ((K51.CH rs).symm.nodup hn) l n)
def Bg(l:Mp rs):Mh (fw rs) rs.flatten:=⟨l.hn,λe n=>Cz l.hn (l.hneg e n),λa ha b hb h=>by
 have:=wF l.hn (l.hneg a ha) (l.hneg b hb) h;lia⟩
def stp(rs:Λ)(E:Ϝ):List (pE×D):=E.map λe=>(aO e,.int (fw rs e))
def Wj(hn:rs.flatten.Nodup){e:Int}(l:e∈rs.flatten):Z.getD (stp rs rs.flatten) (.inl e)=some (.int (fw rs e)):=by
 have h:=AD (ps:=rs.flatten.map λe=>(aO e,fw rs e)) (k:=.inl e) (n:=fw rs e) (by
  rw[mPq,aG,bf];exact aJ.imp (λh e=>h (aO.inj e)) (aG.mp hn)) (mMq.mpr ⟨e,l,rfl⟩)
 unfold K51.xU at h;rw[mPq]at h;exact h
def Y7(rs:Λ):(K51.xU (K51.qf rs)).map (λp=>kD p.1)=rs.flatten.map D.int:=by
 have:(K51.xU (K51.qf rs)).map (λp=>kD p.1)=((K51.qf rs).map (·.1)).map kD:=by
  unfold K51.xU;rw[mPq,mPq];rfl
 rw[this,K51.vF,mPq];rfl
def Nh(l:Mp rs):Bv [dM rs]=some (.owd (stp rs rs.flatten)):=by
 have B:=K51.U4 l.hn l.hl;have hl:=l.hl;have key:=uQ (x:=3) (body:=zU) (λi S=>∃s,S=[some (.sh (dM rs)),some (.sh (.fd (K51.xU (K51.qf rs)))),some (.owd (stp rs (rs.flatten.take i))),s]) (ds:=rs.flatten.map D.int) (S:=[some (.sh (dM rs)),some (.sh (.fd (K51.xU (K51.qf rs)))),some (.owd []),none]) ⟨none,rfl⟩ (by
  rintro i d S hd ⟨s,rfl⟩;rw[gMq]at hd;obtain⟨e,n,rfl⟩:=oMq.mp hd;have hi:=(gSq.mp n).1;have t:=mGq n;have E:=TY l.hn (l.hneg e t);have G:(stp rs (rs.flatten.take i)).length<qE:=by unfold stp;rw[lMq,lTq];show _<16777216;lia
  have u:Ax (stp rs (rs.flatten.take i)) (.inl e) (.int (nx rs (-e)))=stp rs (rs.flatten.take (i+1)):=by
   rw[Dz]
   .unfold stp;rw[ql n,mBq];rfl
   .intro m;obtain⟨p,u,H⟩:=mMq.mp m;obtain⟨x,I,rfl⟩:=mMq.mp u;have J:x=e:=aO.inj H;subst J;have:=aJ.sublist (bj (i+1) rs.flatten) l.hn;rw[ql n]at this;exact(nAq.mp this).2.2 x I x (by simp) rfl
  refine⟨_,?_,i0 e,rfl⟩
  simp_arith [zU,E,G,u])
 obtain⟨M,e,s,rfl⟩:=key;rw[lMq,aY]at e;have L:=Y7 rs;have z:((3:Nat)≠1)=True:=by simp
 simp_arith [Bv,G4,B,z,L,e]
noncomputable def mu(N:Nat):AS->Nat
 | [_,_,some (.ow l),_]=>N+1-l.length
 |_=>0
def Yg(f:Int->Int)(e:Int)(n:Nat):((bI n).map λk=>itr f k e)++[itr f n e]=(bI (n+1)).map λk=>itr f k e:=by rw[List.range_succ,mBq];rfl
def Yv(u:Mp rs){e:Int}(E:e∈rs.flatten):∃l,Cy (fw rs) e l/\l.length<=rs.flatten.length/\wQ [.dict (stp rs rs.flatten),.int e]=some (aI l):=by
 have one:=Bg u;obtain⟨l,cy,x,s⟩:=one.cy E;have hl:=u.hl;refine⟨l,cy,x,?_⟩;have t:∀n,Z.getD (stp rs rs.flatten) (.inl (itr (fw rs) n e))=some (.int (itr (fw rs) (n+1) e)):=λn=>Wj u.hn (one.itr_mem E n)
 have key:=wa (c:=rA (oV Yz (oj 3) (oj 1))) (body:=wA) (λS=>∃n,1<=n/\n<=l.length/\S=[some (.sh (.dict (stp rs rs.flatten))),i0 e,some (aI ((bI n).map λk=>itr (fw rs) k e)),i0 (itr (fw rs) n e)]) (mu l.length) (λS=>∃G,S=[some (.sh (.dict (stp rs rs.flatten))),i0 e,some (aI l),G]) (by
  rintro S ⟨n,P,Q,rfl⟩
  by_cases hn:n<l.length
  .have z:¬ itr (fw rs) n e=e:=s n (by lia) hn
   have H:=t n;have I:n<qE:=by show _<16777216;lia
   have ap:((bI n).map λk=>itr (fw rs) k e).map (λn=>AV.sh (.int n))++[.sh (.int (itr (fw rs) n e))]=((bI (n+1)).map λk=>itr (fw rs) k e).map λn=>.sh (.int n):=by rw[←Yg,mBq];rfl
   refine⟨true,[some (.sh (.dict (stp rs rs.flatten))),i0 e,some (aI ((bI n).map λk=>itr (fw rs) k e)),i0 (itr (fw rs) n e)],?_,λ_=>⟨[some (.sh (.dict (stp rs rs.flatten))),i0 e,some (aI ((bI (n+1)).map λk=>itr (fw rs) k e)),i0 (itr (fw rs) (n+1) e)],?_,⟨n+1,by lia,by lia,rfl⟩,?_⟩,λq=>(nomatch q)⟩
   .simp_arith [z]
   .simp_arith [wA,bo,I,ap,H]
   .show l.length+1-_<l.length+1-_;simp only[lMq,bo];lia
  .have J:n=l.length:=by lia
   subst J;have hb:=cy.back;have L:=cy.get;refine⟨false,[some (.sh (.dict (stp rs rs.flatten))),i0 e,some (aI ((bI l.length).map λk=>itr (fw rs) k e)),i0 (itr (fw rs) l.length e)],?_,λq=>(nomatch q),λ_=>⟨i0 (itr (fw rs) l.length e),by rw[←L]⟩⟩
   simp_arith [hb])
 have M:=t 0;have R:[AV.sh (.int e)]=((bI 1).map λk=>itr (fw rs) k e).map λn=>.sh (.int n):=rfl
 obtain⟨T,O,G,rfl⟩:=key 100000 [some (.sh (.dict (stp rs rs.flatten))),i0 e,some (.ow [.sh (.int e)]),i0 (itr (fw rs) (0+1) e)] ⟨1,aa _,cy.len,rfl⟩ (by
  show l.length+1-1<100000;lia)
 have B:Z.getD (stp rs rs.flatten) (.inl e)=some (.int (itr (fw rs) (0+1) e)):=M
 simp_arith [wQ,BW,B,O]
end
noncomputable def kI(ks:Ϝ):List (pE×D):=ks.map λk=>((aO k:pE),D.bl true)
def UC(ks:Ϝ)(t:Int):(kI ks).any (λkv=>decide (kv.1=(aO t:pE)))=decide (t∈ks):=by
 induction ks with
 |nil=>simp[kI]
 |cons k ks l=>
  unfold kI at l ⊢;rw[ai,dO,l]
  by_cases h:t=k
  .subst h;simp
  .have n:¬ (aO k:pE)=aO t:=λq=>h (aO.inj q).symm
   simp[n,h]
def FK(ks:Ϝ)(t:Int):(Z.getD (kI ks) (aO t)).isSome=decide (t∈ks):=by
 unfold Z.getD;rw[fq,←UC,cx,iW,fK]
def Nt{ks:Ϝ}{t:Int}(h:t∉ks):Ax (kI ks) (aO t) (.bl true)=kI (ks++[t]):=by
 unfold Ax;rw[UC,d6 h,oZ (by simp)]
 simp[kI]
def Oa(ks:Ϝ):(kI ks).length=ks.length:=by unfold kI;rw[lMq]
section
variable {rs:Λ}
structure Rd (f:Int->Int)(E:Ϝ)(kn:Ϝ)(L:Λ):Prop where
 cy:∀l∈L,∃e,Cy f e l
 fl:L.flatten=kn
 nd:kn.Nodup
 sub:∀x∈kn,x∈E
 cl:∀x∈kn,f x∈kn
theorem Rd.itr{f:Int->Int}{E kn:Ϝ}{L:Λ}(h:Rd f E kn L){x:Int}(l:x∈kn):∀n,itr f n x∈kn
 |0=>l
 |n+1=>h.cl _ (h.itr l n)
def Rd.out{f:Int->Int}{E kn:Ϝ}{L:Λ}(h:Rd f E kn L){e:Int}{l:Ϝ}(c:Cy f e l)(t:e∉kn):∀x∈l,x∉kn:=by
 intro x u hk;obtain⟨j,n⟩:=aj.mp u;have s:=(gSq.mp n).1;rw[c.at s]at n;have z:=aw.inj n;subst z;have:=h.itr hk (l.length-j);rw[←zk,show l.length-j+j=l.length by lia,c.back]at this
 exact t this
def Rd.add{f:Int->Int}{E kn:Ϝ}{L:Λ}(G:Mh f E)(h:Rd f E kn L){e:Int}{l:Ϝ}(c:Cy f e l)(s:e∈E)(H:e∉kn):Rd f E (kn++l) (L++[l]):=by
 have I:=h.out c H;refine⟨λm J=>?_,by rw[fAq,h.fl,aQ],?_,λx t=>?_,λx t=>?_⟩
 .rcases mAq.mp J with q|q
  .exact h.cy m q
  .rw[mSq.mp q];exact⟨e,c⟩
 .rw[nAq];exact⟨h.nd,c.nd,λa ha b hb q=>I b hb (q ▸ ha)⟩
 .rcases mAq.mp t with q|q
  .exact h.sub x q
  .rw[c.get]at q;obtain⟨n,_,rfl⟩:=mMq.mp q;exact G.itr_mem s n
 .rcases mAq.mp t with q|q
  .exact mAq.mpr (.inl (h.cl x q))
  .refine mAq.mpr (.inr ?_);obtain⟨j,u⟩:=aj.mp q;have z:=(gSq.mp u).1;rw[c.at z]at u;rw[←aw.inj u];show Zl.itr f (j+1) e∈l
   by_cases B:j+1<l.length
   .exact mGq (c.at B)
   .rw[show j+1=l.length by lia,c.back]
    exact c.self
def Rd.orb{f:Int->Int}{E kn:Ϝ}{L:Λ}(h:Rd f E kn L)(l:∀x∈E,x∈kn):KN f E L:=⟨h.cy,by rw[h.fl];exact h.nd,λx=>by rw[h.fl];exact⟨h.sub x,l x⟩⟩
noncomputable def ug(rs:Λ):Λ:=(rs.filter λr=>decide (r=[])).map λ_=>[]
def Uq(rs:Λ):rm (rA (oV GP (tT qM (oi (oj 0) ox)) (rC (.int 0)))) (qF oC) [] (rs.map dI)=some ((ug rs).map aI):=by
 rw[Z.uN (λd=>decide (xQ d=[])) (λ_=>.ow [])]
 .unfold ug;rw[fc,mPq,mPq];have:(λd=>decide (xQ d=[]))∘dI=λr=>decide (r=[]):=by funext r;show decide (xQ (dI r)=[])=_;rw[tZ]
  rw[this];rfl
 .intro d hd;obtain⟨r,hr,rfl⟩:=Ck hd;rw[tZ];refine⟨[some (.sh (dI r))],?_,λ_=>⟨[some (.sh (dI r))],?_⟩⟩
  .by_cases h:r=[]
   .subst h;have z:((0:Nat):Int)=0:=rfl
    simp_arith [dI,z]
   .have l:¬ ((r.length:Nat):Int)=0:=λq=>h (bN.mp (by lia))
    simp_arith [dI,l,h]
  .simp_arith []
def P3{kn l:Ϝ}{v0 v1 v3 v4 v5 v6:Option AV}(hn:(kn++l).Nodup)(hl:kn.length+l.length<500000):∃n,qR 6 zW (l.map D.int) [v0,v1,some (.owd (kI kn)),v3,v4,v5,v6]=some (.nx [v0,v1,some (.owd (kI (kn++l))),v3,v4,v5,n]):=by
 have key:=uQ (x:=6) (body:=zW) (λi S=>∃n,S=[v0,v1,some (.owd (kI (kn++l.take i))),v3,v4,v5,n]) (ds:=l.map D.int) (S:=[v0,v1,some (.owd (kI kn)),v3,v4,v5,v6]) ⟨v6,by simp⟩ (by
  rintro i d S hd ⟨n,rfl⟩;rw[gMq]at hd;obtain⟨e,t,rfl⟩:=oMq.mp hd;have hi:=(gSq.mp t).1;have s:e∉kn++l.take i:=λm=>by
   have u:(kn++l.take (i+1)).Nodup:=aJ.sublist (cE.append (cE.refl kn) (bj (i+1) l)) hn;rw[ql t,←ag]at u;exact(nAq.mp u).2.2 e m e (by simp) rfl
  have z:=Nt s;rw[ag,←ql t]at z;have B:(kI (kn++l.take i)).length<qE:=by rw[Oa,lAq,lTq];show _<16777216;lia
  refine⟨_,?_,i0 e,rfl⟩
  simp_arith [zW,B,z])
 obtain⟨E,e,n,rfl⟩:=key;rw[lMq,aY]at e;exact⟨n,e⟩
def Hj(B L:Λ):AV:=.ow (B.map aI++L.map λl=>.sh (dI l))
def N3(H:Mp rs):∃v1 v2 v4 v5 v6 L,qR 4 xy ((uk rs.flatten).map D.int) [some (.sh (dM rs)),some (.owd (stp rs rs.flatten)),some (.owd []),some (Hj (ug rs) []),none,none,none]=some (.nx [some (.sh (dM rs)),v1,v2,some (Hj (ug rs) L),v4,v5,v6])/\KN (fw rs) rs.flatten L:=by
 have one:=Bg H;have hl:=H.hl;have M:=H.hr;have O:=vG rs.flatten;have key:=uQ (x:=4) (body:=xy) (λi S=>∃s L v1 v4 v5 v6,S=[some (.sh (dM rs)),some v1,some (.owd (kI s)),some (Hj (ug rs) L),v4,v5,v6]/\oB v1 = .dict (stp rs rs.flatten)/\(∀x,v1=x->(x = .owd (stp rs rs.flatten)∨x = .sh (.dict (stp rs rs.flatten))))/\Rd (fw rs) rs.flatten s L/\L.length<=i/\∀j x,j<i->(uk rs.flatten)[j]?=some x->x∈s) (ds:=(uk rs.flatten).map D.int) (S:=[some (.sh (dM rs)),some (.owd (stp rs rs.flatten)),some (.owd []),some (Hj (ug rs) []),none,none,none]) ⟨[],[],.owd (stp rs rs.flatten),none,none,none,rfl,rfl,λx h=>.inl h.symm,⟨by simp,rfl,aV,by simp,by simp⟩,aa _,λj x h=>absurd h (cG _)⟩ (by
  rintro i d S hd ⟨s,L,v1,v4,v5,v6,rfl,z,B,hr,T,n⟩;rw[gMq]at hd;obtain⟨e,I,rfl⟩:=oMq.mp hd;have P:=(gSq.mp I).1;rw[O.length_eq]at P;have E:e∈rs.flatten:=O.mem_iff.mp (mGq I);have J:=FK s e
  by_cases c:e∈s
  .rw[d4 c]at J;refine⟨[some (.sh (dM rs)),some v1,some (.owd (kI s)),some (Hj (ug rs) L),i0 e,v5,v6],?_,s,L,v1,_,_,_,rfl,z,B,hr,by lia,λj x u t=>?_⟩
   .simp_arith [xy,J]
   .rcases cB.mp u with q|rfl
    .exact n j x q t
    .rw[I]at t;cases t;exact c
  .rw[d6 c]at J;obtain⟨l,cy,U,X⟩:=Yv H E;have G:=hr.add one cy E c;have Y:=QU _ _ hr.nd hr.sub;obtain⟨Q,R⟩:=P3 (kn:=s) (l:=l) (v0:=some (.sh (dM rs))) (v1:=some (.sh (.dict (stp rs rs.flatten)))) (v3:=some (Hj (ug rs) L)) (v4:=i0 e) (v5:=some (.sh (dI l))) (v6:=v6) G.nd (by lia)
   have sl:=pV l;have lb:(ug rs).length<=rs.length:=by unfold ug;rw[lMq];exact cR _ _
   have l1:((ug rs).map aI++L.map λl=>AV.sh (dI l)).length<qE:=by rw[lAq,lMq,lMq];show _<16777216;lia
   have ea:((ug rs).map aI++L.map λl=>AV.sh (dI l))++[.sh (dI l)]=(ug rs).map aI++(L++[l]).map λl=>.sh (dI l):=by rw[ag,mBq];rfl
   refine⟨[some (.sh (dM rs)),some (.sh (.dict (stp rs rs.flatten))),some (.owd (kI (s++l))),some (Hj (ug rs) (L++[l])),i0 e,some (.sh (dI l)),Q],?_,s++l,L++[l],.sh (.dict (stp rs rs.flatten)),_,_,_,rfl,rfl,λx h=>.inr h.symm,G,by rw[lAq,lSq];lia,λj x u t=>?_⟩
   .unfold Hj at R ⊢
    simp_arith [xy,J,z,X,sl,R,l1,ea]
   .rcases cB.mp u with q|rfl
    .exact mAq.mpr (.inl (n j x q t))
    .rw[I]at t;cases t;exact mAq.mpr (.inr cy.self))
 obtain⟨S',e,s,L,v1,v4,v5,v6,rfl,_,_,hr,_,n⟩:=key;refine⟨_,_,_,_,_,L,e,hr.orb λx t=>?_⟩
 obtain⟨j,u⟩:=aj.mp (O.mem_iff.mpr t);exact n j x (by rw[lMq];exact(gSq.mp u).1) u
def Ea(rs:Λ):(ug rs).length<=rs.length:=by unfold ug;rw[lMq];exact cR _ _
def Ih(B L:Λ):oB (Hj B L)=dM (B++L):=by
 unfold Hj;rw[rJ,mBq,mPq,mPq];show D.list _=D.list ((B++L).map dI);rw[mBq];congr 2
 .exact mCq λr _=>pV r
def Jp(s:Mp rs){L:Λ}(h:KN (fw rs) rs.flatten L):(∀l∈L,l.length<=1000)/\L.length<=1000:=by
 have p:L.flatten.Perm rs.flatten:=(bx h.dj s.hn).mpr h.all;have hl:=s.hl;refine⟨λl n=>?_,?_⟩
 .have:=cE.length_le (aE n);rw[p.length_eq]at this;lia
 .have:∀{L:Λ},(∀l∈L,1<=l.length)->L.length<=L.flatten.length:=λ{L} h=>by
   induction L with
   |nil=>exact aa _
   |cons a L t=>
    have u:=h a (ao ..);have x:=t λl hl=>h l (mCo _ hl)
    rw[lCq,fCq,lAq];lia
  have:=this (L:=L) λl hl=>by obtain⟨e,c⟩:=h.cy l hl;exact c.len
  rw[p.length_eq]at this;lia
def yV(l:Mp rs):∃L,KN (fw rs) rs.flatten L/\pY [dM rs]=some (.ow ((rY ((ug rs++L).map good)).map aI)):=by
 obtain⟨I,J,M,O,P,L,e,s⟩:=N3 l;have hl:=l.hl;have n:=l.hr;have ow:=Nh l;have t:=Uq rs;have u:=PR (rs:=rs) (by lia)
 have z:rs.length<=qE:=by show _<=16777216;lia
 have B:AV.ow ((ug rs).map aI)=Hj (ug rs) []:=by unfold Hj;rw[eB,aNq]
 have st:=Ih (ug rs) L;obtain⟨E,Q⟩:=Jp l s;have bl:=Ea rs;have G:=yH (rs:=ug rs++L) (λr hr=>by
  rcases mAq.mp hr with q|q
  .unfold ug at q;obtain⟨x,_,rfl⟩:=mMq.mp q;exact aT _
  .have:=E r q;lia) (by rw[lAq];show _<=16777216;lia)
 refine⟨L,s,?_⟩;have H:=pV (uk rs.flatten)
 simp_arith [pY,K4,ow,dM,t,z,B,u,H,dI,e,st,G]
end
section
variable {rs:Λ}
def Vv{r:Ϝ}{j:Nat}(l:j<r.length):(K51.rot r)[j]?=r[(j+1) % r.length]?:=by
 unfold K51.rot
 by_cases h:j+1<r.length
 .rw[fN h,gZq (by rw[ax];lia),dB,gS]
 .have e:j+1=r.length:=by lia
  rw[e,gT,gYq (by rw[ax];lia),ax,dX (by lia)]
  congr 1;lia
def P9(t:Mp rs):Bl [dM rs]=some (.owd (K51.xU (K51.qf rs))):=by
 have hn:=t.hn;have hl:=t.hl;have key:=uQ (x:=2) (body:=zI) (λi S=>∃u l,S=[some (.sh (dM rs)),some (.owd (K51.xU (K51.qf (rs.take i)))),u,l]) (ds:=rs.map dI) (S:=[some (.sh (dM rs)),some (.owd []),none,none]) ⟨none,none,rfl⟩ (by
  rintro i d S hd ⟨u,l,rfl⟩;obtain⟨r,hr,rfl⟩:=Bn hd;have H:=t.row hr;have I:=uQ (x:=3) (body:=zA) (λj S=>∃l,S=[some (.sh (dM rs)),some (.owd (K51.xU (K51.qf (rs.take i)++(K51.rH r).take j))),some (.sh (dI r)),l]) (ds:=qd 0 r.length) (S:=[some (.sh (dM rs)),some (.owd (K51.xU (K51.qf (rs.take i)))),some (.sh (dI r)),l]) ⟨l,by simp⟩ (by
   rintro j d S hd ⟨l,rfl⟩;have z:j<r.length:=by
    have:=(gSq.mp hd).1
    rwa [qu]at this
   rw[zQ z,iR]at hd;cases hd;have E:r[j]?=some r[j]:=gEg z;have n:(j+1) % r.length<r.length:=Nat.mod_lt _ (by lia)
   have J:(K51.rot r)[j]?=some r[(j+1) % r.length]:=by rw[Vv z];exact gEg n
   have L:=K51.Ik (j:=j) hl hr;have s:=K51.Md hn hr E J;have M:atI (r.map D.int) (j:Int)=some (.int r[j]):=tu (by rw[gMq,E];rfl)
   have G:=tP (i:=(j:Int)+1) (j:=(r.length:Int)) (by lia)
   have O:((j:Int)+1) % (r.length:Int)=(((j+1) % r.length:Nat):Int):=by push_cast;rfl
   rw[O]at G;have P:atI (r.map D.int) (((j+1) % r.length:Nat):Int)=some (.int r[(j+1) % r.length]):=tu (by rw[gMq,gEg n];rfl)
   refine⟨_,?_,i0 (j:Int),rfl⟩
   simp_arith [zA,dI,M,G,P,L,s])
  obtain⟨T,B,Q,rfl⟩:=I;rw[qu,←K51.xZ,aY]at B;have R:Ht [.int (r.length:Int)]=some (qd 0 r.length):=vn (by lia)
  rw[K51.xZ]at B;refine⟨_,?_,some (.sh (dI r)),Q,rfl⟩;rw[ql hr,K51.He]
  simp_arith [zI,dI,R,B])
 obtain⟨U,e,u,l,rfl⟩:=key;rw[lMq,aY]at e
 simp_arith [Bl,Gn,e]
def QO(rs:Λ):rm (vD (C5 (oj 0))) (qF oC) [] (rs.map dI)=some ((ug rs).map aI):=by
 rw[Z.uN (λd=>decide (xQ d=[])) (λ_=>.ow [])]
 .unfold ug;rw[fc,mPq,mPq];have:(λd=>decide (xQ d=[]))∘dI=λr=>decide (r=[]):=by funext r;show decide (xQ (dI r)=[])=_;rw[tZ]
  rw[this];rfl
 .intro d hd;obtain⟨r,hr,rfl⟩:=Ck hd;rw[tZ];refine⟨[some (.sh (dI r))],?_,λ_=>⟨[some (.sh (dI r))],?_⟩⟩
  .cases r with
   |nil=>
    have t0:Co (dI [])=some false:=rfl
    simp_arith [t0]
   |cons x r=>
    have l:Co (dI (x::r))=some true:=rfl
    simp_arith [l]
  .simp_arith []
noncomputable def mu2(N:Nat):AS->Nat
 | [_,_,_,_,_,some (.ow l),_]=>N+1-l.length
 |_=>0
def RK(B:Mp rs){s:Ϝ}{I:Λ}(hr:Rd (fw rs) rs.flatten s I){e:Int}(x:e∈rs.flatten)(J:e∉s){v0 v3:Option AV}:∃l v6,Cy (fw rs) e l/\rq (rA (sZ (oj 6) (oj 2))) wN 100000 [v0,some (.sh (.fd (K51.xU (K51.qf rs)))),some (.owd (kI s)),v3,i0 e,some (.ow []),i0 e]=some (.nx [v0,some (.sh (.fd (K51.xU (K51.qf rs)))),some (.owd (kI (s++l))),v3,i0 e,some (aI l),v6]):=by
 have one:=Bg B;obtain⟨l,cy,L,G⟩:=one.cy x;have hl:=B.hl;have M:=QU _ _ hr.nd hr.sub;have O:=hr.out cy J;have E:∀n,Z.getD (K51.xU (K51.qf rs)) (.inl (-(itr (fw rs) n e)))=some (.int (itr (fw rs) (n+1) e)):=λn=>TY B.hn (B.hneg _ (one.itr_mem x n))
 have key:=wa (c:=rA (sZ (oj 6) (oj 2))) (body:=wN) (λS=>∃n,n<=l.length/\S=[v0,some (.sh (.fd (K51.xU (K51.qf rs)))),some (.owd (kI (s++l.take n))),v3,i0 e,some (aI (l.take n)),i0 (itr (fw rs) n e)]) (mu2 l.length) (λS=>∃v6,S=[v0,some (.sh (.fd (K51.xU (K51.qf rs)))),some (.owd (kI (s++l))),v3,i0 e,some (aI l),v6]) (by
  rintro S ⟨n,X,rfl⟩;have z:=FK (s++l.take n) (itr (fw rs) n e)
  by_cases hn:n<l.length
  .have t:=cy.at hn;have u:itr (fw rs) n e∉s++l.take n:=λm=>by
    rcases mAq.mp m with q|q
    .exact O _ (mGq t) q
    .have:=aJ.sublist (bj (n+1) l) cy.nd;rw[ql t]at this;exact(nAq.mp this).2.2 _ q _ (by simp) rfl
   rw[d6 u]at z;have H:=Nt u;rw[ag,←ql t]at H;have P:=E n;have Q:(kI (s++l.take n)).length<qE:=by rw[Oa,lAq,lTq];show _<16777216;lia
   have R:(l.take n).length<qE:=by rw[lTq];show _<16777216;lia
   have ap:(l.take n).map (λn=>AV.sh (.int n))++[.sh (.int (itr (fw rs) n e))]=(l.take (n+1)).map λn=>.sh (.int n):=by rw[ql t,mBq];rfl
   refine⟨true,[v0,some (.sh (.fd (K51.xU (K51.qf rs)))),some (.owd (kI (s++l.take n))),v3,i0 e,some (aI (l.take n)),i0 (itr (fw rs) n e)],?_,λ_=>⟨[v0,some (.sh (.fd (K51.xU (K51.qf rs)))),some (.owd (kI (s++l.take (n+1)))),v3,i0 e,some (aI (l.take (n+1))),i0 (itr (fw rs) (n+1) e)],?_,⟨n+1,by lia,rfl⟩,?_⟩,λq=>(nomatch q)⟩
   .simp_arith [z]
   .simp_arith [wN,Q,H,R,ap,P]
   .show l.length+1-_<l.length+1-_;simp only[lMq,lTq];lia
  .have T:n=l.length:=by lia
   subst T;have hb:=cy.back;rw[hb,aY]at z ⊢;rw[d4 (mAq.mpr (.inr cy.self))]at z;refine⟨false,[v0,some (.sh (.fd (K51.xU (K51.qf rs)))),some (.owd (kI (s++l))),v3,i0 e,some (aI l),i0 e],?_,λq=>(nomatch q),λ_=>⟨_,rfl⟩⟩
   simp_arith [z])
 obtain⟨Y,U,v6,rfl⟩:=key 100000 [v0,some (.sh (.fd (K51.xU (K51.qf rs)))),some (.owd (kI s)),v3,i0 e,some (.ow []),i0 e] ⟨0,aT _,by simp[itr]⟩ (by
  show l.length+1-0<100000;lia)
 exact⟨l,v6,cy,U⟩
def Ky(B:Mp rs):∃v2 v4 v5 v6 L,qR 4 uY (rs.flatten.map D.int) [some (.sh (dM rs)),some (.sh (.fd (K51.xU (K51.qf rs)))),some (.owd []),some (Hj (ug rs) []),none,none,none]=some (.nx [some (.sh (dM rs)),some (.sh (.fd (K51.xU (K51.qf rs)))),v2,some (Hj (ug rs) L),v4,v5,v6])/\KN (fw rs) rs.flatten L:=by
 have one:=Bg B;have hl:=B.hl;have H:=B.hr;have key:=uQ (x:=4) (body:=uY) (λi S=>∃s L v4 v5 v6,S=[some (.sh (dM rs)),some (.sh (.fd (K51.xU (K51.qf rs)))),some (.owd (kI s)),some (Hj (ug rs) L),v4,v5,v6]/\Rd (fw rs) rs.flatten s L/\L.length<=i/\∀j x,j<i->rs.flatten[j]?=some x->x∈s) (ds:=rs.flatten.map D.int) (S:=[some (.sh (dM rs)),some (.sh (.fd (K51.xU (K51.qf rs)))),some (.owd []),some (Hj (ug rs) []),none,none,none]) ⟨[],[],none,none,none,rfl,⟨by simp,rfl,aV,by simp,by simp⟩,aa _,λj x h=>absurd h (cG _)⟩ (by
  rintro i d S hd ⟨s,L,v4,v5,v6,rfl,hr,O,n⟩;rw[gMq]at hd;obtain⟨e,E,rfl⟩:=oMq.mp hd;have hi:=(gSq.mp E).1;have z:e∈rs.flatten:=mGq E;have G:=FK s e
  by_cases c:e∈s
  .rw[d4 c]at G;refine⟨[some (.sh (dM rs)),some (.sh (.fd (K51.xU (K51.qf rs)))),some (.owd (kI s)),some (Hj (ug rs) L),i0 e,v5,v6],?_,s,L,_,_,_,rfl,hr,by lia,λj x u t=>?_⟩
   .simp_arith [uY,G]
   .rcases cB.mp u with q|rfl
    .exact n j x q t
    .rw[E]at t;cases t;exact c
  .rw[d6 c]at G;obtain⟨l,I,cy,M⟩:=RK B hr z c (v0:=some (.sh (dM rs))) (v3:=some (Hj (ug rs) L));have J:=hr.add one cy z c;have P:=pV l;have lb:=Ea rs;have Q:((ug rs).map aI++L.map λl=>AV.sh (dI l)).length<qE:=by rw[lAq,lMq,lMq];show _<16777216;lia
   have R:((ug rs).map aI++L.map λl=>AV.sh (dI l))++[.sh (dI l)]=(ug rs).map aI++(L++[l]).map λl=>.sh (dI l):=by rw[ag,mBq];rfl
   refine⟨[some (.sh (dM rs)),some (.sh (.fd (K51.xU (K51.qf rs)))),some (.owd (kI (s++l))),some (Hj (ug rs) (L++[l])),i0 e,some (.sh (dI l)),I],?_,s++l,L++[l],_,_,_,rfl,J,by rw[lAq,lSq];lia,λj x u t=>?_⟩
   .unfold Hj at M ⊢
    simp_arith [uY,G,M,P,Q,R]
   .rcases cB.mp u with q|rfl
    .exact mAq.mpr (.inl (n j x q t))
    .rw[E]at t;cases t;exact mAq.mpr (.inr cy.self))
 obtain⟨T,e,s,L,v4,v5,v6,rfl,hr,_,n⟩:=key;refine⟨_,_,_,_,L,e,hr.orb λx t=>?_⟩
 obtain⟨j,u⟩:=aj.mp t;exact n j x (by rw[lMq];exact(gSq.mp u).1) u
def QB(l:Mp rs):∃L,KN (fw rs) rs.flatten L/\vN [dM rs]=some (.ow ((rY ((ug rs++L).map good)).map aI)):=by
 obtain⟨J,M,O,P,L,e,t⟩:=Ky l;have hl:=l.hl;have n:=l.hr;have u:=P9 l;have z:=Y7 rs;have B:=QO rs;have E:rs.length<=qE:=by show _<=16777216;lia
 have G:AV.ow ((ug rs).map aI)=Hj (ug rs) []:=by unfold Hj;rw[eB,aNq]
 have st:=Ih (ug rs) L;obtain⟨H,Q⟩:=Jp l t;have bl:=Ea rs;have I:=K13.VN (rs:=ug rs++L) (λr hr=>by
  rcases mAq.mp hr with q|q
  .unfold ug at q;obtain⟨x,_,rfl⟩:=mMq.mp q;exact aT _
  .have:=H r q;lia) (by rw[lAq];show _<=16777216;lia)
 refine⟨L,t,?_⟩;have s:((4:Nat)≠1)=True:=by simp
 simp_arith [vN,G3,u,dM,B,E,G,s,z,e,st,I]
def NK(n:Mp rs):∃G:Λ,pY [dM rs]=some (.ow (G.map aI))/\vN [dM rs]=some (.ow (G.map aI))/\G.flatten.Perm rs.flatten/\G.length<=1000+rs.length:=by
 obtain⟨L,s,t⟩:=yV n;obtain⟨M,u,z⟩:=QB n;have B:((ug rs++L).map good).Perm ((ug rs++M).map good):=by
  rw[mBq,mBq];exact bY.append_left _ (s.perm (Bg n) u)
 refine⟨rY ((ug rs++L).map good),t,by rw[z,BK B],?_,?_⟩
 .refine(qJ (pJ _)).trans ((pO pD _).trans ?_);have E:L.flatten.Perm rs.flatten:=(bx s.dj n.hn).mpr s.all;have hb:(ug rs).flatten=[]:=by
   unfold ug;refine df.mpr λl hl=>?_
   obtain⟨x,_,rfl⟩:=mMq.mp hl;rfl
  rw[fAq,hb,bA];exact E
 .have:=(Jp n s).2;have:=Ea rs;rw[sH,lMq,lAq];lia
end
end K15
namespace K16
open PySem L2 Mr Z Xe Zl
def WU{i j:Int}(h:0<j)(l:j.natAbs.log2<9000):U6 (.int i) (.int j)=some (.int (i / j)):=vS ⟨h,l⟩ _
noncomputable def aeJ:E5 (.int 10) (.int 57)=some (.int (10 ^ 57)):=by simp_arith []
noncomputable def adC:E5 (.int 10) (.int 59)=some (.int (10 ^ 59)):=by simp_arith []
noncomputable def pm(l:Ϝ):Ϝ:=l.flatMap λx=>[x, -x]
def Yo(l:Ϝ)(x:Int):pm (l++[x])=pm l++[x, -x]:=by unfold pm;rw[iF];simp
def Sy(l:Ϝ):(pm l).length=2*l.length:=by
 unfold pm
 induction l with
 |nil=>rfl
 |cons a l n=>
  rw[iV,lAq,n,lCq (as:=l)];show 2+_=_;lia
def aak{l:Ϝ}{z:Int}(h:z∈pm l):-z∈pm l:=by
 unfold pm at h ⊢;rw[fM]at h ⊢;obtain⟨x,n,s⟩:=h;refine⟨x,n,?_⟩;rcases ab.mp s with e|e
 .rw[e];simp
 .rw[mSq.mp e,bp];simp
def afw{s0 s1:Option AV}{c:Int}{n:Nat}(hn:n<=30):∃s l last v5,qR 5 Ae (qd 0 n) [s0,s1,i0 0,i0 c,some (.ow []),none,none,none,none,none,none,none,none]=some (.nx [s0,s1,i0 last,i0 s,some (aI (pm l)),v5,none,none,none,none,none,none,none])/\l.length=n/\l.Nodup/\(∀z∈l,1<=z):=by
 have key:=uQ (x:=5) (body:=Ae) (λi S=>∃s l last v5,S=[s0,s1,i0 last,i0 s,some (aI (pm l)),v5,none,none,none,none,none,none,none]/\l.length=i/\l.Nodup/\(∀z∈l,1<=z/\z<=last)/\0<=last) (ds:=qd 0 n) (S:=[s0,s1,i0 0,i0 c,some (.ow []),none,none,none,none,none,none,none,none])
  ⟨c,[],0,none,rfl,rfl,aV,λz t=>(by cases t),by decide⟩ (by
  rintro i d S hd ⟨s,l,last,v5,rfl,hl,u,hr,B⟩;have hi:i<n:=by
   have:=(gSq.mp hd).1
   rwa [qu]at this
  have E:=tP (i:=s) (j:=10 ^ 57) (by decide)
  have M:=bP s (b:=10 ^ 57) (by decide)
  have G:=WU (i:=s) (j:=10 ^ 57) (by decide) (by trivial)
  have H:=aeJ;have I:(pm l).length+2<=qE:=by rw[Sy];show _<=16777216;lia
  generalize J:last+1+s % 10 ^ 57=x;have L:last+1<=x:=by lia
  have ap:(pm l).map (λn=>AV.sh (.int n))++[.sh (.int x),.sh (.int (-x))]=(pm (l++[x])).map λn=>.sh (.int n):=by rw[Yo,mBq];rfl
  refine⟨[s0,s1,i0 x,i0 (s / 10 ^ 57),some (aI (pm (l++[x]))),some (.sh d),none,none,none,none,none,none,none],?_,s / 10 ^ 57,l++[x],x,some (.sh d),rfl,by rw[lAq,hl];rfl,?_,?_,by lia⟩
  .simp_arith [Ae,H,E,J,G,I,ap]
  .rw[nAq];refine⟨u,by simp,λa ha b hb e=>?_⟩
   rw[mSq.mp hb]at e;have:=hr a ha;lia
  .intro z t;rcases mAq.mp t with t|t
   .have:=hr z t;exact⟨this.1,by lia⟩
   .rw[mSq.mp t];exact⟨by lia,gg _⟩)
 obtain⟨O,e,s,l,last,v5,rfl,hl,u,hr,B⟩:=key;rw[qu]at hl;exact⟨s,l,last,v5,e,hl,u,λz t=>(hr z t).1⟩
noncomputable def Ez(M:List (Int×Int)):List (pE×D):=M.map λp=>(.inl p.1,.int p.2)
def Yd(M:List (Int×Int)):(Ez M).length=M.length:=lMq _
def YH(M:List (Int×Int)):Ez M=K51.xU (M.map λp=>((aO p.1:pE),p.2)):=by unfold Ez K51.xU;rw[mPq];rfl
def Te{M:List (Int×Int)}{z x:Int}(h:z∉M.map (·.1)):Ax (Ez M) (.inl z) (.int x)=Ez (M++[(z,x)]):=by
 rw[Dz]
 .unfold Ez;rw[mBq];rfl
 .intro m;obtain⟨p,l,n⟩:=mMq.mp m;obtain⟨q,s,rfl⟩:=mMq.mp l;exact h (mMq.mpr ⟨q,s,aO.inj n⟩)
theorem erase_map{α β:Type}(f:α->β):∀(l:List α) (k:Nat),(l.map f).eraseIdx k=(l.eraseIdx k).map f
 | [],_=>rfl
 |a::l,0=>rfl
 |a::l,k+1=>by
  rw[ai,cj,cj,ai,erase_map f l k]
def afD{E:Ϝ}{s0 s1 s2 s5:Option AV}{cl:Int}(T:E.Nodup)(hl:E.length<=60):∃v6 v3 M v8,qR 8 Ad (E.map D.int) [s0,s1,s2,i0 cl,some (.sh (dI E)),s5,some (aI E),some (.owd []),none,none,none,none,none]=some (.nx [s0,s1,s2,v3,some (.sh (dI E)),s5,v6,some (.owd (Ez M)),v8,none,none,none,none])/\M.map (·.1)=E/\∀p∈M,p.2∈E:=by
 have key:=uQ (x:=8) (body:=Ad) (λi S=>∃left cell M v8,S=[s0,s1,s2,i0 cell,some (.sh (dI E)),s5,some (aI left),some (.owd (Ez M)),v8,none,none,none,none]/\left.length+i=E.length/\(∀x∈left,x∈E)/\M.map (·.1)=E.take i/\∀p∈M,p.2∈E) (ds:=E.map D.int) (S:=[s0,s1,s2,i0 cl,some (.sh (dI E)),s5,some (aI E),some (.owd []),none,none,none,none,none])
  ⟨E,cl,[],none,rfl,rfl,λ_ h=>h,rfl,λp G=>(by cases G)⟩ (by
  rintro i d S hd ⟨l,cell,M,v8,rfl,U,H,t,I⟩;rw[gMq]at hd;obtain⟨z,J,rfl⟩:=oMq.mp hd;have hi:i<E.length:=(gSq.mp J).1;have s:(0:Int)<((l.length:Nat):Int):=by lia
  have X:=tP (i:=cell) (j:=((l.length:Nat):Int)) s;have b0:=bP cell (b:=((l.length:Nat):Int)) (by lia)
  have b1:=bJ cell s;obtain⟨k,hk⟩:∃k:Nat,cell % ((l.length:Nat):Int)=(k:Int):=⟨(cell % ((l.length:Nat):Int)).toNat,by lia⟩
  have Q:k<l.length:=by lia
  obtain⟨x,R⟩:∃x,l[k]?=some x:=⟨_,gEg Q⟩;have L:(l.map λn=>AV.sh (D.int n))[k]?=i0 x:=by rw[gMq,R];rfl
  have Y:(0:Int)<=(k:Int):=by lia
  have c2:(k:Int)<((l.length:Nat):Int):=by lia
  have c3:l.length<=qE:=by show _<=16777216;lia
  have he:=erase_map (λn=>AV.sh (D.int n)) l k
  have u:(l.eraseIdx k).length=l.length-1:=List.length_eraseIdx_of_lt Q;have d1:=Aa (i:=cell) (j:=((l.eraseIdx k).length:Int)+1) (by lia) (by rw[u];lia)
  have tn:=cu k;have O:z∉M.map (·.1):=by
   rw[t];intro m;have:=aJ.sublist (bj (i+1) E) T;rw[ql J]at this;exact(nAq.mp this).2.2 z m z (by simp) rfl
  have B:=Te (x:=x) O;have P:(Ez M).length<qE:=by
   rw[Yd];have:=congrArg bV t;rw[lMq,lTq]at this;show _<16777216;lia
  refine⟨[s0,s1,s2,i0 (cell / (((l.eraseIdx k).length:Int)+1)),some (.sh (dI E)),s5,some (aI (l.eraseIdx k)),some (.owd (Ez (M++[(z,x)]))),i0 z,none,none,none,none],?_,_,_,_,_,rfl,by rw[u];lia,λy hy=>H y (List.mem_of_mem_eraseIdx hy),?_,?_⟩
  .simp_arith [Ad,aI,X,hk,Y,c2,c3,and_self,tn,L,he,P,B,d1]
  .rw[ql J,←t,mBq];rfl
  .intro p G;rcases mAq.mp G with q|q
   .exact I p q
   .rw[mSq.mp q];exact H x (mGq R))
 obtain⟨S',e,left,cell,M,v8,rfl,U,H,t,I⟩:=key;rw[lMq,aY]at t;exact⟨_,_,M,v8,e,t,I⟩
def kv_get{E:Ϝ}{M:List (Int×Int)}(s:E.Nodup)(l:M.map (·.1)=E)(t:∀p∈M,p.2∈E){z:Int}(hz:z∈E):∃y,y∈E/\Z.getD (Ez M) (.inl z)=some (.int y):=by
 rw[←l]at hz;obtain⟨p,n,rfl⟩:=mMq.mp hz;refine⟨p.2,t p n,?_⟩;rw[YH];refine K15.AD ?_ (mMq.mpr ⟨p,n,rfl⟩);rw[mPq,aG,bf];have:=aG.mp (l ▸ s);rw[bf]at this;exact this.imp λh e=>h (aO.inj e)
noncomputable def mu3(N:Nat):AS->Nat
 | [_,_,_,_,_,_,_,_,_,_,_,some (.ow l),_]=>N+1-l.length
 |_=>0
def af1{E:Ϝ}{M:List (Int×Int)}{kn:Ϝ}{s0 s1 s2 s3 s4 s5 s6 s9:Option AV}(P:E.Nodup)(hl:E.length<=60)(Q:M.map (·.1)=E)(R:∀p∈M,p.2∈E)(hk:kn.Nodup)(T:∀x∈kn,x∈E){e:Int}(U:e∈E):∃t z,rq (rA (sZ (oj 8) (oj 10))) zq 100000 [s0,s1,s2,s3,s4,s5,s6,some (.owd (Ez M)),i0 e,s9,some (.owd (K15.kI kn)),some (.ow []),none]=some (.nx [s0,s1,s2,s3,s4,s5,s6,some (.owd (Ez M)),i0 z,s9,some (.owd (K15.kI (kn++t))),some (aI t),none])/\(kn++t).Nodup/\(∀x∈kn++t,x∈E)/\e∈kn++t:=by
 have key:=wa (c:=rA (sZ (oj 8) (oj 10))) (body:=zq) (λS=>∃t z,S=[s0,s1,s2,s3,s4,s5,s6,some (.owd (Ez M)),i0 z,s9,some (.owd (K15.kI (kn++t))),some (aI t),none]/\z∈E/\(kn++t).Nodup/\(∀x∈kn++t,x∈E)/\(z=e∨e∈kn++t)) (mu3 60) (λS=>∃t z,S=[s0,s1,s2,s3,s4,s5,s6,some (.owd (Ez M)),i0 z,s9,some (.owd (K15.kI (kn++t))),some (aI t),none]/\(kn++t).Nodup/\(∀x∈kn++t,x∈E)/\e∈kn++t) (by
  rintro S ⟨t,z,rfl,J,hn,l,s⟩;have H:=K15.FK (kn++t) z;have I:=QU _ _ hn l;rw[lAq]at I
  by_cases c:z∈kn++t
  .rw[d4 c]at H;refine⟨false,[s0,s1,s2,s3,s4,s5,s6,some (.owd (Ez M)),i0 z,s9,some (.owd (K15.kI (kn++t))),some (aI t),none],?_,λq=>(nomatch q),λ_=>⟨t,z,rfl,hn,l,?_⟩⟩
   .simp_arith [H]
   .rcases s with q|q
    .rw[←q];exact c
    .exact q
  .rw[d6 c]at H;have L:=K15.Nt c;rw[ag]at L;obtain⟨y,X,Y⟩:=kv_get P Q R J;have u:(kn++(t++[z])).Nodup:=by
    rw[←ag,nAq];exact⟨hn,by simp,λa ha b hb q=>c (by rw[mSq.mp hb]at q;exact q ▸ ha)⟩
   have B:∀x∈kn++(t++[z]),x∈E:=λx O=>by
    rw[←ag]at O;rcases mAq.mp O with q|q
    .exact l x q
    .rw[mSq.mp q];exact J
   have G:=QU _ _ u B;rw[lAq,lAq,lSq]at G;have l1:(K15.kI (kn++t)).length<qE:=by rw[K15.Oa,lAq];show _<16777216;lia
   have l2:t.length<qE:=by show _<16777216;lia
   have ap:t.map (λn=>AV.sh (.int n))++[.sh (.int z)]=(t++[z]).map λn=>.sh (.int n):=by rw[mBq];rfl
   refine⟨true,[s0,s1,s2,s3,s4,s5,s6,some (.owd (Ez M)),i0 z,s9,some (.owd (K15.kI (kn++t))),some (aI t),none],?_,λ_=>⟨[s0,s1,s2,s3,s4,s5,s6,some (.owd (Ez M)),i0 y,s9,some (.owd (K15.kI (kn++(t++[z])))),some (aI (t++[z])),none],?_,⟨t++[z],y,rfl,X,u,B,?_⟩,?_⟩,λq=>(nomatch q)⟩
   .simp_arith [H]
   .simp_arith [zq,l1,L,l2,ap,Y]
   .refine .inr ?_;rcases s with q|q
    .rw[←q];simp
    .rw[←ag];exact mAq.mpr (.inl q)
   .show 60+1-_<60+1-_;simp only[lMq,lAq,lSq];lia)
 obtain⟨S',ew,t,z,rfl,h1,h2,h3⟩:=key 100000 [s0,s1,s2,s3,s4,s5,s6,some (.owd (Ez M)),i0 e,s9,some (.owd (K15.kI kn)),some (.ow []),none] ⟨[],e,by simp,U,by simpa using hk,by simpa using T,.inl rfl⟩ (by
  show 60+1-0<100000;lia)
 exact⟨t,z,ew,h1,h2,h3⟩
def afZ{E:Ϝ}{M:List (Int×Int)}{s0 s1 s2 s3 s5 s6 v8:Option AV}(J:E.Nodup)(hl:E.length<=60)(R:M.map (·.1)=E)(T:∀p∈M,p.2∈E):∃TT kn u l,qR 8 xK (E.map D.int) [s0,s1,s2,s3,some (.sh (dI E)),s5,s6,some (.owd (Ez M)),v8,some (.ow []),some (.owd []),none,none]=some (.nx [s0,s1,s2,s3,some (.sh (dI E)),s5,s6,some (.owd (Ez M)),u,some (K13.oM TT),some (.owd (K15.kI kn)),l,none])/\TT.flatten=kn/\kn.Perm E/\TT.length<=60:=by
 have key:=uQ (x:=8) (body:=xK) (λi S=>∃TT kn v8 l,S=[s0,s1,s2,s3,some (.sh (dI E)),s5,s6,some (.owd (Ez M)),v8,some (K13.oM TT),some (.owd (K15.kI kn)),l,none]/\TT.flatten=kn/\kn.Nodup/\(∀x∈kn,x∈E)/\(∀x∈E.take i,x∈kn)/\TT.length<=i) (ds:=E.map D.int) (S:=[s0,s1,s2,s3,some (.sh (dI E)),s5,s6,some (.owd (Ez M)),v8,some (.ow []),some (.owd []),none,none])
  ⟨[],[],v8,none,rfl,rfl,aV,λ_ h=>(by cases h),λ_ h=>(by cases h),aa _⟩ (by
  rintro i d S hd ⟨TT,kn,v8,l,rfl,s,hk,B,ha,L⟩;rw[gMq]at hd;obtain⟨e,G,rfl⟩:=oMq.mp hd;have hi:i<E.length:=(gSq.mp G).1;have H:=mGq G;obtain⟨t,z,I,O,P,U⟩:=af1 (s0:=s0) (s1:=s1) (s2:=s2) (s3:=s3) (s4:=some (.sh (dI E))) (s5:=s5) (s6:=s6) (s9:=some (K13.oM TT)) J hl R T hk B H;have n:∀x∈E.take (i+1),x∈kn++t:=λx Q=>by
   rw[ql G]at Q;rcases mAq.mp Q with q|q
   .exact mAq.mpr (.inl (ha x q))
   .rw[mSq.mp q];exact U
  unfold K13.oM at I ⊢
  by_cases c:t=[]
  .subst c;have t0:Co (dI [])=some false:=rfl;refine⟨[s0,s1,s2,s3,some (.sh (dI E)),s5,s6,some (.owd (Ez M)),i0 z,some (.ow (TT.map λr=>.sh (dI r))),some (.owd (K15.kI (kn++[]))),some (aI []),none],?_,TT,kn++[],_,_,rfl,by rw[aNq];exact s,O,P,n,by lia⟩
   have s0:=pV [];have X:aI [] = .ow []:=rfl
   simp_arith [xK,I,s0,t0]
  .have Y:Co (dI t)=some true:=K12.Y3 c;have st:=pV t;have l1:TT.length<qE:=by show _<16777216;lia
   have ap:(TT.map λr=>AV.sh (dI r))++[.sh (dI t)]=(TT++[t]).map λr=>.sh (dI r):=by rw[mBq];rfl
   refine⟨[s0,s1,s2,s3,some (.sh (dI E)),s5,s6,some (.owd (Ez M)),i0 z,some (.ow ((TT++[t]).map λr=>.sh (dI r))),some (.owd (K15.kI (kn++t))),some (.sh (dI t)),none],?_,TT++[t],kn++t,_,_,rfl,by rw[fAq,s,aQ],O,P,n,by rw[lAq,lSq];lia⟩
   simp_arith [xK,I,st,Y,l1,ap])
 obtain⟨S',e,TT,kn,v8,l,rfl,s,hk,B,ha,L⟩:=key;rw[lMq]at L ha;rw[aY]at ha;exact⟨TT,kn,v8,l,e,s,(bx hk J).mpr λx=>⟨B x,ha x⟩,by lia⟩
noncomputable def above(kn:Ϝ)(n:Int):Nat:=kn.countP λk=>decide (n<=k)
def RS(kn:Ϝ)(n:Int):above kn n<=kn.length:=fO
theorem LZ:∀{kn:Ϝ}{n:Int},n∈kn->above kn (n+1)<above kn n
 |a::kn,n,h=>by
  have mono:∀l:Ϝ,above l (n+1)<=above l n:=λl=>ie λx _ s=>by
   have:=of_decide_eq_true s;exact d4 (by lia)
  unfold above;rw[bT,bT];have m:=mono kn;unfold above at m;rcases ab.mp h with e|e
  .subst e;have t:decide (n+1<=n)=false:=d6 (by lia)
   have u:decide (n<=n)=true:=d4 (by lia)
   rw[t,u];simp only[if_true,eE,if_false];lia
  .have z:=LZ e;unfold above at z;have:(if decide (n+1<=a)=true then 1 else 0)<=(if decide (n<=a)=true then 1 else 0):=by
    by_cases c:n+1<=a
    .rw[d4 c,d4 (show n<=a by lia)];exact aa _
    .rw[d6 c];exact aT _
   lia
def N7(kn:Ϝ)(n:Int):above kn (n+1)<=above kn n:=ie λx _ l=>by
 have:=of_decide_eq_true l;exact d4 (by lia)
def mu4(kn:Ϝ):AS->Nat
 | [_,_,some (.sh (.int n)),_,_,_,_,_,_,_,_,_,some (.ow l)]=>66-l.length+above kn n
 |_=>0
def afq{kn:Ϝ}{s0 s1 s3 s4 s5 s6 s7 s8 s9 s11:Option AV}(hl:kn.length<=60){n:Int}:∃nm v2,rq (rA (oV M0 (tT qM (oi (oj 12) ox)) (rC (.int 66)))) xu 100000 [s0,s1,i0 n,s3,s4,s5,s6,s7,s8,s9,some (.owd (K15.kI kn)),s11,some (.ow [])]=some (.nx [s0,s1,v2,s3,s4,s5,s6,s7,s8,s9,some (.owd (K15.kI kn)),s11,some (aI nm)])/\nm.length=66/\∀x∈nm,n<=x/\x∉kn:=by
 have key:=wa (c:=rA (oV M0 (tT qM (oi (oj 12) ox)) (rC (.int 66)))) (body:=xu) (λS=>∃nm m,S=[s0,s1,i0 m,s3,s4,s5,s6,s7,s8,s9,some (.owd (K15.kI kn)),s11,some (aI nm)]/\n<=m/\nm.length<=66/\∀x∈nm,n<=x/\x∉kn) (mu4 kn) (λS=>∃nm v2,S=[s0,s1,v2,s3,s4,s5,s6,s7,s8,s9,some (.owd (K15.kI kn)),s11,some (aI nm)]/\nm.length=66/\∀x∈nm,n<=x/\x∉kn) (by
  rintro S ⟨nm,m,rfl,E,z,l⟩
  by_cases c:nm.length<66
  .have s:((nm.length:Nat):Int)<66:=by lia
   have t:=K15.FK kn m
   by_cases u:m∈kn
   .rw[d4 u]at t;refine⟨true,[s0,s1,i0 m,s3,s4,s5,s6,s7,s8,s9,some (.owd (K15.kI kn)),s11,some (aI nm)],?_,λ_=>⟨[s0,s1,i0 (m+1),s3,s4,s5,s6,s7,s8,s9,some (.owd (K15.kI kn)),s11,some (aI nm)],?_,⟨nm,m+1,rfl,by lia,z,l⟩,?_⟩,λq=>(nomatch q)⟩
    .simp_arith [s]
    .simp_arith [xu,t]
    .show 66-_+above kn (m+1)<66-_+above kn m;have:=LZ u;lia
   .rw[d6 u]at t;have G:nm.length<qE:=by show _<16777216;lia
    have ap:nm.map (λn=>AV.sh (.int n))++[.sh (.int m)]=(nm++[m]).map λn=>.sh (.int n):=by rw[mBq];rfl
    refine⟨true,[s0,s1,i0 m,s3,s4,s5,s6,s7,s8,s9,some (.owd (K15.kI kn)),s11,some (aI nm)],?_,λ_=>⟨[s0,s1,i0 (m+1),s3,s4,s5,s6,s7,s8,s9,some (.owd (K15.kI kn)),s11,some (aI (nm++[m]))],?_,⟨nm++[m],m+1,rfl,by lia,by rw[lAq,lSq];lia,λx B=>?_⟩,?_⟩,λq=>(nomatch q)⟩
    .simp_arith [s]
    .simp_arith [xu,t,G,ap]
    .rcases mAq.mp B with q|q
     .exact l x q
     .rw[mSq.mp q];exact⟨E,u⟩
    .show 66-((nm++[m]).map λn=>AV.sh (.int n)).length+above kn (m+1)<66-(nm.map λn=>AV.sh (.int n)).length+above kn m
     have:=N7 kn m;rw[lMq,lMq,lAq,lSq];lia
  .have s:¬ ((nm.length:Nat):Int)<66:=by lia
   refine⟨false,[s0,s1,i0 m,s3,s4,s5,s6,s7,s8,s9,some (.owd (K15.kI kn)),s11,some (aI nm)],?_,λq=>(nomatch q),λ_=>⟨nm,_,rfl,by lia,l⟩⟩
   simp_arith [s])
 obtain⟨L,H,nm,v2,rfl,I,J⟩:=key 100000 [s0,s1,i0 n,s3,s4,s5,s6,s7,s8,s9,some (.owd (K15.kI kn)),s11,some (.ow [])] ⟨[],n,rfl,gg _,aT _,λx l=>(by cases l)⟩ (by
  show 66-0+above kn n<100000;have:=RS kn n;lia)
 exact⟨nm,v2,H,I,J⟩
structure Tn (T:Λ):Prop where
 nd:T.flatten.Nodup
 neg:∀z∈T.flatten, -z∈T.flatten
 le:T.flatten.length<=126
 len:T.length<=128
 nz:∀z∈T.flatten,z≠0
def E9(ns:Ϝ){k:Nat}(hk:k<1000):∃c:Int,oA [.scr ns,.int (k:Int)]=i0 c:=⟨_,DF ns (by lia)⟩
def acj(ns:Ϝ):∃(T:Λ) (nm:Ϝ),CP [.scr ns]=some (.sh (.tup [dM T,dI nm]))/\Tn T/\nm.length=66/\∀x∈nm,1<=x/\x∉T.flatten:=by
 obtain⟨t,O⟩:=E9 ns (k:=1) (by lia)
 obtain⟨c2,P⟩:=E9 ns (k:=2) (by lia)
 obtain⟨c3,Q⟩:=E9 ns (k:=3) (by lia)
 obtain⟨I,R⟩:=E9 ns (k:=4) (by lia)
 have O:oA [.scr ns,.int 1]=i0 t:=O;have P:oA [.scr ns,.int 2]=i0 c2:=P;have Q:oA [.scr ns,.int 3]=i0 c3:=Q;have R:oA [.scr ns,.int 4]=i0 I:=R;have m1:=tP (i:=t) (j:=31) (by decide)
 have b0:=bP t (b:=31) (by decide)
 have b1:=bJ t (b:=31) (by decide)
 obtain⟨n,hn⟩:∃n:Nat,t % 31=(n:Int):=⟨(t % 31).toNat,by lia⟩
 obtain⟨c',l,last,S,a0,ll,ln,lp⟩:=afw (s0:=some (.sh (.scr ns))) (s1:=i0 (n:Int)) (c:=c2) (n:=n) (by lia)
 have U:=vn (n:=n) (by lia)
 have J:(pm l).Nodup:=K12.GE ln lp;have gE:∀z∈pm l, -z∈pm l:=λz u=>aak u
 have L:(pm l).length<=60:=by rw[Sy];lia
 have zE:∀z∈pm l,z≠0:=λz u q=>by
  obtain⟨y,hy,c⟩:=fM.mp u;have:=lp y hy;simp at c;lia
 generalize pm l=E at a0 J gE L zE;obtain⟨v6,v3,M,v8,a1,hM,hv⟩:=afD (s0:=some (.sh (.scr ns))) (s1:=i0 (n:Int)) (s2:=i0 last) (s5:=S) (cl:=c3) J L;obtain⟨TT,kn,X,Y,a3,G,B,hT⟩:=afZ (s0:=some (.sh (.scr ns))) (s1:=i0 (n:Int)) (s2:=i0 last) (s3:=v3) (s5:=S) (s6:=v6) (v8:=v8) J L hM hv;have p59:=adC;have m4:=tP (i:=I) (j:=10 ^ 59) (by decide)
 have m40:=bP I (b:=10 ^ 59) (by decide)
 obtain⟨nm,v2,a4,hnm,hx⟩:=afq (kn:=kn) (s0:=some (.sh (.scr ns))) (s1:=i0 (n:Int)) (s3:=v3) (s4:=some (.sh (dI E))) (s5:=S) (s6:=v6) (s7:=some (.owd (Ez M))) (s8:=X) (s9:=some (K13.oM TT)) (s11:=Y) (by rw[B.length_eq];exact L) (n:=1+I % 10 ^ 59)
 have d1:=Aa (i:=t) (j:=31) (by decide) (by decide)
 have m2:=tP (i:=t / 31) (j:=4) (by decide)
 have b2:=bP (t / 31) (b:=4) (by decide)
 have b3:=bJ (t / 31) (b:=4) (by decide)
 obtain⟨b,hb⟩:∃b:Nat,t / 31 % 4=(b:Int):=⟨(t / 31 % 4).toNat,by lia⟩
 have hrb:=vn (n:=b) (by lia)
 have lb:=qu 0 b;have lb2:b<=qE:=by show _<=16777216;lia
 have H:=Vh b;have s:(TT++ay b []).flatten=TT.flatten:=by
  rw[fAq];have:(ay b ([]:Ϝ)).flatten=[]:=by simp
  rw[this,aNq]
 refine⟨TT++ay b [],nm,?_,⟨?_,?_,?_,?_,?_⟩,hnm,λx h=>?_⟩
 .have lT:TT.length+b<=qE:=by show _<=16777216;lia
  have sE:=pV E;have snm:=pV nm;have sR:(ay b (AV.ow [])).map oB=(ay b ([]:Ϝ)).map dI:=by rw[dD,dD];rfl
  have sT:((TT.map dI++(ay b ([]:Ϝ)).map dI).map AV.sh).map oB=(TT++ay b []).map dI:=by
   rw[←mBq,mPq];exact(mCq (g:=id) λ_ _=>rfl).trans (de _)
  unfold K13.oM at a3 a4
  simp_arith -implicitDefEqProofs [CP,Lm,O,P,Q,R,m1,hn,U,a0,sE,a1,a3,p59,m4,a4,d1,m2,hb,hrb,lb,lb2,H,cM,lT,sR,snm,sT]
 .rw[s,G,B.nodup_iff];exact J
 .rw[s,G];exact λz u=>B.mem_iff.mpr (gE z (B.mem_iff.mp u))
 .rw[s,G,B.length_eq];lia
 .rw[lAq,cM];lia
 .rw[s,G];exact λz u=>zE z (B.mem_iff.mp u)
 .have:=hx x h;rw[s,G];exact⟨by lia,this.2⟩
end K16
namespace K16
open PySem L2 Mr Z Xe Zl K15
section
variable {rs:Λ}
def UI(hn:rs.flatten.Nodup){r:Ϝ}(hr:r∈rs){j:Nat}{z y:Int}(hz:r[j]?=some z)(l:r[(j+1) % r.length]?=some y):nx rs z=y:=by
 have n:=(gSq.mp hz).1;have s:=K51.G7 hz ((Vv n).trans l);have t:(aO z,y)∈K51.qf rs:=by
  unfold K51.qf;exact mFq.mpr ⟨_,mMq.mpr ⟨r,hr,rfl⟩,mGq s⟩
 have u:=AD (JW hn) t;unfold nx;rw[u]
theorem O9(hn:rs.flatten.Nodup){r:Ϝ}(hr:r∈rs){e:Int}(l:r[0]?=some e):∀n,r[n % r.length]?=some (itr (nx rs) n e)
 |0=>by rw[Nat.zero_mod];exact l
 |n+1=>by
  have u:0<r.length:=(gSq.mp l).1;have x:=O9 hn hr l n;have z:(n+1) % r.length<r.length:=Nat.mod_lt _ u;have s:(n % r.length+1) % r.length=(n+1) % r.length:=by rw[Nat.mod_add_mod]
  obtain⟨y,t⟩:∃y,r[(n+1) % r.length]?=some y:=⟨_,gEg z⟩;have:=UI hn hr x (s ▸ t);rw[t,←this];rfl
def Vm(hn:rs.flatten.Nodup){r:Ϝ}(hr:r∈rs){e:Int}(l:r[0]?=some e):Cy (nx rs) e r:=by
 have s:0<r.length:=(gSq.mp l).1;have n:=O9 hn hr l;refine⟨s,?_,?_,aJ.sublist (aE hr) hn⟩
 .refine eP λi=>?_
  rw[gMq]
  by_cases hi:i<r.length
  .rw[eA hi,cK,←n i,fN hi]
  .rw[bK (by lia),bK (by rw[bo];lia)]
   rfl
 .have:=n r.length;rw[gT,l]at this;exact(aw.inj this).symm
noncomputable def ne(rs:Λ):Λ:=rs.filter λr=>!decide (r=[])
theorem Fd:∀rs:Λ,(ne rs).flatten=rs.flatten
 | []=>rfl
 | []::rs=>Fd rs
 | (x::r)::rs=>by
  show((x::r)::ne rs).flatten=_;rw[fCq,fCq,Fd rs]
theorem Fc:∀rs:Λ,(ug rs++ne rs).Perm rs
 | []=>.nil
 | []::rs=>(Fc rs).cons []
 | (x::r)::rs=>jh.trans ((Fc rs).cons (x::r))
def abI{r:Ϝ}:r∈ne rs↔r∈rs/\r≠[]:=by
 unfold ne;rw[bq];simp
def LB(hn:rs.flatten.Nodup):KN (nx rs) rs.flatten (ne rs):=by
 refine⟨λl hl=>?_,by rw[Fd];exact hn,λx=>by rw[Fd]⟩
 obtain⟨n,s⟩:=abI.mp hl;cases l with
 |nil=>exact absurd rfl s
 |cons x l=>exact⟨x,Vm hn n rfl⟩
def R6(hn:rs.flatten.Nodup):Mh (nx rs) rs.flatten:=⟨hn,λe l=>Cz hn l,λa ha b hb h=>wF hn ha hb h⟩
def R8{f:Int->Int}(hn:rs.flatten.Nodup)(h:∀l∈rs,l=[]∨∃e,Cy f e l){x:Int}(z:x∈rs.flatten):nx rs x=f x:=by
 obtain⟨l,hl,n⟩:=mFq.mp z;rcases h l hl with rfl|⟨e,c⟩
 .cases n
 .obtain⟨j,s⟩:=aj.mp n;have t:=(gSq.mp s).1;have u:=c.at t;rw[s]at u;have B:=aw.inj u;refine UI hn hl s ?_;rw[B];show _=some (itr f (j+1) e)
  by_cases q:j+1<l.length
  .rw[fN q];exact c.at q
  .have E:j+1=l.length:=by lia
   rw[E,gT,c.back];exact c.at (i:=0) (by lia)
theorem IK{f g:Int->Int}{E:Ϝ}(l:Mh f E)(h:∀x∈E,f x=g x){e:Int}(s:e∈E):∀n,itr f n e=itr g n e
 |0=>rfl
 |n+1=>by
  show f (itr f n e)=g (itr g n e);rw[h _ (l.itr_mem s n),IK l h s n]
def T3{f g:Int->Int}{E:Ϝ}(t:Mh f E)(h:∀x∈E,f x=g x){e:Int}(u:e∈E){l:Ϝ}(c:Cy f e l):Cy g e l:=by
 have s:=IK t h u;refine⟨c.len,?_,by rw[←s];exact c.back,c.nd⟩
 rw[←mCq (f:=λn=>itr f n e) λn _=>s n]
 exact c.get
def Im{f g:Int->Int}{E n:Ϝ}{L:Λ}(s:Mh f E)(h:∀x∈E,f x=g x)(t:∀x,x∈E↔x∈n)(o:KN f E L):KN g n L:=by
 refine⟨λl hl=>?_,o.dj,λx=>(o.all x).trans (t x)⟩
 obtain⟨e,c⟩:=o.cy l hl;exact⟨e,T3 s h ((o.all e).mp (mFq.mpr ⟨l,hl,c.self⟩)) c⟩
def Ji{f:Int->Int}{e:Int}{l:Ϝ}(c:Cy f e l):∃n,Cy f n (good l):=by
 unfold good
 by_cases h:pW l l.length<l.length
 .exact⟨_,c.rot h⟩
 .refine⟨e,?_⟩;unfold Mr.rot;rw[cI (by lia),bR (by lia),bA]
  exact c
theorem yk:∀rs:Λ,ug rs=ay (rs.count []) []
 | []=>rfl
 | []::rs=>by
  rw[fV,iC,←yk rs];rfl
 | (x::r)::rs=>by
  rw[eR (by simp),←yk rs]
  rfl
theorem FP:∀{L:Λ},(∀l∈L,1<=l.length)->L.length<=L.flatten.length
 | [],_=>aa _
 |a::L,h=>by
  have n:=h a (ao ..);have s:=FP (L:=L) λl hl=>h l (mCo _ hl)
  rw[lCq,fCq,lAq];lia
theorem Hb:∀{L:Λ},(∀l∈L,1<=l.length)->(L.map good).count []=0
 | [],_=>rfl
 |a::L,h=>by
  have s:=h a (ao ..);have n:good a≠[]:=λq=>by
   have:=congrArg bV q;rw[AK,cF]at this;lia
  rw[ai,eR n];exact Hb λl hl=>h l (mCo _ hl)
def C4(t:Mp rs)(Q:rs.length+rs.flatten.length<=1000):∃M:Λ,pY [dM rs]=some (.ow (M.map aI))/\Mp M/\pY [dM M]=some (.ow ((rY (rs.map good)).map aI))/\M.flatten.Perm rs.flatten/\rY (M.map good)=M/\M.count []=rs.count []/\M.length<=rs.length+rs.flatten.length:=by
 obtain⟨L,B,R⟩:=yV t;have one:=Bg t;have S:L.flatten.Perm rs.flatten:=(bx B.dj t.hn).mpr B.all;have E:∀l∈L,1<=l.length:=λl hl=>by obtain⟨e,c⟩:=B.cy l hl;exact c.len
 have I:=FP E;rw[S.length_eq]at I;have hb:(ug rs).flatten=[]:=by
  unfold ug;refine df.mpr λl hl=>?_
  obtain⟨x,_,rfl⟩:=mMq.mp hl;rfl
 have G:(ug rs++L).flatten=L.flatten:=by rw[fAq,hb,bA]
 have z:(rY ((ug rs++L).map good)).flatten.Perm rs.flatten:=by
  refine(qJ (pJ _)).trans ((pO pD _).trans ?_);rw[G];exact S
 have U:=CI (T:=ug rs++L) (by rw[G];exact B.dj)
 have n:(rY ((ug rs++L).map good)).count []=rs.count []:=by
  rw[(pJ _).count_eq,mBq,cAq,Hb E,yk,dD,Lf,gD];rfl
 have H:(rY ((ug rs++L).map good)).length<=rs.length+rs.flatten.length:=by
  have:=Ea rs;rw[sH,lMq,lAq];lia
 have u:∀l∈rY ((ug rs++L).map good),l=[]∨∃e,Cy (fw rs) e l:=λl hl=>by
  obtain⟨m,J,rfl⟩:=mMq.mp ((pJ _).mem_iff.mp hl);rcases mAq.mp J with q|q
  .left;unfold ug at q;obtain⟨x,_,rfl⟩:=mMq.mp q;rfl
  .right;obtain⟨e,c⟩:=B.cy m q;exact Ji c
 generalize rY ((ug rs++L).map good)=M at R z U n H u;have X:M.flatten.Nodup:=z.nodup_iff.mpr t.hn;have s:Mp M:=⟨X,by rw[z.length_eq];exact t.hl,by lia,λe Y=>z.mem_iff.mpr (t.hneg e (z.mem_iff.mp Y))⟩
 obtain⟨L2,o2,e2⟩:=yV s;have O:∀x∈M.flatten,fw M x=nx rs x:=λx hx=>by
  show nx M (-x)=_;rw[R8 X u (s.hneg x hx)];show nx rs (- -x)=_;rw[bp]
 have P:=Im (Bg s) O (λx=>z.mem_iff) o2
 have hp:=P.perm (R6 t.hn) (LB t.hn);refine⟨M,R,s,?_,z,U,n,H⟩;rw[e2];have hq:((ug M++L2).map good).Perm (rs.map good):=by
  rw[mBq,yk M,n,←yk rs];refine(bY.append_left _ hp).trans ?_;rw[←mBq];exact(Fc rs).map good
 rw[BK hq]
end
end K16
namespace K25
open PySem L2 Mr Z Xe Zl K15 K16
section
variable {rs:Λ}
def Rt(rs:Λ)(x:Int)(w:Ϝ):Prop:=∃u v,u++x::v∈rs/\w=v++u
noncomputable def Rt.of{x:Int}(h:x∈rs.flatten):∃w,Rt rs x w:=by
 obtain⟨r,hr,l⟩:=mFq.mp h;obtain⟨u,v,rfl⟩:=cU l;exact⟨v++u,u,v,hr,rfl⟩
noncomputable def Rt.mem{x:Int}{w:Ϝ}(h:Rt rs x w):x∈rs.flatten:=by
 obtain⟨u,v,hr,_⟩:=h;exact mFq.mpr ⟨_,hr,by simp⟩
def Rt.row{x:Int}{w:Ϝ}(h:Rt rs x w):∃r∈rs,∀y,y∈r↔y∈x::w:=by
 obtain⟨u,v,hr,rfl⟩:=h;exact⟨_,hr,λy=>(bD (l₁:=x::v) (l₂:=u)).symm.mem_iff⟩
noncomputable def Rt.nd(hn:rs.flatten.Nodup){x:Int}{w:Ϝ}(h:Rt rs x w):(x::w).Nodup:=by
 obtain⟨u,v,hr,rfl⟩:=h;have:=aJ.sublist (aE hr) hn;exact(bD (l₁:=x::v) (l₂:=u)).nodup_iff.mpr this
def Rt.sub{x y:Int}{w:Ϝ}(h:Rt rs x w)(l:y∈w):y∈rs.flatten:=by
 obtain⟨r,hr,e⟩:=h.row;exact mFq.mpr ⟨r,hr,(e y).mpr (mCo _ l)⟩
def Rt.to(hn:rs.flatten.Nodup){x:Int}{w:Ϝ}(h:Rt rs x w):nx rs x=w.headD x:=by
 obtain⟨u,v,hr,rfl⟩:=h;refine UI hn hr (j:=u.length) (by simp) ?_
 cases v with
 |nil=>
  rw[show(u++[x]).length=u.length+1 by simp,gT]
  cases u <;> rfl
 |cons y v=>
  rw[fN (by simp)]
  simp
def Rt.step{x a:Int}{w:Ϝ}(h:Rt rs x (a::w)):Rt rs a (w++[x]):=by
 obtain⟨u,v,hr,e⟩:=h;cases v with
 |nil=>
  rw[bA]at e;subst e;exact⟨[],w++[x],hr,by simp⟩
 |cons y v=>
  obtain⟨rfl,rfl⟩:=dA.inj e;exact⟨u++[x],v,by simpa using hr,by simp⟩
theorem Rt.go{x:Int}:∀{z:Int}{a b:Ϝ},Rt rs z (a++x::b)->Rt rs x (b++z::a)
 |z,[],b,h=>h.step
 |z,y::a,b,h=>by
  have:=Rt.go (z:=y) (a:=a) (b:=b++[z]) (by simpa using h.step)
  simpa using this
noncomputable def Rt.filt{x:Int}{w:Ϝ}(p:Int->Bool)(l:p x=true)(h:Rt rs x w):Rt (rs.map λr=>r.filter p) x (w.filter p):=by
 obtain⟨u,v,hr,rfl⟩:=h;refine⟨u.filter p,v.filter p,mMq.mpr ⟨_,hr,?_⟩,by rw[eI]⟩
 rw[eI,bU l]
noncomputable def pz(z e:Int):Bool:=!decide (e∈[z, -z])
def qD{z e:Int}:pz z e=true↔e≠z/\e ≠ -z:=by unfold pz;simp
def Em{z e:Int}(h:¬ pz z e=true):e=z∨e = -z:=by
 rw[qD]at h;lia
def JG(z:Int):pz (-z)=pz z:=by
 funext e;rw[cx,qD,qD];lia
def skp(z:Int)(f:Int->Int)(x:Int):Int:=if pz z (f x)=true then f x else if pz z (f (f x))=true then f (f x)else f (f (f x))
def acF{x z:Int}(hn:rs.flatten.Nodup)(u:(rs.map λr=>r.filter (pz z)).flatten.Nodup)(H:x∈rs.flatten)(B:pz z x=true):nx (rs.map λr=>r.filter (pz z)) x=skp z (nx rs) x:=by
 obtain⟨w,h⟩:=Rt.of H;have I:=h.filt (pz z) B;rw[I.to u];have n:=h.to hn;have nd:=h.nd hn;unfold skp;cases w with
 |nil=>
  have n:nx rs x=x:=n;rw[n,pB B];rfl
 |cons y w=>
  have n:nx rs x=y:=n;rw[n]
  by_cases py:pz z y=true
  .rw[bU py,pB py];rfl
  .rw[bO py,oZ py];have E:=h.step;have s:=E.to hn;cases w with
   |nil=>
    have s:nx rs y=x:=s;rw[s,pB B];rfl
   |cons t w=>
    have s:nx rs y=t:=s;rw[s]
    by_cases l:pz z t=true
    .rw[bU l,pB l];rfl
    .rw[bO l,oZ l];have J:=E.step;have L:=J.to hn;have hw:w.filter (pz z)=w:=iH.mpr λe G=>by
      rw[ah,ah,ah]at nd;have M:=Em py;have O:=Em l;have b1:y≠t:=λq=>nd.2.1 (q ▸ ao ..)
      have b2:e≠y:=λq=>nd.2.1 (q ▸ mCo _ G)
      have b3:e≠t:=λq=>nd.2.2.1 (q ▸ G)
      rw[qD];lia
     rw[hw,L];cases w <;> rfl
def Td(z:Int)(f:Int->Int)(x:Int):Int:=if pz z (f x)=true then f x else if pz z (f (-f x))=true then f (-f x)else f (-f (-f x))
def Py(z:Int):Td (-z)=Td z:=by
 funext f x;unfold Td;rw[JG]
def O3(z:Int):¬ pz z z=true:=by rw[qD];lia
def FU(z:Int):¬ pz z (-z)=true:=by rw[qD];lia
def adZ{D:Λ}(hn:rs.flatten.Nodup)(n:D.flatten.Nodup){t x:Int}{a b u v:Ϝ}(ha:Rt rs t a)(hb:Rt rs (-t) b)(s:∀e∈a,pz t e=true)(z:∀e∈b,pz t e=true)(e:a=u++x::v)(h:Rt D x (v++b++u)):nx D x=Td t (nx rs) x:=by
 subst e;have B:=ha.go;have l:=B.to hn;rw[h.to n];unfold Td;cases v with
 |cons y v=>
  have l:nx rs x=y:=l;rw[l,pB (s y (by simp))]
  rfl
 |nil=>
  have l:nx rs x=t:=l;have E:=hb.to hn;rw[l,oZ (O3 t),E];cases b with
  |cons y b=>exact(pB (z y (ao ..))).symm
  |nil=>
   have G:=ha.to hn;show _=if pz t (-t)=true then _ else nx rs (- -t)
   rw[oZ (FU t),bp,G];cases u <;> rfl
def ac3{D:Λ}(hn:rs.flatten.Nodup)(s:D.flatten.Nodup){t x:Int}{a b u v:Ϝ}(ha:Rt rs t (a ++ -t::b))(n:∀e∈a,pz t e=true)(e:a=u++x::v)(h:Rt D x (v++u)):nx D x=Td t (nx rs) x:=by
 subst e;have z:Rt rs x ((v ++ -t::b)++t::u):=Rt.go (by simpa using ha)
 have l:=z.to hn;rw[h.to s];unfold Td;cases v with
 |cons y v=>
  have l:nx rs x=y:=l;rw[l,pB (n y (by simp))]
  rfl
 |nil=>
  have l:nx rs x = -t:=l;have B:=ha.to hn;rw[l,oZ (FU t),bp,B];have:((u++[x] ++ -t::b).headD t)=u.headD x:=by cases u <;> rfl
  rw[this];refine(pB (n _ ?_)).symm;cases u <;> simp
theorem UP{r:Ϝ}{a:Int}(ha:a∈r):∀rs:Λ,rs.count r<=rs.flatten.count a
 | []=>aa _
 |s::rs=>by
  have l:=UP ha rs;rw[cZ,fCq,cAq]
  by_cases h:s=r
  .subst h;have:=bg.mpr ha;simp;lia
  .simp[h];lia
theorem OR{r r':Ϝ}(l:r≠r'){a:Int}(ha:a∈r)(n:a∈r'):∀rs:Λ,rs.count r+rs.count r'<=rs.flatten.count a
 | []=>aa _
 |s::rs=>by
  have u:=OR l ha n rs;rw[cZ,cZ,fCq,cAq]
  by_cases h:s=r
  .subst h;have:=bg.mpr ha;simp[l];lia
  .by_cases t:s=r'
   .subst t;have:=bg.mpr n;simp[h];lia
   .simp[h,t];lia
def Xg{z:Int}(hz:z ≠ -z){r:Ϝ}(hn:r.Nodup):(if r.filter (pz z)=[]then 1 else 0)=(if r=[]then 1 else 0)+(if r=[z]then 1 else 0)+(if r=[-z]then 1 else 0)+(if r=[z, -z]then 1 else 0)+(if r=[-z,z]then 1 else 0):=by
 have u:=O3 z;have x:=FU z
 match r,hn with
 | [],_=>simp
 | [a],_=>
  by_cases h:pz z a=true
  .have l:=qD.mp h;rw[bU h];simp[l.1,l.2]
  .rw[bO h];rcases Em h with rfl|rfl
   .simp[hz]
   .simp[hz.symm]
 | [a,b],hn=>
  have n:a≠b:=by simpa using hn
  by_cases h:pz z a=true
  .have l:=qD.mp h;rw[bU h];simp[l.1,l.2]
  .rw[bO h]
   by_cases s:pz z b=true
   .have t:=qD.mp s;rw[bU s];simp[t.1,t.2]
   .rw[bO s];rcases Em h with rfl|rfl <;> rcases Em s with rfl|rfl
    .exact absurd rfl n
    .simp[hz]
    .simp[hz.symm]
    .exact absurd rfl n
 |a::b::c::r,hn=>
  have:(a::b::c::r).filter (pz z)≠[]:=λq=>by
   rw[List.filter_eq_nil_iff]at q;have B:=Em (q a (by simp))
   have l:=Em (q b (by simp))
   have s:=Em (q c (by simp))
   simp only[ah,ab,not_or]at hn;lia
  rw[oZ this];simp
theorem Lr{z:Int}(hz:z ≠ -z):∀{rs:Λ},(∀r∈rs,r.Nodup)->bare (rs.map λr=>r.filter (pz z))=bare rs+rs.count [z]+rs.count [-z]+(rs.count [z, -z]+rs.count [-z,z])
 | [],_=>rfl
 |r::rs,h=>by
  have l:=Lr hz (rs:=rs) λr hr=>h r (mCo _ hr)
  have n:=Xg hz (h r (ao ..));unfold bare at l ⊢;rw[ai,bT,bT,cZ,cZ,cZ,cZ,l];simp only[decide_eq_true_eq,beq_iff_eq]at n ⊢;lia
def FA(hn:rs.flatten.Nodup){z:Int}(hz:z∈rs.flatten):rs.count [z]=if nx rs z=z then 1 else 0:=by
 have l:=UP (r:=[z]) (a:=z) (by simp) rs
 have s:=fW.mp hn z
 by_cases h:[z]∈rs
 .have:=bg.mpr h;have n:Rt rs z []:=⟨[],[],h,rfl⟩;have e:nx rs z=z:=n.to hn;rw[pB e];lia
 .rw[eN h];obtain⟨w,hw⟩:=Rt.of hz;have e:=hw.to hn;have nd:=hw.nd hn;cases w with
  |nil=>
   obtain⟨u,v,hr,q⟩:=hw;obtain⟨rfl,rfl⟩:=fE.mp q.symm;exact absurd hr h
  |cons y w=>
   have e:nx rs z=y:=e;rw[oZ];rw[e];rintro rfl;exact(ah.mp nd).1 (ao ..)
def YL(hn:rs.flatten.Nodup){z y:Int}(n:z≠y)(hz:z∈rs.flatten):rs.count [z,y]+rs.count [y,z]=if nx rs z=y/\nx rs y=z then 1 else 0:=by
 have E:=OR (r:=[z,y]) (r':=[y,z]) (a:=z) (by simp[n]) (by simp) (by simp) rs
 have I:=fW.mp hn z
 by_cases h:[z,y]∈rs∨[y,z]∈rs
 .have J:0<rs.count [z,y]+rs.count [y,z]:=by
   rcases h with h|h
   .have:=bg.mpr h;lia
   .have:=bg.mpr h;lia
  have B:Rt rs z [y]:=by
   rcases h with h|h
   .exact⟨[],[y],h,rfl⟩
   .exact⟨[y],[],h,rfl⟩
  have e:nx rs z=y:=B.to hn;have l:nx rs y=z:=B.step.to hn;rw[pB ⟨e,l⟩];lia
 .have s:[z,y]∉rs/\[y,z]∉rs:=⟨λq=>h (.inl q),λq=>h (.inr q)⟩
  rw[eN s.1,eN s.2];obtain⟨w,hw⟩:=Rt.of hz;have nd:=hw.nd hn;rw[oZ];rintro⟨G,t⟩;have e:=hw.to hn;rw[G]at e;cases w with
  |nil=>exact n e.symm
  |cons H w=>
   have e:y=H:=e;subst e;have l:=hw.step.to hn;rw[t]at l;cases w with
   |cons x w=>
    have l:z=x:=l;subst l;exact(ah.mp nd).1 (by simp)
   |nil=>
    obtain⟨u,v,hr,q⟩:=hw;cases v with
    |nil=>rw[bA]at q;subst q;exact s.2 hr
    |cons x v=>
     have t:=dA.inj q;obtain⟨rfl,rfl⟩:=fE.mp t.2.symm;rw[←t.1]at hr;exact s.1 hr
noncomputable def rest(z:Int)(rs:Λ):Λ:=rs.filter λr=>!decide (z∈r) && !decide (-z∈r)
def yM{z:Int}{r:Ϝ}:r∈rest z rs↔r∈rs/\z∉r/\-z∉r:=by
 unfold rest;rw[bq];simp
def HP(z:Int):bare (rest z rs)=bare rs:=by
 unfold bare rest;rw[List.countP_filter];refine gF λr _=>?_
 constructor
 .intro h;exact(eV _ _ ▸ h).1
 .intro h;have:=of_decide_eq_true h;subst this;simp
structure Due (rs:Λ)(z:Int)(D:Λ):Prop where
 nd:D.flatten.Nodup
 mem:∀x,x∈D.flatten↔x∈rs.flatten/\pz z x=true
 on:∀x∈D.flatten,nx D x=Td z (nx rs) x
 br:bare D=bare rs+((if nx rs (-z)=z then 1 else 0)+(if nx rs z = -z then 1 else 0)+(if nx rs (-z) = -z/\nx rs z=z then 1 else 0))
 len:D.length<=rs.length+2
def uF(hn:rs.flatten.Nodup){r s:Ϝ}{x:Int}(hr:r∈rs)(n:s∈rs)(t:x∈r)(u:x∈s):r=s:=by
 obtain⟨i,hi⟩:=aj.mp hr;obtain⟨j,l⟩:=aj.mp n;have:=same_place hn hi l t u;subst this;exact aw.inj (hi.symm.trans l)
def K0(z:Int):(rest z rs).length<=rs.length:=cR _ _
def O0(hn:rs.flatten.Nodup){z x:Int}{K:Λ}(s:x∈(rest z rs).flatten)(t:(rest z rs++K).flatten.Nodup):nx (rest z rs++K) x=Td z (nx rs) x:=by
 obtain⟨w,u,v,hr,e⟩:=Rt.of s;have n:=yM.mp hr;have B:Rt rs x w:=⟨u,v,n.1,e⟩;have E:Rt (rest z rs++K) x w:=⟨u,v,mAq.mpr (.inl hr),e⟩;rw[E.to t];have G:=B.to hn;unfold Td;rw[G];refine(pB ?_).symm;have l:w.headD x∈u++x::v:=by
  refine(bD (l₁:=x::v) (l₂:=u)).mem_iff.mp ?_;rw[bE,←e];cases w <;> simp
 rw[qD];exact⟨λq=>n.2.1 (q ▸ l),λq=>n.2.2 (q ▸ l)⟩
theorem IG(p:Ϝ->Bool):∀rs:Λ,(rs.filter p).flatten.Sublist rs.flatten
 | []=>cE.refl _
 |r::rs=>by
  have l:=IG p rs;cases h:p r with
  |true=>rw[bU h,fCq,fCq];exact cE.append_left l _
  |false=>rw[bO (by simp[h]),fCq];exact l.trans (gG ..)
def PJ(hn:rs.flatten.Nodup){z:Int}{K:Λ}(E:K.flatten.Nodup)(B:∀x,x∈K.flatten↔pz z x=true/\∃r∈rs,x∈r/\(z∈r∨-z∈r)):(rest z rs++K).flatten.Nodup/\∀x,x∈(rest z rs++K).flatten↔x∈rs.flatten/\pz z x=true:=by
 rw[fAq];refine⟨?_,λx=>?_⟩
 .rw[nAq];refine⟨aJ.sublist (IG _ rs) hn,E,λx t y G e=>?_⟩
  subst e;obtain⟨r,hr,l⟩:=mFq.mp t;obtain⟨_,s,H,u,q⟩:=(B x).mp G;have n:=yM.mp hr;have:=uF hn n.1 H l u;subst this;rcases q with q|q
  .exact n.2.1 q
  .exact n.2.2 q
 .rw[mAq,B];constructor
  .rintro(h|⟨n,r,hr,t,_⟩)
   .obtain⟨r,hr,l⟩:=mFq.mp h;have n:=yM.mp hr;refine⟨mFq.mpr ⟨r,n.1,l⟩,qD.mpr ⟨λq=>n.2.1 (q ▸ l),λq=>n.2.2 (q ▸ l)⟩⟩
   .exact⟨mFq.mpr ⟨r,hr,t⟩,n⟩
  .rintro⟨n,I⟩;obtain⟨r,hr,l⟩:=mFq.mp n
   by_cases c:z∈r∨-z∈r
   .exact .inr ⟨I,r,hr,l,c⟩
   .exact .inl (mFq.mpr ⟨r,yM.mpr ⟨hr,λq=>c (.inl q),λq=>c (.inr q)⟩,l⟩)
def GA(a b:Λ):bare (a++b)=bare a+bare b:=List.countP_append
def Hi(a:Ϝ):bare [a]=if a=[]then 1 else 0:=by
 unfold bare;rw[bT,List.countP_nil];simp
def Vy(a b:Ϝ):bare [a,b]=(if a=[]then 1 else 0)+(if b=[]then 1 else 0):=by
 rw[show[a,b]=[a]++[b]from rfl,GA,Hi,Hi]
def Oy(hn:rs.flatten.Nodup){z:Int}(hz:z ≠ -z){a b:Ϝ}(h:Rt rs z (a ++ -z::b)):Due rs z (rest z rs++[a,b]):=by
 have L:Rt rs (-z) (b ++ - -z::a):=by rw[bp];exact h.go
 have nd:=h.nd hn;obtain⟨r,hr,E⟩:=h.row;have t:∀e∈a,pz z e=true:=λe B=>by
  rw[ah,nAq]at nd;exact qD.mpr ⟨λq=>nd.1 (mAq.mpr (.inl (q ▸ B))),λq=>nd.2.2.2 _ B _ (ao ..) q⟩
 have l:∀e∈b,pz z e=true:=λe B=>by
  rw[ah,nAq,ah]at nd;exact qD.mpr ⟨λq=>nd.1 (mAq.mpr (.inr (mCo _ (q ▸ B)))),λq=>nd.2.2.1.1 (q ▸ B)⟩
 have P:[a,b].flatten.Nodup:=by
  rw[show[a,b].flatten=a++b by simp]
  exact aJ.sublist (cE.append_left (List.sublist_cons_self ..) _) (ah.mp nd).2
 have M:z∈r:=(E z).mpr (by simp)
 have H:-z∈r:=(E (-z)).mpr (by simp)
 obtain⟨G,Q⟩:=PJ hn (z:=z) P λx=>by
  rw[show[a,b].flatten=a++b by simp,mAq]
  constructor
  .intro q;have n:pz z x=true:=by
    rcases q with q|q
    .exact t x q
    .exact l x q
   refine⟨n,r,hr,(E x).mpr ?_,.inl M⟩;rcases q with q|q <;> simp[q]
  .rintro⟨n,s,O,I,q⟩;have:s=r:=by
    rcases q with q|q
    .exact uF hn O hr q M
    .exact uF hn O hr q H
   subst this;have:=(E x).mp I;have n:=qD.mp n;simp[n.1,n.2]at this;exact this
 refine⟨G,Q,λx n=>?_,?_,by rw[lAq];have:=K0 (rs:=rs) z;show _+2<=_;lia⟩
 .rw[fAq]at n;rcases mAq.mp n with q|q
  .exact O0 hn q G
  .rw[show[a,b].flatten=a++b by simp]at q
   rcases mAq.mp q with q|q
   .obtain⟨u,v,e⟩:=cU q;exact ac3 hn G h t e ⟨u,v,by rw[←e];simp,rfl⟩
   .obtain⟨u,v,e⟩:=cU q;rw[←Py];exact ac3 hn G L (by rw[JG];exact l) e ⟨u,v,by rw[←e];simp,rfl⟩
 .rw[GA,HP,Vy];have R:=h.to hn;have J:=L.to hn;rw[bp]at J;have S:(nx rs z = -z)↔a=[]:=by
   rw[R];cases a with
   |nil=>simp
   |cons y a=>
    have:=qD.mp (t y (by simp))
    simp[this.2]
  have T:(nx rs (-z)=z)↔b=[]:=by
   rw[J];cases b with
   |nil=>simp
   |cons y b=>
    have:=qD.mp (l y (by simp))
    simp[this.1]
  have U:¬ (nx rs (-z) = -z/\nx rs z=z):=by
   rintro⟨q,_⟩;rw[J]at q;cases b with
   |nil=>exact hz q
   |cons y b=>
    have:=qD.mp (l y (by simp))
    exact this.2 q
  simp only[S,T,oZ U];lia
def Px(hn:rs.flatten.Nodup){z:Int}(hz:z ≠ -z){a b:Ϝ}(h:Rt rs z a)(h':Rt rs (-z) b)(G:-z∉a):Due rs z (rest z rs++[a++b]):=by
 have nd:=h.nd hn;have H:=h'.nd hn;obtain⟨r,hr,I⟩:=h.row;obtain⟨s,P,J⟩:=h'.row;have R:z∈r:=(I z).mpr (by simp)
 have E:-z∈s:=(J (-z)).mpr (by simp)
 have L:r≠s:=λq=>by
  subst q;have:=(I (-z)).mp E;rcases ab.mp this with q|q
  .exact hz q.symm
  .exact G q
 have U:z∉b:=λq=>L (uF hn hr P R ((J z).mpr (mCo _ q)))
 have l:∀e∈a,pz z e=true:=λe M=>qD.mpr ⟨λq=>(ah.mp nd).1 (q ▸ M),λq=>G (q ▸ M)⟩
 have n:∀e∈b,pz z e=true:=λe M=>qD.mpr ⟨λq=>U (q ▸ M),λq=>(ah.mp H).1 (q ▸ M)⟩
 have X:[a++b].flatten.Nodup:=by
  rw[show[a++b].flatten=a++b by simp,nAq]
  refine⟨(ah.mp nd).2,(ah.mp H).2,λx B y Y e=>?_⟩
  subst e;exact L (uF hn hr P ((I x).mpr (mCo _ B)) ((J x).mpr (mCo _ Y)))
 obtain⟨Q,d2⟩:=PJ hn (z:=z) X λx=>by
  rw[show[a++b].flatten=a++b by simp,mAq]
  constructor
  .rintro(q|q)
   .exact⟨l x q,r,hr,(I x).mpr (mCo _ q),.inl R⟩
   .exact⟨n x q,s,P,(J x).mpr (mCo _ q),.inr E⟩
  .rintro⟨B,t,ht,O,q⟩;have B:=qD.mp B;rcases q with q|q
   .have:=uF hn ht hr q R;subst this;have:=(I x).mp O;simp[B.1]at this;exact .inl this
   .have:=uF hn ht P q E;subst this;have:=(J x).mp O;simp[B.2]at this;exact .inr this
 refine⟨Q,d2,λx B=>?_,?_,by rw[lAq];have:=K0 (rs:=rs) z;show _+1<=_;lia⟩
 .rw[fAq]at B;rcases mAq.mp B with q|q
  .exact O0 hn q Q
  .rw[show[a++b].flatten=a++b by simp]at q
   rcases mAq.mp q with q|q
   .obtain⟨u,v,e⟩:=cU q;exact adZ hn Q h h' l n e ⟨u,v++b,by rw[e];simp,rfl⟩
   .obtain⟨u,v,e⟩:=cU q;rw[←Py];exact adZ hn Q h' (by rw[bp];exact h) (by rw[JG];exact n) (by rw[JG];exact l) e ⟨a++u,v,by rw[e];simp,by simp⟩
 .rw[GA,HP,Hi];have S:=h.to hn;have T:=h'.to hn;have q1:¬ (nx rs z = -z):=by
   rw[S];cases a with
   |nil=>exact hz
   |cons y a=>exact(qD.mp (l y (by simp))).2
  have q2:¬ (nx rs (-z)=z):=by
   rw[T];cases b with
   |nil=>exact hz.symm
   |cons y b=>exact(qD.mp (n y (by simp))).1
  have q3:(nx rs (-z) = -z/\nx rs z=z)↔a++b=[]:=by
   rw[S,T];cases a with
   |cons y a=>
    have:=(qD.mp (l y (by simp))).1
    simp[this]
   |nil=>
    cases b with
    |cons y b=>
     have:=(qD.mp (n y (by simp))).2
     simp[this]
    |nil=>simp
  simp only[oZ q1,oZ q2,q3];lia
end
section
variable {rs:Λ}
def sO(rs:Λ):bare rs=rs.count []:=by
 unfold bare;rw[List.count];congr 1;funext r;cases r <;> rfl
def Kh{r:Ϝ}:good r=[]↔r=[]:=by
 rw[←bN,AK,bN]
theorem Ie:∀rs:Λ,bare (rs.map good)=bare rs
 | []=>rfl
 |r::rs=>by
  have l:=Ie rs;unfold bare at l ⊢;rw[ai,bT,bT,l];simp only[Kh]
def AL(rs:Λ):bare (rY (rs.map good))=bare rs:=by
 rw[sO,(pJ _).count_eq,←sO,Ie]
def Sl(rs:Λ):(ug rs).flatten=[]:=by
 unfold ug;refine df.mpr λl hl=>?_
 obtain⟨x,_,rfl⟩:=mMq.mp hl;rfl
def vZ(z:Mp rs):∃M:Λ,pY [dM rs]=some (.ow (M.map aI))/\M.flatten.Perm rs.flatten/\bare M=bare rs/\M.length<=rs.length+rs.flatten.length/\∀x∈M.flatten,nx M x=fw rs x:=by
 obtain⟨L,u,O⟩:=yV z;have I:L.flatten.Perm rs.flatten:=(bx u.dj z.hn).mpr u.all;have n:∀l∈L,1<=l.length:=λl hl=>by obtain⟨e,c⟩:=u.cy l hl;exact c.len
 have B:=FP n;rw[I.length_eq]at B;have E:(ug rs++L).flatten=L.flatten:=by rw[fAq,Sl,bA]
 have J:(rY ((ug rs++L).map good)).flatten.Perm rs.flatten:=by
  refine(qJ (pJ _)).trans ((pO pD _).trans ?_);rw[E];exact I
 have s:(rY ((ug rs++L).map good)).count []=rs.count []:=by
  rw[(pJ _).count_eq,mBq,cAq,Hb n,yk,dD,show good []=[]from rfl,gD]
  rfl
 have G:(rY ((ug rs++L).map good)).length<=rs.length+rs.flatten.length:=by
  have:=Ea rs;rw[sH,lMq,lAq];lia
 have t:∀l∈rY ((ug rs++L).map good),l=[]∨∃e,Cy (fw rs) e l:=λl hl=>by
  obtain⟨m,H,rfl⟩:=mMq.mp ((pJ _).mem_iff.mp hl);rcases mAq.mp H with q|q
  .left;unfold ug at q;obtain⟨x,_,rfl⟩:=mMq.mp q;rfl
  .right;obtain⟨e,c⟩:=u.cy m q;exact Ji c
 refine⟨_,O,J,by rw[sO,sO,s],G,λx P=>R8 (J.nodup_iff.mpr z.hn) t P⟩
def FH{T:Λ}(hn:T.flatten.Nodup){x:Int}(t:x∈T.flatten):nx (rY (T.map good)) x=nx T x:=by
 have s:(rY (T.map good)).flatten.Perm T.flatten:=(qJ (pJ _)).trans (pO pD _);refine R8 (s.nodup_iff.mpr hn) (λl hl=>?_) (s.mem_iff.mpr t)
 obtain⟨m,n,rfl⟩:=mMq.mp ((pJ _).mem_iff.mp hl);cases m with
 |nil=>exact .inl rfl
 |cons y m=>exact .inr (Ji (Vm hn n rfl))
def Sw{T D:Λ}(l:Mp T)(n:D.flatten.Nodup)(s:∀x,x∈T.flatten↔x∈D.flatten)(t:∀x∈T.flatten,fw T x=nx D x)(hb:bare T=bare D):pY [dM T]=some (.ow ((rY (D.map good)).map aI)):=by
 obtain⟨L,o,e⟩:=yV l;have u:=Im (Bg l) t s o;have z:=u.perm (R6 n) (LB n);rw[e];have B:((ug T++L).map good).Perm (D.map good):=by
  rw[mBq,yk T,←sO,hb,sO,←yk D];refine(bY.append_left _ z).trans ?_;rw[←mBq];exact(Fc D).map good
 rw[BK B]
def adN(z:Int)(M:Λ):K23.C z M=M.map λr=>r.filter (pz z):=rfl
def drawn(s:Mp rs)(X:rs.length+rs.flatten.length<=900){z:Int}(hz:z∈rs.flatten)(E:z ≠ -z):∃M:Λ,pY [dM rs]=some (.ow (M.map aI))/\M.flatten.Perm rs.flatten/\M.length<=900/\∀D,Due rs z D->bare (K23.C z M)=bare D/\pY [dM (rY ((K23.C z M).map good))]=some (.ow ((rY (D.map good)).map aI)):=by
 obtain⟨M,e1,n,bM,lM,L⟩:=vZ s;have B:M.flatten.Nodup:=n.nodup_iff.mpr s.hn;have G:=s.hneg z hz;refine⟨M,e1,n,by lia,λD H=>?_⟩
 have x1:nx M z=nx rs (-z):=L z (n.mem_iff.mpr hz);have x2:nx M (-z)=nx rs z:=by rw[L (-z) (n.mem_iff.mpr G)];unfold fw;rw[bp]
 have b1:=Lr E (rs:=M) λr hr=>aJ.sublist (aE hr) B
 rw[FA B (n.mem_iff.mpr hz),FA B (n.mem_iff.mpr G),YL B E (n.mem_iff.mpr hz),x1,x2,bM]at b1;have hb:bare (K23.C z M)=bare D:=by
  rw[adN,b1,H.br];lia
 refine⟨hb,?_⟩;have J:(K23.C z M).flatten=M.flatten.filter (pz z):=K23.G5;have O:(K23.C z M).flatten.Nodup:=by rw[J];exact aJ.sublist dg B
 have P:(rY ((K23.C z M).map good)).flatten.Perm (K23.C z M).flatten:=(qJ (pJ _)).trans (pO pD _);have l:∀x,x∈(rY ((K23.C z M).map good)).flatten↔x∈rs.flatten/\pz z x=true:=λx=>by rw[P.mem_iff,J,bq,n.mem_iff]
 have Q:(K23.C z M).length=M.length:=by unfold K23.C;rw[lMq]
 have neg:∀x,pz z x=true->pz z (-x)=true:=λx h=>by rw[qD]at h ⊢;lia
 have R:Mp (rY ((K23.C z M).map good)):=⟨P.nodup_iff.mpr O,by
   rw[P.length_eq,J];have:=cR (pz z) M.flatten;rw[n.length_eq]at this;lia,by rw[sH,lMq,Q];lia,λe he=>by
   have:=(l e).mp he;exact(l (-e)).mpr ⟨s.hneg e this.1,neg e this.2⟩⟩
 refine Sw R H.nd (λx=>by rw[l,H.mem]) (λx S=>?_) (by rw[AL,hb])
 have I:=(l x).mp S;have u:-x∈rs.flatten:=s.hneg x I.1;have T:-x∈(K23.C z M).flatten:=by rw[J,bq,n.mem_iff];exact⟨u,neg x I.2⟩
 rw[H.on x ((H.mem x).mpr I)];show nx (rY ((K23.C z M).map good)) (-x)=_;rw[FH O T,adN,acF B O (n.mem_iff.mpr u) (neg x I.2)];have U:∀t∈rs.flatten,nx M t=nx rs (-t):=λt ht=>L t (n.mem_iff.mpr ht)
 have g1:nx M (-x)=nx rs x:=by rw[U _ u,bp]
 have Y:=Cz s.hn I.1;have m2:=Cz s.hn (s.hneg _ Y);unfold skp Td;rw[g1,U _ Y,U _ m2]
end
end K25
namespace K43
open PySem L2 Mr Z Xe Zl
open K51 (ui Ps Pc)
section
variable {rs A B:Λ}
noncomputable def D7(h:Mp rs):K51.Mp rs:=⟨h.hn,h.hl,h.hr,h.hneg⟩
def YX(e:Int):K51.plc rs e=plc rs e:=rfl
structure Ind (rs:Λ)(l:Θ):Prop where
 lt:∀k∈l,k<rs.length
 pw:l.Pairwise λa b=>¬ ui rs a b
def Ind.nd{l:Θ}(h:Ind rs l):l.Nodup:=by
 rw[aG];exact h.pw.imp (λ{a b} n (e:a=b)=>n (e ▸ (.base:ui rs a a)))
noncomputable def Si{PS:List Θ}{k:Nat}(h:∃ps∈PS,k∈ps):∃ps,PS[PS.findIdx λp=>decide (k∈p)]?=some ps/\k∈ps:=by
 obtain⟨ps,l,n⟩:=h;have hl:PS.findIdx (λp=>decide (k∈p))<PS.length:=dU ⟨ps,l,d4 n⟩
 have s:=fT (xs:=PS) (p:=λp=>decide (k∈p)) (w:=hl)
 exact⟨_,gEg hl,of_decide_eq_true s⟩
def FO(I:Mp rs){kn:Θ}{PS:List Θ}(u:Ps rs rs.length kn PS){l:Θ}(h:Ind rs l):l.length<=PS.length:=by
 have z:∀k∈l,∃G,PS[PS.findIdx λp=>decide (k∈p)]?=some G/\k∈G:=λk hk=>Si (u.mem k (u.all k (h.lt k hk)))
 have:=K51.pig PS.length (l.map λk=>PS.findIdx λp=>decide (k∈p)) (by
  rw[aG,bf];refine aJ.imp_of_mem (λ{a b} ha hb n e=>n ?_) h.pw
  obtain⟨p,t,J⟩:=z a ha;obtain⟨q,H,L⟩:=z b hb;rw[e,H]at t;have E:=aw.inj t;subst E;obtain⟨s,_,pc⟩:=u.pc q (mGq H);exact(K51.ui.symm (D7 I) ((pc.iff a).mp J)).trans ((pc.iff b).mp L)) (λx M=>by
  obtain⟨k,hk,rfl⟩:=mMq.mp M;obtain⟨p,t,_⟩:=z k hk;exact(gSq.mp t).1)
 rwa [lMq]at this
def acP{ps:Θ}(h:ps≠[]):ps.headD 0∈ps:=by
 cases ps with
 |nil=>exact absurd rfl h
 |cons a ps=>exact ao ..
def Ja(E:Mp rs){kn:Θ}{PS:List Θ}(u:Ps rs rs.length kn PS):∃l,Ind rs l/\l.length=PS.length/\∀k,k<rs.length->∃r∈l,ui rs k r:=by
 have t:∀n∈PS,n.headD 0∈n:=λn h=>acP λe=>by
  obtain⟨s,_,pc⟩:=u.pc n h;have:=(pc.iff s).mpr .base;rw[e]at this;cases this
 have cls:∀n∈PS,∀a∈n,∀b,ui rs a b->b∈n:=λn h a ha b x=>by
  obtain⟨s,_,pc⟩:=u.pc n h;exact(pc.iff b).mpr (((pc.iff a).mp ha).trans x)
 refine⟨PS.map λn=>n.headD 0,⟨λk hk=>?_,?_⟩,lMq _,λk hk=>?_⟩
 .obtain⟨n,h,rfl⟩:=mMq.mp hk;exact u.lt _ (u.sub n h _ (t n h))
 .rw[bf];refine aJ.imp_of_mem (λ{a b} ha hb d r=>?_) u.dj
  exact d _ (cls a ha _ (t a ha) _ r) (t b hb)
 .obtain⟨n,z,G⟩:=u.mem k (u.all k hk);refine⟨_,mMq.mpr ⟨n,z,rfl⟩,?_⟩;obtain⟨s,_,pc⟩:=u.pc n z;exact(K51.ui.symm (D7 E) ((pc.iff k).mp G)).trans ((pc.iff _).mp (t n z))
theorem VL{R:Nat->Nat->Prop}(z:∀{a b:Nat},R a b->R b a):∀{l:Θ},l.Pairwise R->∀{a b:Nat},a∈l->b∈l->a≠b->R a b
 | [],_,a,b,ha,_,_=>by cases ha
 |x::l,h,a,b,ha,hb,n=>by
  obtain⟨E,H⟩:=cS.mp h;rcases ab.mp ha with G|t
  .rcases ab.mp hb with u|s
   .exact absurd (G.trans u.symm) n
   .rw[G];exact E b s
  .rcases ab.mp hb with u|s
   .rw[u];exact z (E a t)
   .exact VL z H t s n
section
variable {M:Λ}{z:Int}
def HA{k:Nat}{r:Ϝ}(h:M[k]?=some r):(K23.C z M)[k]?=some (K23.vB z r):=by
 unfold K23.C;rw[gMq,h];rfl
def BB{r:Ϝ}{e:Int}:e∈K23.vB z r↔e∈r/\e≠z/\e ≠ -z:=by
 unfold K23.vB;rw[bq];simp
def EF{e:Int}:e∈(K23.C z M).flatten↔e∈M.flatten/\e≠z/\e ≠ -z:=by
 rw[K23.G5];exact BB
def As(l:Mp M):Mp (K23.C z M):=by
 have s:(K23.C z M).flatten.length<=M.flatten.length:=by rw[K23.G5];exact cR _ _
 refine⟨by rw[K23.G5];exact aJ.sublist dg l.hn,by have:=l.hl;lia,by unfold K23.C;rw[lMq];exact l.hr,λe n=>?_⟩
 have h:=EF.mp n;exact EF.mpr ⟨l.hneg e h.1,by lia,by lia⟩
def GB(l:Mp M){e:Int}(h:e∈(K23.C z M).flatten):plc (K23.C z M) e=plc M e:=by
 obtain⟨r,n,s⟩:=l.at (EF.mp h).1;exact plc_eq (As l).hn (HA n) (BB.mpr ⟨s,(EF.mp h).2⟩)
def Gk:(K23.C z M).length=M.length:=by unfold K23.C;rw[lMq]
def O4(n:Mp M){i j:Nat}(h:ui (K23.C z M) i j):ui M i j:=by
 induction h with
 |base=>exact .base
 | @step k r e _ l s t=>
  have hk:k<M.length:=by rw[←Gk (z:=z)];exact(gSq.mp l).1
  have hr:M[k]?=some M[k]:=gEg hk;rw[HA hr]at l;cases l;have u:e∈(K23.C z M).flatten:=mFq.mpr ⟨_,mGq (HA hr),s⟩;have hn:=(As n).hneg e u;have:K51.plc (K23.C z M) (-e)=K51.plc M (-e):=GB n hn;rw[this];exact .step t hr (BB.mp s).1
def ads(t:Mp M)(hz:z∈M.flatten){i j:Nat}(h:ui M i j):ui (K23.C z M) i j∨(ui (K23.C z M) i (plc M z)/\ui (K23.C z M) (plc M (-z)) j)∨(ui (K23.C z M) i (plc M (-z))/\ui (K23.C z M) (plc M z) j):=by
 have hw:=D7 (As (z:=z) t)
 induction h with
 |base=>exact .inl .base
 | @step k r e _ s x E=>
  by_cases G:e=z
  .subst G;have hk:plc M e=k:=plc_eq t.hn s x;show _∨_∨_;rw[YX];rcases E with q|⟨l,n⟩|⟨l,n⟩
   .exact .inr (.inl ⟨hk ▸ q,.base⟩)
   .rw[←hk]at n;exact .inl (l.trans (n.symm hw))
   .exact .inl l
  .by_cases H:e = -z
   .subst H;have hk:plc M (-z)=k:=plc_eq t.hn s x;rw[YX,bp];rcases E with q|⟨l,n⟩|⟨l,n⟩
    .exact .inr (.inr ⟨hk ▸ q,.base⟩)
    .exact .inl l
    .rw[←hk]at n;exact .inl (l.trans (n.symm hw))
   .have u:e∈K23.vB z r:=BB.mpr ⟨x,G,H⟩;have I:e∈(K23.C z M).flatten:=mFq.mpr ⟨_,mGq (HA s),u⟩;have J:plc (K23.C z M) (-e)=plc M (-e):=GB t ((As t).hneg e I);rw[YX,←J];rcases E with q|⟨l,n⟩|⟨l,n⟩
    .exact .inl (.step q (HA s) u)
    .exact .inr (.inl ⟨l,.step n (HA s) u⟩)
    .exact .inr (.inr ⟨l,.step n (HA s) u⟩)
def Lw(s:Mp M)(hz:z∈M.flatten)(hb:ui (K23.C z M) (plc M z) (plc M (-z))){kn x:Θ}{PS t:List Θ}(H:Ps M M.length kn PS)(u:Ps (K23.C z M) (K23.C z M).length x t):t.length=PS.length:=by
 have hw:=D7 (As (z:=z) s);have key:∀{i j},ui M i j->ui (K23.C z M) i j:=λ{i j} h=>by
  rcases ads s hz h with q|⟨E,G⟩|⟨E,G⟩
  .exact q
  .exact(E.trans hb).trans G
  .exact(E.trans (hb.symm hw)).trans G
 obtain⟨l,I,O,_⟩:=Ja s H;obtain⟨L,J,P,_⟩:=Ja (As s) u;have a:=FO (As s) u (l:=l) ⟨λk hk=>by rw[Gk];exact I.lt k hk,I.pw.imp λn h=>n (O4 s h)⟩
 have b:=FO s H (l:=L) ⟨λk hk=>by rw[←Gk (z:=z)];exact J.lt k hk,J.pw.imp λn h=>n (key h)⟩
 lia
def Lk(s:Mp M)(hz:z∈M.flatten)(hb:¬ ui (K23.C z M) (plc M z) (plc M (-z))){kn P:Θ}{PS H:List Θ}(Y:Ps M M.length kn PS)(I:Ps (K23.C z M) (K23.C z M).length P H):H.length=PS.length+1:=by
 have hw:=D7 (As (z:=z) s);have u:=D7 s;have Q:=s.hneg z hz;have zm:ui M (plc M z) (plc M (-z)):=by
  obtain⟨r,h1,h2⟩:=s.at hz;exact .step .base h1 h2
 obtain⟨l,O,l1,c1⟩:=Ja s Y;obtain⟨E,S,l2,_⟩:=Ja (As s) I;have b:=FO s Y (l:=E.filter λk=>!@decide (ui (K23.C z M) (plc M (-z)) k) (bb _)) ⟨λk hk=>by rw[←Gk (z:=z)];exact S.lt k (bq.mp hk).1,by
  have G:=S.pw.sublist (dg (p:=λk=>!@decide (ui (K23.C z M) (plc M (-z)) k) (bb _)))
  refine aJ.imp_of_mem (λ{x y} T hy n h=>?_) G
  have nx:¬ ui (K23.C z M) (plc M (-z)) x:=by simpa using (bq.mp T).2
  have ny:¬ ui (K23.C z M) (plc M (-z)) y:=by simpa using (bq.mp hy).2
  rcases ads s hz h with q|⟨q1,q2⟩|⟨q1,q2⟩
  .exact n q
  .exact ny q2
  .exact nx (q1.symm hw)⟩
 have few:(E.filter λk=>@decide (ui (K23.C z M) (plc M (-z)) k) (bb _)).length<=1:=by
  have G:=S.pw.sublist (dg (p:=λk=>@decide (ui (K23.C z M) (plc M (-z)) k) (bb _)))
  have t:∀x∈E.filter λk=>@decide (ui (K23.C z M) (plc M (-z)) k) (bb _),ui (K23.C z M) (plc M (-z)) x:=λx T=>by simpa using (bq.mp T).2
  generalize (E.filter λk=>@decide (ui (K23.C z M) (plc M (-z)) k) (bb _))=L at G t
  match L,G,t with
  | [],_,_=>exact aT _
  | [x],_,_=>exact aa _
  |x::y::L,G,t=>
   exact absurd (((t x (by simp)).symm hw).trans (t y (by simp))) ((cS.mp G).1 y (by simp))
 have J:=bZ (p:=λk=>@decide (ui (K23.C z M) (plc M (-z)) k) (bb _)) (l:=E)
 rw[bS,bS]at J;have e1:(E.filter λa=>decide ¬ (@decide (ui (K23.C z M) (plc M (-z)) a) (bb _))=true)=E.filter λk=>!@decide (ui (K23.C z M) (plc M (-z)) k) (bb _):=by
  congr 1;funext k;rw[cx];simp
 obtain⟨r,hr,ra⟩:=c1 (plc M z) (s.lt hz);have a:=FO (As s) I (l:=plc M z::plc M (-z)::l.erase r) ⟨λk hk=>by
   rw[Gk];rcases ab.mp hk with rfl|hk
   .exact s.lt hz
   .rcases ab.mp hk with rfl|hk
    .exact s.lt Q
    .exact O.lt k (ij hk),by
  have out:∀k∈l.erase r,¬ ui M r k:=λk hk h=>by
   have U:r≠k:=λe=>by
    subst e;exact(List.Nodup.not_mem_erase O.nd) hk
   have X:=ij hk;exact VL (R:=λa b=>¬ ui M a b) (λn c=>n (c.symm u)) O.pw hr X U h
  refine cS.mpr ⟨λk hk q=>?_,cS.mpr ⟨λk hk q=>?_,(O.pw.sublist List.erase_sublist).imp λn h=>n (O4 s h)⟩⟩
  .rcases ab.mp hk with rfl|hk
   .exact hb q
   .exact out k hk ((ra.symm u).trans (O4 s q))
  .exact out k hk ((ra.symm u).trans (zm.trans (O4 s q)))⟩
 have le:=gN hr;have lp:=fB hr;rw[lCq,lCq,le]at a;rw[e1]at J;lia
end
def emp(B:Λ):Θ:=(bI B.length).filter λk=>decide (B.getD k []=[])
def JL{k j:Nat}(h:ui B k j)(l:B.getD k []=[]):j=k:=by
 induction h with
 |base=>rfl
 | @step u r e x s n t=>
  have:=t;subst this;rw[gDq,s]at l;rw[show r=[]from l]at n
  cases n
end
end K43
namespace K11
open PySem L2 Mr Z Xe Zl K12
def Hw(p:Λ):Prop:=∀k,0<k->k<p.length->∃j e,j<k/\e∈p.getD j []/\-e∈p.getD k []
structure Cn (p:Λ):Prop where
 ne:p≠[]
 clo:∀z∈p.flatten, -z∈p.flatten
 tr:Hw p
structure Wc (w:Wd):Prop where
 old:∀p∈w.P0,Cn p
 clo:∀z,(z∈w.last.flatten∨z∈w.left)->(-z∈w.last.flatten∨-z∈w.left)
 tr:Hw w.last
noncomputable def vm{l:Λ}{h:Nat}{r x:Ϝ}(hr:l[h]?=some r){z:Int}:z∈(l.set h (r++x)).flatten↔z∈l.flatten∨z∈x:=by
 rw[←bg,←bg,←bg,Ag z hr];lia
def Dx{l:Λ}{h:Nat}{r x:Ϝ}(hr:l[h]?=some r){k:Nat}{e:Int}(n:e∈l.getD k []):e∈(l.set h (r++x)).getD k []:=by
 rw[gDq]at n ⊢
 by_cases q:h=k
 .subst q;have s:=(gSq.mp hr).1;rw[aS s];rw[hr]at n;exact bG _ n
 .rw[aF q];exact n
def Kc{l:Λ}{h:Nat}{r x:Ϝ}(hr:l[h]?=some r){e:Int}(s:e∈x):e∈(l.set h (r++x)).getD h []:=by
 have n:=(gSq.mp hr).1;rw[gDq,aS n];exact aq _ s
theorem Hw.set{l:Λ}{h:Nat}{r x:Ϝ}(t:Hw l)(hr:l[h]?=some r):Hw (l.set h (r++x)):=λk n hk=>by
 rw[lZq]at hk;obtain⟨j,e,s,u,z⟩:=t k n hk;exact⟨j,e,s,Dx hr u,Dx hr z⟩
def getD_app{l:Λ}{x:Ϝ}{k:Nat}(h:k<l.length):(l++[x]).getD k []=l.getD k []:=by
 rw[gDq,gDq,gZq h]
def T2{l:Λ}{x:Ϝ}:(l++[x]).getD l.length []=x:=by
 rw[gDq,gYq (aa _),cw];rfl
def Hw.add{l:Λ}{h:Nat}{e:Int}(t:Hw l)(hh:h<l.length)(n:e∈l.getD h []):Hw (l++[[-e]]):=λk s hk=>by
 rw[lAq,lSq]at hk
 by_cases q:k<l.length
 .obtain⟨j,u,x,z,B⟩:=t k s q;exact⟨j,u,x,by rw[getD_app (by lia)];exact z,by rw[getD_app q];exact B⟩
 .have E:k=l.length:=by lia
  subst E;exact⟨h,e,hh,by rw[getD_app hh];exact n,by rw[T2];simp⟩
def KH(r:Ϝ):Hw [r]:=λk l hk=>by
 rw[lSq]at hk;lia
def My{l:Ϝ}{j:Nat}(n:j<l.length){z:Int}:z∈l↔z∈l.eraseIdx j∨z=l.getD j 0:=by
 have:=Ei z n;rw[←bg,←bg (l:=l.eraseIdx j)]
 by_cases q:z=l.getD j 0
 .have:[l.getD j 0].count z=1:=by rw[q];simp
  constructor
  .exact λ_=>.inr q
  .intro _;lia
 .have:[l.getD j 0].count z=0:=iJ.mpr (by simpa using q)
  constructor
  .intro _;exact .inl (by lia)
  .rintro(h|h)
   .lia
   .exact absurd h q
def Wc.step{nm:Ϝ}{w:Wd}{n:Nat}(ok:Qq nm w n)(h:Wc w)(c:Int):Wc (An nm w c):=by
 obtain⟨P0,last,t0,hd,left,used⟩:=w;have hh:hd<last.length:=ok.hh;obtain⟨old,clo,tr⟩:=h;simp only at old clo tr;have hr:last[hd]?=some (last.getD hd []):=by rw[gDq,gEg hh];rfl
 unfold An;simp only;generalize YK c (nm.getD used 0)=e;split
 .split
  .refine⟨old,λz l=>?_,tr.set hr⟩
   simp only at l ⊢;rw[vm hr,mAq,mSq,mSq]at l ⊢;rcases l with(l|l)|(l|l)
   .rcases clo z (.inl l)with q|q
    .exact .inl (.inl q)
    .exact .inr (.inl q)
   .exact .inr (.inr (by rw[l]))
   .rcases clo z (.inr l)with q|q
    .exact .inl (.inl q)
    .exact .inr (.inl q)
   .exact .inl (.inr (by rw[l,bp]))
  .refine⟨old,λz l=>?_,?_⟩
   .simp only at l ⊢;rw[fAq,aQ,mAq,vm hr,mSq,mSq]at l ⊢;rcases l with((l|l)|l)|l
    .rcases clo z (.inl l)with q|q
     .exact .inl (.inl (.inl q))
     .exact .inr q
    .exact .inl (.inr (by rw[l]))
    .exact .inl (.inl (.inr (by rw[l,bp])))
    .rcases clo z (.inr l)with q|q
     .exact .inl (.inl (.inl q))
     .exact .inr q
   .exact(tr.set hr).add (by rw[lZq];exact hh) (Kc hr (by simp))
 .split
  .split
   .exact⟨old,clo,tr⟩
   .rename_i t;have u:0<left.length:=cH.mpr t;have s:(c / 16 % (left.length:Int)).toNat<left.length:=by
     have E:0<=c / 16 % (left.length:Int):=bP _ (by lia)
     have b1:c / 16 % (left.length:Int)<(left.length:Int):=bJ _ (by lia)
     lia
    generalize (c / 16 % (left.length:Int)).toNat=j at s;refine⟨old,λz l=>?_,tr.set hr⟩
    simp only at l ⊢;have x:∀y:Int,((y∈last.flatten∨y∈[left.getD j 0])∨y∈left.eraseIdx j)↔(y∈last.flatten∨y∈left):=λy=>by
     rw[My s (z:=y),mSq,or_assoc,or_comm (a:=y=left.getD j 0)]
    rw[vm hr,x]at l ⊢;exact clo z l
  .split
   .split
    .exact⟨old,clo,tr⟩
    .exact⟨old,clo,tr⟩
   .refine⟨λp B=>?_,λz l=>?_,KH []⟩
    .rcases mAq.mp B with q|q
     .exact old p q
     .rw[mSq.mp q];refine⟨λz=>?_,λz l=>?_,tr.set hr⟩
      .have:=congrArg bV z;rw[lZq,cF]at this;lia
      .rw[vm hr]at l ⊢;exact clo z l
    .simp at l
theorem KI{nm:Ϝ}:∀(l:Ϝ) {w:Wd}{n:Nat},Qq nm w n->Wc w->n+l.length<=nm.length->Wc (l.foldl (An nm) w)
 | [],w,n,_,h,_=>h
 |c::l,w,n,ok,h,hl=>by
  rw[lCq]at hl;exact KI l (ok.step (by have:=ok.us;lia) c) (h.step ok c) (by lia)
def S4{w:Wd}(hh:w.h<w.last.length)(h:Wc w):∀p∈J9 w,Cn p:=λp l=>by
 have hr:w.last[w.h]?=some (w.last.getD w.h []):=by rw[gDq,gEg hh];rfl
 unfold J9 at l;rcases mAq.mp l with q|q
 .exact h.old p q
 .rw[mSq.mp q];refine⟨λz=>?_,λz n=>?_,h.tr.set hr⟩
  .have:=congrArg bV z;rw[lZq,cF]at this;lia
  .rw[vm hr]at n ⊢;exact h.clo z n
def UB{nm l:Ϝ}(H:l.length<=63)(hn:nm.length=66):∃(P:List Λ) (used:Nat),yY [dI l,dI nm]=some (.ow (P.map aP))/\P.flatten.flatten.Perm (Cc nm used)/\used<=63/\P.flatten.length<=64/\P.length<=64/\∀p∈P,Cn p:=by
 obtain⟨I,J,L,M,e⟩:=N1 (v6:=none) (v7:=none) (v8:=none) (v9:=none) H hn;have ok:=FS (nm:=nm) l (Sa nm) (by lia)
 have G:Wc (l.foldl (An nm) w0):=KI l (Sa nm) ⟨λp O=>(by cases O),λz Q=>(by simp[w0]at Q),KH []⟩ (by lia)
 rw[bC]at ok;generalize l.foldl (An nm) w0=w at e ok G;have cn:=S4 ok.hh G;have s:=ok.len (by have:=ok.us;lia)
 have u:=ok.perm;obtain⟨P0,last,t0,hd,left,used⟩:=w;obtain⟨hh,ht,us,lP,lt,tl,cnt⟩:=ok;simp only at hh ht us lP lt tl cnt s u;have hr:last[hd]?=some (last.getD hd []):=by rw[gDq,gEg hh];rfl
 have x:=OE hr;unfold J9 at cn;simp only at cn;generalize last.getD hd []=r at hr x cn;have n2:=DL (P0:=P0) hr;have n1:=TC (P0:=P0) (last:=last);have t:(P0++[last]).length=P0.length+1:=by simp
 have R:=GI P0.length;have S:Je last.length (hd:Int)=some hd:=Pd hh;have B:atI ((cN (t0++[hd])).map D.int) (-1)=some (.int (hd:Int)):=by
  unfold cN;rw[mBq,mBq];exact GY _ _
 have V5:=pV (cN (t0++[hd]));have T:=Vt (P0:=P0) (r':=r++left) hr;have U:=O6 r left;have E:(r.map λn=>AV.sh (.int n))++(left.map λn=>AV.sh (.int n))=(r++left).map λn=>.sh (.int n):=mBq.symm
 have X:r.length+left.length<=qE:=by show _<=16777216;lia
 have Y:qR 6 sA (l.map D.int) [some (.sh (dI l)),some (.sh (dI nm)),some (.ow [.ow [.ow []]]),some (.ow [.sh (.int 0)]),some (.ow []),i0 0,none,none,none,none]=some (.nx [some (.sh (dI l)),some (.sh (dI nm)),some (.ow ((P0++[last]).map aP)),some (aI (cN (t0++[hd]))),some (aI left),i0 (used:Int),I,J,L,M]):=e;refine⟨P0++[last.set hd (r++left)],used,?_,?_,by lia,?_,?_,cn⟩
 .simp_arith [yY,Hc,Y,t,R,n1,n2,S,V5,dI,B,X,U,E,T]
 .rw[iG];intro a;rw[fAq,fAq,aQ,cAq,Ag a hr,←cnt a];lia
 .rw[fAq,aQ,lAq,lZq];lia
 .rw[lAq,lSq];lia
end K11
namespace K43
open PySem L2 Mr Z Xe Zl
open K51 (ui Ps Pc)
section
variable {M:Λ}{z:Int}
def RC(M:Λ)(z:Int):Bool:=@decide (¬ ui (K23.C z M) (plc M z) (plc M (-z))) (bb _)
def L9(M:Λ):Ϝ:=(uk M.flatten).filter λz=>decide (0<z)
end
end K43
namespace K17
open PySem L2 Mr Z Xe Zl
open K15 (nx fw Cz yV ug)
open K25 (Rt Due qD pz vZ drawn Oy Px yM)
open K43 (D7 YX HA BB EF As GB Gk RC Ind FO emp JL)
open K51 (ui Ps Pc)
section
variable {M N:Λ}{z:Int}
def JJ(l:Mp M){e:Int}(n:e∈M.flatten):plc M (nx M e)=plc M e:=by
 obtain⟨w,h⟩:=Rt.of n;have s:=h.to l.hn;obtain⟨r,hr,q⟩:=h.row;obtain⟨i,hi⟩:=aj.mp hr;have t:e∈r:=(q e).mpr (ao ..);have u:nx M e∈r:=(q _).mpr (by rw[s];cases w <;> simp)
 rw[plc_eq l.hn hi t,plc_eq l.hn hi u]
def UO(l:Mp M){y:Int}(s:y∈M.flatten)(t:y≠z)(u:y ≠ -z):ui (K23.C z M) (plc M y) (plc M (-y)):=by
 obtain⟨r,hr,n⟩:=l.at s;have hw:y∈(K23.C z M).flatten:=EF.mpr ⟨s,t,u⟩;have e:K51.plc (K23.C z M) (-y)=plc M (-y):=GB l ((As l).hneg y hw);rw[←e];exact .step .base (HA hr) (BB.mpr ⟨n,t,u⟩)
theorem Y9(l:Mp M)(u:N.flatten.Nodup)(B:∀x∈N.flatten,nx N x=fw M x)(E:∀x,x∈N.flatten↔x∈M.flatten):∀(w:Ϝ) {y:Int}{c:Ϝ},Rt N y (w++z::c)->y≠z->y ≠ -z->(∀x∈w,x≠z/\x ≠ -z)->ui (K23.C z M) (plc M y) (plc M z)
 | [],y,c,h,G,H,_=>by
  have n:y∈M.flatten:=(E y).mp h.mem;have s:nx N y=z:=h.to u;rw[B y h.mem]at s;have t:=JJ l (l.hneg y n);have I:nx M (-y)=z:=s;rw[I]at t;rw[t];exact UO l n G H
 |x::w,y,c,h,G,H,hw=>by
  have n:y∈M.flatten:=(E y).mp h.mem;have s:nx N y=x:=h.to u;rw[B y h.mem]at s;have t:=JJ l (l.hneg y n);have I:nx M (-y)=x:=s;rw[I]at t;have O:Rt N x (w++z::(c++[y])):=by simpa using h.step
  have L:=Y9 l u B E w O (hw x (ao ..)).1 (hw x (ao ..)).2 λP J=>hw P (mCo _ J)
  rw[t]at L;exact(UO l n G H).trans L
def Qu(l:Mp M)(s:N.flatten.Nodup)(E:∀x∈N.flatten,nx N x=fw M x)(G:∀x,x∈N.flatten↔x∈M.flatten)(hz:z ≠ -z){a:Ϝ}(h:Rt N z a)(t:-z∉a):RC M z=false:=by
 have hw:=D7 (As (z:=z) l);have u:z∈M.flatten:=(G z).mp h.mem;have nd:=h.nd s;have H:=h.to s;rw[E z h.mem]at H;have B:=JJ l (l.hneg z u);have I:nx M (-z)=a.headD z:=H;rw[I]at B;have key:ui (K23.C z M) (plc M (-z)) (plc M z):=by
  cases a with
  |nil=>
   have:plc M z=plc M (-z):=B;rw[this];exact .base
  |cons x w=>
   have J:plc M x=plc M (-z):=B;rw[←J];have L:Rt N x (w++z::[]):=by simpa using h.step
   rw[ah]at nd;have out:∀y∈x::w,y≠z/\y ≠ -z:=λy n=>⟨λq=>nd.1 (q ▸ n),λq=>t (q ▸ n)⟩
   exact Y9 l s E G w L (out x (by simp)).1 (out x (by simp)).2 λy n=>out y (mCo _ n)
 unfold RC;simp only[decide_eq_false_iff_not,Classical.not_not];exact key.symm hw
theorem O8(z:Int):∀rs:Λ,rs.countP (λr=>decide (z∈r))<=rs.flatten.count z
 | []=>aa _
 |r::rs=>by
  have l:=O8 z rs;rw[bT,fCq,cAq]
  by_cases h:z∈r
  .have:=bg.mpr h;simp[h];lia
  .simp[h];lia
noncomputable def Jc(hn:N.flatten.Nodup)(hz:z∈N.flatten):N.countP (λr=>decide (z∈r))=1:=by
 have n:=O8 z N;have s:=fW.mp hn z;obtain⟨r,hr,l⟩:=mFq.mp hz;have t:0<N.countP (λr=>decide (z∈r)):=List.countP_pos_iff.mpr ⟨r,hr,d4 l⟩
 lia
theorem VI{p q:Ϝ->Bool}:∀{rs:Λ},(∀r∈rs,¬ (p r=true/\q r=true))->rs.countP (λr=>p r || q r)=rs.countP p+rs.countP q
 | [],_=>rfl
 |r::rs,h=>by
  have l:=VI (p:=p) (q:=q) (rs:=rs) λr hr=>h r (mCo _ hr)
  have n:=h r (ao ..);rw[bT,bT,bT,l];cases a:p r <;> cases b:q r <;> simp[a,b]at n ⊢ <;> lia
def U0(z:Int)(rs:Λ):rs.length=(K25.rest z rs).length+rs.countP (λr=>decide (z∈r) || decide (-z∈r)):=by
 have:=bZ (p:=λr:Ϝ=>decide (z∈r) || decide (-z∈r)) (l:=rs)
 unfold K25.rest;rw[←bS];have e:rs.countP (λa=>decide ¬ ((decide (z∈a) || decide (-z∈a))=true))=rs.countP (λr=>!decide (z∈r) && !decide (-z∈r)):=by
  congr 1;funext r;rw[cx];simp
 rw[e]at this;lia
def QQ(L:Mp M)(gd:rY (M.map good)=M)(hlen:M.length+M.flatten.length<=400)(hz:z∈M.flatten)(n:z ≠ -z):∃F G:Λ,K15.pY [dM M]=some (.ow (F.map aI))/\K15.pY [dM (rY ((K23.C z M).map good))]=some (.ow (G.map aI))/\((G.length=F.length+1/\(∃r∈F,z∈r/\-z∈r)/\∃u v,Rt F z (u ++ -z::v)/\G=rY ((K25.rest z F++[u,v]).map good))∨(G.length+1=F.length/\RC M z=false/\(∀r∈F,z∈r->-z∉r)/\∃a b,Rt F z a/\Rt F (-z) b/\G=rY ((K25.rest z F++[a++b]).map good)))/\F.flatten.Perm M.flatten/\∀x∈F.flatten,nx F x=fw M x:=by
 obtain⟨F,T,E,bF,lF,U⟩:=vZ L;have H:F.flatten.Nodup:=E.nodup_iff.mpr L.hn;have X:Mp F:=⟨H,by rw[E.length_eq];exact L.hl,by lia,λe he=>E.mem_iff.mpr (L.hneg e (E.mem_iff.mp he))⟩
 have I:z∈F.flatten:=E.mem_iff.mpr hz;have J:-z∈F.flatten:=E.mem_iff.mpr (L.hneg z hz);obtain⟨M2,e2,_,_,hD⟩:=drawn (rs:=F) (z:=z) X (by rw[E.length_eq];lia) I n
 obtain⟨F',f1,_,f2,_⟩:=K16.C4 L (by lia)
 rw[T]at f1;have eF:F.map aI=F'.map aI:=AV.ow.inj (aw.inj f1);have inj:∀{A B:Λ},A.map aI=B.map aI->A=B:=λ{A B} h=>by
  have:(A.map aI).map oB=(B.map aI).map oB:=by rw[h]
  rw[mPq,mPq]at this;have h2:A.map dI=B.map dI:=by
   rw[←mCq (f:=oB∘aI) λr _=>pV r,←mCq (f:=oB∘aI) (l:=B) λr _=>pV r]
   exact this
  have Y:(A.map dI).map xQ=(B.map dI).map xQ:=by rw[h2]
  rw[mPq,mPq]at Y;have P:∀C:Λ,C.map (xQ∘dI)=C:=λC=>(mCq λr _=>tZ r).trans (de _)
  rw[P,P]at Y;exact Y
 have eF':=inj eF;rw[←eF',e2,gd]at f2;have eM:M2=M:=inj (AV.ow.inj (aw.inj f2));subst eM;obtain⟨a,ha⟩:=Rt.of I;have rc:=U0 z F;have hs:∀x,x∈F.flatten↔x∈M2.flatten:=λx=>E.mem_iff
 by_cases c:-z∈a
 .obtain⟨u,v,rfl⟩:=cU c;have O:=Oy H n ha;obtain⟨_,e3⟩:=hD _ O;obtain⟨r,hr,Q⟩:=ha.row;have S:z∈r:=(Q z).mpr (by simp)
  have R:-z∈r:=(Q (-z)).mpr (by simp)
  refine⟨F,_,T,e3,.inl ⟨?_,⟨r,hr,S,R⟩,u,v,ha,rfl⟩,E,U⟩;have cc:F.countP (λr=>decide (z∈r) || decide (-z∈r))=F.countP (λr=>decide (z∈r)):=by
   refine gF λs t=>?_
   simp only[jm,decide_eq_true_eq];constructor
   .rintro(q|q)
    .exact q
    .have:=K25.uF H t hr q R;rw[this];exact S
   .exact λq=>.inl q
  rw[cc,Jc H I]at rc;rw[sH,lMq,lAq];show(K25.rest z F).length+2=_;lia
 .obtain⟨b,hb⟩:=Rt.of J;have O:=Px H n ha hb c;obtain⟨_,e3⟩:=hD _ O;obtain⟨r,hr,Q⟩:=ha.row;have S:z∈r:=(Q z).mpr (by simp)
  have no:∀s∈F,z∈s->-z∉s:=λs t q1 q2=>by
   have:=K25.uF H t hr q1 S;rw[this]at q2;rcases ab.mp ((Q (-z)).mp q2)with e|e
   .exact n e.symm
   .exact c e
  refine⟨F,_,T,e3,.inr ⟨?_,Qu L H U hs n ha c,no,a,b,ha,hb,rfl⟩,E,U⟩;have cc:=VI (p:=λr=>decide (z∈r)) (q:=λr=>decide (-z∈r)) (rs:=F) λs t q=>no s t (of_decide_eq_true q.1) (of_decide_eq_true q.2)
  rw[cc,Jc H I,Jc H J]at rc;rw[sH,lMq,lAq];show(K25.rest z F).length+1+1=_;lia
end
end K17
namespace K21
open PySem L2 Mr Z Xe Zl
open K23 (af6 afp)
noncomputable def sp(n s:Int)(t:Ϝ):Ϝ:=if s∈t then t.take (t.idxOf s+1)++n::t.drop (t.idxOf s+1)else t
def RH(n s:Int)(t:Ϝ):AV:=if s∈t then aI (sp n s t)else .sh (dI t)
def Uh(n s:Int)(t:Ϝ):oB (RH n s t)=dI (sp n s t):=by
 unfold RH sp;split
 .rw[pV]
 .rw[rV]
def Tb{r:Ϝ}{e:Int}(l:e∈r):AI (.list (r.map D.int)) [.int e]=some (.int (r.idxOf e:Nat)):=by
 show(rB (r.map D.int)).bind _=_;rw[sj];show(if _ then _ else _)=_
 rw[pB l]
def Qw{t:Ϝ}(ht:t.length<=1000)(n s:Int):yX [dI t,.int n,.int s]=some (RH n s t):=by
 by_cases h:s∈t
 .have l:decide (s∈t)=true:=d4 h;have ix:=Tb h;have u:xa t none (some ((t.idxOf s:Int)+1))=t.take (t.idxOf s+1):=K12.SN t (t.idxOf s+1);have x:xa t (some ((t.idxOf s:Int)+1)) none=t.drop (t.idxOf s+1):=K12.KG t (t.idxOf s+1);have z:(t.take (t.idxOf s+1)).length+1<=qE:=rP (by rw[lTq];lia)
  have B:(t.take (t.idxOf s+1)++[n]).length+(t.drop (t.idxOf s+1)).length<=qE:=rP (by rw[lAq,lTq,ax,lSq];lia)
  have E:(t.take (t.idxOf s+1)).map D.int++[D.int n]=(t.take (t.idxOf s+1)++[n]).map D.int:=by rw[mBq];rfl
  have G:(t.take (t.idxOf s+1)++[n])++t.drop (t.idxOf s+1)=sp n s t:=by unfold sp;rw[pB h,ag];rfl
  unfold RH;rw[pB h]
  simp_arith [yX,DT,dI,l,ix,uo,u,x,z,E,B,←mBq,G,C6]
 .have l:decide (s∈t)=false:=d6 h;unfold RH;rw[oZ h]
  simp_arith [yX,DT,dI,l]
def Er{rs:Λ}(hr:∀r∈rs,r.length<=1000)(n s:Int):rm rZ (oJ yX (om (oy 0) (om (oy 1) (om (oy 2) oC)))) [i0 n,i0 s] (rs.map dI)=some (rs.map (RH n s)):=by
 rw[Z.um λd=>RH n s (xQ d)]
 .rw[CW λr=>RH n s r]
 .intro d hd;obtain⟨r,l,rfl⟩:=Ck hd;refine⟨[some (.sh (dI r)),i0 n,i0 s],?_⟩
  simp_arith [Qw (hr r l),tZ]
end K21
namespace K48
open PySem L2 Mr
structure Cl (R:Λ)(S:Int->Prop):Prop where
 row:∀t∈R,∀a∈t,∀b∈t,S a->S b
 neg:∀a,S a->S (-a)
def Gp(R:Λ)(x y:Int):Prop:=∀S,Cl R S->S x->S y
noncomputable def Gp.refl(R:Λ)(x:Int):Gp R x x:=λ_ _ h=>h
noncomputable def Gp.of_sub{R l:Λ}(h:∀S,Cl l S->Cl R S){x y:Int}(g:Gp R x y):Gp l x y:=λS c s=>g S (h S c) s
def Oi{R l:Λ}(p:R.Perm l){S:Int->Prop}(c:Cl R S):Cl l S:=⟨λt ht=>c.row t (p.mem_iff.mpr ht),c.neg⟩
def Fz{R l:Λ}(p:R.Perm l){x y:Int}:Gp R x y↔Gp l x y:=⟨Gp.of_sub λS c=>Oi p.symm c,Gp.of_sub λS c=>Oi p c⟩
def JS{f:Ϝ->Ϝ}(l:∀r,(f r).Perm r)(R:Λ){x y:Int}:Gp (R.map f) x y↔Gp R x y:=by
 have key:∀S,Cl (R.map f) S↔Cl R S:=λS=>⟨λc=>⟨λt ht a ha b hb=>c.row (f t) (mMq.mpr ⟨t,ht,rfl⟩) a ((l t).mem_iff.mpr ha) b ((l t).mem_iff.mpr hb),c.neg⟩,λc=>⟨λt ht a ha b hb=>by
  obtain⟨u,n,rfl⟩:=mMq.mp ht;exact c.row u n a ((l u).mem_iff.mp ha) b ((l u).mem_iff.mp hb),c.neg⟩⟩
 exact⟨λg S c s=>g S ((key S).mpr c) s,λg S c s=>g S ((key S).mp c) s⟩
end K48
namespace K27
open PySem L2 Mr Z Xe Zl
open K15 (nx fw wF Cz)
open K25 (Rt FH uF pz qD)
open K21 (sp)
open K23 (C vB)
section
variable {rs N r1 r2:Λ}{n z s f:Int}
def adL{a b:Ϝ}(h:s∉a):sp n s (a++s::b)=a++s::n::b:=by
 unfold sp;rw[pB (by simp),gu,oZ h,fR,bC]
 have e:a++s::b=(a++[s])++b:=by simp
 have l:(a++[s]).length=a.length+1:=by simp
 rw[e,←l,ip,il];simp
def WR{A B:Λ}{r r':Ϝ}:(A++r::B).set A.length r'=A++r'::B:=by
 induction A with
 |nil=>rfl
 |cons a A l=>exact congrArg (a :: ·) l
def adm{t:Ϝ}(h:s∉t):sp n s t=t:=oZ h
def XA(n:Int)(hn:rs.flatten.Nodup)(u:s∈rs.flatten):∃A a b B,rs=A++(a++s::b)::B/\rs.map (sp n s)=A++(a++s::n::b)::B:=by
 obtain⟨r,hr,x⟩:=mFq.mp u;obtain⟨A,B,rfl⟩:=cU hr;obtain⟨a,b,rfl,ha⟩:=gi x;rw[fAq,fCq,nAq,nAq]at hn;refine⟨A,a,b,B,rfl,?_⟩;have l:∀X:Λ,s∉X.flatten->X.map (sp n s)=X:=λX E=>(mCq λt ht=>adm λq=>E (mFq.mpr ⟨t,ht,q⟩)).trans (de _)
 rw[mBq,ai,adL ha,l A λq=>hn.2.2 s q s (by simp) rfl,l B λq=>hn.2.1.2.2 s (by simp) s q rfl]
def WH(n:Int)(l:[]∈rs):∃A B,rs=A++[]::B/\rs.set (rs.idxOf []) [n]=A++[n]::B:=by
 obtain⟨A,B,rfl,t⟩:=gi l;refine⟨A,B,rfl,?_⟩;rw[gu,oZ t,fR,bC,WR]
def GK{rs:Λ}(hn:rs.flatten.Nodup){x y:Int}{w:Ϝ}(h:Rt rs x (y::w)):nx rs x=y:=h.to hn
def BE{rs:Λ}(hn:rs.flatten.Nodup){x y:Int}{w:Ϝ}(h:Rt rs x (w++[y])):nx rs y=x:=GK hn (Rt.go h (b:=[]))
def M3{rs:Λ}(hn:rs.flatten.Nodup){x:Int}(h:Rt rs x []):nx rs x=x:=h.to hn
def Xf{A B:Λ}{a b:Ϝ}{x y:Int}{w:Ϝ}(J:x≠s)(h:Rt (A++(a++s::b)::B) x (y::w)):∃u,Rt (A++(a++s::n::b)::B) x (y::u):=by
 obtain⟨p,q,hr,e⟩:=h;rcases mAq.mp hr with m|m
 .exact⟨w,p,q,bG _ m,e⟩
 .rcases ab.mp m with m|m
  .have key:∃G H,G++x::H=a++s::n::b/\∃u,y::u=H++G:=by
    rcases List.append_eq_append_iff.mp m with⟨l,E,t⟩|⟨l,E,t⟩
    .-- a=p++l
     cases l with
     |nil=>rw[bA]at t;exact absurd (dA.inj t).1 J
     |cons c l=>
      rw[bE]at t;obtain⟨rfl,I⟩:=dA.inj t;refine⟨p,l++s::n::b,by rw[E];simp,?_⟩
      rw[I]at e;cases l with
      |nil=>rw[bA,bE]at e;exact⟨n::b++p,by rw[(dA.inj e).1];rfl⟩
      |cons c l=>rw[bE,bE]at e;exact⟨l++s::n::b++p,by rw[(dA.inj e).1];rfl⟩
    .-- p=a++l
     cases l with
     |nil=>rw[bA]at t;exact absurd (dA.inj t).1.symm J
     |cons c l=>
      rw[bE]at t;obtain⟨rfl,I⟩:=dA.inj t;refine⟨a++s::n::l,q,by rw[I];simp,?_⟩
      rw[E]at e;cases q with
      |cons c q=>rw[bE]at e;exact⟨q++(a++s::n::l),by rw[(dA.inj e).1];rfl⟩
      |nil=>
       rw[bA]at e;cases a with
       |nil=>rw[bA]at e;exact⟨n::l,by rw[(dA.inj e).1];rfl⟩
       |cons c a=>rw[bE]at e;exact⟨a++s::n::l,by rw[(dA.inj e).1];rfl⟩
   obtain⟨G,H,E,u,t⟩:=key;exact⟨u,G,H,aq _ (by rw[E];exact ao),t⟩
  .exact⟨w,p,q,aq _ (mCo _ m),e⟩
noncomputable def aaY{A B:Λ}{a b:Ϝ}:Rt (A++(a++s::n::b)::B) s (n::(b++a)):=⟨a,n::b,aq _ ao,rfl⟩
def XZ{A B:Λ}{a b:Ϝ}(h:n=z∨n = -z):C z (A++(a++s::n::b)::B)=C z (A++(a++s::b)::B):=by
 have e:vB z (a++s::n::b)=vB z (a++s::b):=by
  unfold vB;have q:(!decide (n∈[z, -z]))=false:=by rcases h with rfl|rfl <;> simp
  simp only[eI,List.filter_cons,q,eE,if_false]
 unfold C;rw[mBq,mBq,ai,ai,e]
def Tz{A B:Λ}(h:n=z∨n = -z):C z (A++[n]::B)=C z (A++[]::B):=by
 have e:vB z [n]=vB z []:=by
  unfold vB;rw[bO (by rcases h with rfl|rfl <;> simp)]
 unfold C;rw[mBq,mBq,ai,ai,e]
def abc(l:z∉N.flatten)(t:-z∉N.flatten):C z N=N:=by
 unfold C
 conv=>rhs;rw[←de N]
 refine mCq λr hr=>iH.mpr λe u=>?_
 have m:e∈N.flatten:=mFq.mpr ⟨r,hr,u⟩;simp only[ab,dr,or_false,iU,decide_eq_false_iff_not];rintro(rfl|rfl)
 .exact l m
 .exact t m
noncomputable def Ce{e:Int}(l:e∈N.flatten):∃(k:Nat) (r:Ϝ),N[k]?=some r/\e∈r:=by
 obtain⟨r,hr,h⟩:=mFq.mp l;obtain⟨k,hk⟩:=aj.mp hr;exact⟨k,r,hk,h⟩
def Ll{x y:Int}(l:Mp N)(u:x∈N.flatten)(B:y∈N.flatten)(e:plc N x=plc N y)(h:nx N x=x):x=y:=by
 have E:=K25.FA l.hn u;rw[pB h]at E;have m:[x]∈N:=bg.mp (by lia)
 obtain⟨k,hk⟩:=aj.mp m;obtain⟨j,r,t,hr⟩:=Ce B;rw[plc_eq l.hn hk (by simp),plc_eq l.hn t hr]at e
 rw[←e,hk]at t;cases t;exact(mSq.mp hr).symm
end
end K27
namespace K11
open PySem L2 Mr Z Xe Zl K12
def Qe{p:Λ}(h:Cn p)(hb:[]∈p)(hn:p.flatten.Nodup):p=[[]]:=by
 obtain⟨k,hk⟩:=aj.mp hb;have n:=(gSq.mp hk).1;have l:p.getD k []=[]:=by rw[gDq,hk];rfl
 have u:k=0:=by
  by_cases q:0<k
  .obtain⟨j,e,_,_,s⟩:=h.tr k q n;rw[l]at s;cases s
  .lia
 subst u
 by_cases q:1<p.length
 .obtain⟨j,e,x,t,_⟩:=h.tr 1 (by lia) q
  have:j=0:=by lia
  rw[this,l]at t;cases t
 .cases p with
  |nil=>cases hb
  |cons a p=>
   cases p with
   |nil=>
    have:a=[]:=aw.inj hk;rw[this]
   |cons b p=>exact absurd (show 1<(a::b::p).length by simp) q
section
variable {P:List Λ}
theorem Kz:∀{P:List Λ},P.flatten.flatten.Nodup->∀{p q:Λ}{e:Int},p∈P->q∈P->e∈p.flatten->e∈q.flatten->p=q
 | [],_,p,q,e,z,_,_,_=>by cases z
 |a::P,h,p,q,e,z,E,u,x=>by
  rw[fCq,fAq,nAq]at h;have s:∀{r:Λ},r∈P->e∈r.flatten->e∈P.flatten.flatten:=λ{r} hr hr'=>by
   obtain⟨l,hl,B⟩:=mFq.mp hr';exact mFq.mpr ⟨l,mFq.mpr ⟨r,hr,hl⟩,B⟩
  rcases ab.mp z with t|t
  .rcases ab.mp E with n|n
   .rw[t,n]
   .rw[t]at u;exact absurd rfl (h.2.2 e u e (s n x))
  .rcases ab.mp E with n|n
   .rw[n]at x;exact absurd rfl (h.2.2 e x e (s t u))
   .exact Kz h.2.1 t n u x
def getD_mem{p:Λ}{k:Nat}{e:Int}(h:e∈p.getD k []):p.getD k []∈p:=by
 rw[gDq]at h ⊢;cases q:p[k]? with
 |none=>rw[q]at h;cases h
 |some r=>exact mGq q
end
end K11
namespace K17
open PySem L2 Mr Z Xe Zl
abbrev oR(rs:Λ):AV:=.ow (rs.map λr=>.sh (dI r))
def stp(s:List Ϝ×Λ)(e:Int):List Ϝ×Λ:=match s.1.find? λt=>decide (-e∈t)with
 |some t=>(s.1.erase t,s.2++[t])
 |none=>s
def DI(rs:Λ):(rs.map λr=>AV.sh (dI r)).map oB=rs.map dI:=by rw[mPq];exact mCq λr _=>rV _
def Js{L:Λ}(hn:L.flatten.Nodup){i j:Nat}{r s:Ϝ}{e:Int}(hi:L[i]?=some r)(l:L[j]?=some s)(n:e∈r)(t:e∈s):i=j:=same_place hn hi l n t
theorem erase_map{α β:Type}(f:α->β):∀(l:List α) (k:Nat),(l.map f).eraseIdx k=(l.eraseIdx k).map f
 | [],_=>by simp
 |_::_,0=>rfl
 |a::l,k+1=>by
  show f a::(l.map f).eraseIdx k=f a::(l.eraseIdx k).map f;rw[erase_map f l k]
def Rm{L:Λ}{t:Ϝ}(h:t∈L):L.eraseIdx (L.idxOf t)=L.erase t:=(List.erase_eq_eraseIdx_of_idxOf rfl).symm
section
variable {L P:Λ}{e:Int}{v0 v1 v4:Option AV}
def V0(hn:L.flatten.Nodup)(hl:L.length+P.length<=1000){r0:Option AV}:∃v6,qR 6 rh (L.map dI) [v0,v1,some (oR L),some (oR P),v4,i0 e,r0]=some (.nx [v0,v1,some (oR (stp (L,P) e).1),some (oR (stp (L,P) e).2),v4,i0 e,v6]):=by
 have no:∀(z B:Λ) (t:Ϝ), -e∉t->rh [v0,v1,some (oR z),some (oR B),v4,i0 e,some (.sh (dI t))]=some (.nx [v0,v1,some (oR z),some (oR B),v4,i0 e,some (.sh (dI t))]):=λz B t h=>by
  have hi:=DS false (-e) t;rw[oZ (by simp),d6 h]at hi
  simp_arith [rh,dI,hi]
 unfold stp;cases E:L.find? λt=>decide (-e∈t)with
 |none=>
  have G:∀t∈L, -e∉t:=λt ht q=>by
   have:=iK.mp E t ht;simp[q]at this
  have key:=uQ (x:=6) (body:=rh) (λi S=>∃v6,S=[v0,v1,some (oR L),some (oR P),v4,i0 e,v6]) (ds:=L.map dI) (S:=[v0,v1,some (oR L),some (oR P),v4,i0 e,r0]) ⟨r0,rfl⟩ (by
   rintro i d S hd ⟨v6,rfl⟩;obtain⟨t,ht,rfl⟩:=Bn hd;exact⟨_,no L P t (G t (mGq ht)),_,rfl⟩)
  obtain⟨J,u,v6,rfl⟩:=key;exact⟨v6,u⟩
 |some t=>
  have ht:=gH E;have l:-e∈t:=by simpa using jo E
  obtain⟨a,ha⟩:=aj.mp ht;have M:=(gSq.mp ha).1;have key:=uQ (x:=6) (body:=rh) (λi S=>∃v6,S=(if i<=a then [v0,v1,some (oR L),some (oR P),v4,i0 e,v6]else [v0,v1,some (oR (L.erase t)),some (oR (P++[t])),v4,i0 e,v6])) (ds:=L.map dI) (S:=[v0,v1,some (oR L),some (oR P),v4,i0 e,r0]) ⟨r0,by rw[pB (aT _)]⟩ (by
   rintro i d S hd ⟨v6,rfl⟩;obtain⟨s,H,rfl⟩:=Bn hd
   by_cases c:i=a
   .subst c;rw[ha]at H;cases H;rw[pB (aa _)];refine⟨_,?_,some (.sh (dI t)),(oZ (by lia)).symm⟩
    have hi:=DS false (-e) t;rw[oZ (by simp),d4 l]at hi
    have O:=DI L;have Q:uH (L.map dI)=some L:=FT L;have R:rB (t.map D.int)=some t:=sj t;have hk:L.idxOf t<L.length:=cA.mpr ht;have T:(L.map λr=>AV.sh (dI r))[L.idxOf t]?=some (.sh (dI t)):=by rw[gMq,gEg hk,eD];rfl
    have U:VR (.sh (dI t))=some (dI t):=rfl;have X:(L.map λr=>AV.sh (dI r)).eraseIdx (L.idxOf t)=(L.erase t).map λr=>.sh (dI r):=by rw[←Rm ht,erase_map]
    have ap:(P.map λr=>AV.sh (dI r))++[.sh (dI t)]=(P++[t]).map λr=>.sh (dI r):=by rw[mBq];rfl
    have Y:P.length<qE:=by show _<16777216;lia
    unfold oR
    simp_arith [rh,abk,hi,O,Q,R,T,U,ht,X,Y,ap,dI]
   .have n:-e∉s:=λq=>c (Js hn H ha q l)
    by_cases I:i<=a
    .rw[pB I];exact⟨_,no L P s n,_,(pB (by lia)).symm⟩
    .rw[oZ I];exact⟨_,no _ _ s n,_,(oZ (by lia)).symm⟩)
  obtain⟨J,u,v6,rfl⟩:=key;rw[lMq,oZ (by lia)]at u
  exact⟨v6,u⟩
end
structure Fo (L P:Λ)(r:Ϝ)(F:List Ϝ×Λ)(X:Λ):Prop where
 ap:F.2=P++X
 pm:L.Perm (X++F.1)
 to:∀t∈X,∃e∈r, -e∈t
 no:∀e∈r, -e∉F.1.flatten
def qY{L M:Λ}(h:L.Perm M):L.flatten.Perm M.flatten:=by
 induction h with
 |nil=>exact .refl _
 |cons a _ n=>rw[fCq,fCq];exact n.append_left a
 |swap a b l=>
  rw[fCq,fCq,fCq,fCq,←ag,←ag];exact bD.append_right _
 |trans _ _ s t=>exact s.trans t
def Ss{L P:Λ}(hn:L.flatten.Nodup)(e:Int):∃X,Fo L P [e] (stp (L,P) e) X:=by
 unfold stp;cases n:L.find? λt=>decide (-e∈t)with
 |none=>
  refine⟨[],by simp,by simp,by simp,λx u q=>?_⟩
  rw[mSq.mp u]at q;obtain⟨t,ht,l⟩:=mFq.mp q;have:=iK.mp n t ht;simp[l]at this
 |some t=>
  have ht:=gH n;have l:-e∈t:=by simpa using jo n
  have pm:=List.perm_cons_erase ht;refine⟨[t],rfl,pm,λs z=>⟨e,by simp,by rw[mSq.mp z];exact l⟩,λx u q=>?_⟩
  rw[mSq.mp u]at q;have:=(qY pm).nodup_iff.mp hn;rw[fCq,nAq]at this;exact this.2.2 _ l _ q rfl
def Fo.nd{L P:Λ}{r:Ϝ}{F X}(h:Fo L P r F X)(hn:L.flatten.Nodup):F.1.flatten.Nodup:=by
 have:=(qY h.pm).nodup_iff.mp hn;rw[fAq,nAq]at this;exact this.2.1
def Fo.ln{L P:Λ}{r:Ϝ}{F X}(h:Fo L P r F X):F.1.length+F.2.length=L.length+P.length:=by
 have:=h.pm.length_eq;rw[lAq]at this;rw[h.ap,lAq];lia
theorem Ph:∀(r:Ϝ) {L P:Λ},L.flatten.Nodup->∃X,Fo L P r (r.foldl stp (L,P)) X
 | [],L,P,_=>⟨[],by simp,by simp,by simp,by simp⟩
 |e::r,L,P,hn=>by
  obtain⟨X,h⟩:=Ss (P:=P) hn e;obtain⟨Y,g⟩:=Ph r (L:=(stp (L,P) e).1) (P:=(stp (L,P) e).2) (h.nd hn);refine⟨X++Y,?_,?_,?_,?_⟩
  .show(r.foldl stp (stp (L,P) e)).2=_;rw[g.ap,h.ap,ag]
  .show L.Perm (X++Y++(r.foldl stp (stp (L,P) e)).1);rw[ag];exact h.pm.trans (g.pm.append_left X)
  .intro t ht;rcases mAq.mp ht with q|q
   .obtain⟨x,n,l⟩:=h.to t q;rw[mSq.mp n]at l;exact⟨e,by simp,l⟩
   .obtain⟨x,n,l⟩:=g.to t q;exact⟨x,mCo _ n,l⟩
  .intro x n q;rcases ab.mp n with c|c
   .refine h.no e (by simp) ?_
    rw[c]at q;exact(qY g.pm).mem_iff.mpr (by rw[fAq];exact mAq.mpr (.inr q))
   .exact g.no x c q
section
variable {v0 v1 v4:Option AV}
theorem Ir:∀(r:Ϝ) {L P:Λ}{r5 r6:Option AV},L.flatten.Nodup->L.length+P.length<=1000->∃v5 v6,qR 5 tF (r.map D.int) [v0,v1,some (oR L),some (oR P),v4,r5,r6]=some (.nx [v0,v1,some (oR (r.foldl stp (L,P)).1),some (oR (r.foldl stp (L,P)).2),v4,v5,v6])
 | [],L,P,r5,r6,_,_=>⟨r5,r6,rfl⟩
 |e::r,L,P,r5,r6,hn,hl=>by
  obtain⟨X,h⟩:=Ss (P:=P) hn e;obtain⟨v6,s⟩:=V0 (v0:=v0) (v1:=v1) (v4:=v4) (e:=e) (r0:=r6) hn hl;have t:=DI L;have u:tF [v0,v1,some (oR L),some (oR P),v4,i0 e,r6]=some (.nx [v0,v1,some (oR (stp (L,P) e).1),some (oR (stp (L,P) e).2),v4,i0 e,v6]):=by
   unfold oR at s ⊢;have x:L.length<=qE:=rP (by lia)
   simp_arith [tF,t,s,x]
  obtain⟨l,n,z⟩:=Ir r (L:=(stp (L,P) e).1) (P:=(stp (L,P) e).2) (r5:=i0 e) (r6:=v6) (h.nd hn) (by rw[h.ln];exact hl)
  refine⟨l,n,?_⟩;show(tF [v0,v1,some (oR L),some (oR P),v4,i0 e,r6]).bind _=_;rw[u];exact z
end
structure Gv (L0 L P:Λ)(k:Nat):Prop where
 pm:L0.Perm (P++L)
 tr:K11.Hw P
 ne:P≠[]
 le:k<=P.length
 no:∀j,j<k->∀e∈P.getD j [], -e∉L.flatten
noncomputable def mu3(N:Nat):AS->Nat
 | [_,_,_,_,some (.sh (.int k)),_,_]=>N+1-k.toNat
 |_=>0
def Bz{P X:Λ}{j:Nat}(h:j<P.length):(P++X).getD j []=P.getD j []:=by
 rw[gDq,gDq,gZq h]
section
variable {v0 v1:Option AV}
abbrev wc2:MT:=rA (oV M0 (oj 4) (tT qM (oi (oj 3) ox)))
def QK{l L P:Λ}{r5 r6:Option AV}(hn:l.flatten.Nodup)(hl:l.length<=1000)(Y:Gv l L P 0):∃S',rq wc2 uW 100000 [v0,v1,some (oR L),some (oR P),i0 0,r5,r6]=some (.nx S')/\∃u s v4 v5 v6,S'=[v0,v1,some (oR u),some (oR s),v4,v5,v6]/\Gv l u s s.length:=by
 refine wa (c:=wc2) (body:=uW) (λS=>∃L P k v5 v6,S=[v0,v1,some (oR L),some (oR P),i0 ((k:Nat):Int),v5,v6]/\Gv l L P k) (mu3 l.length) (λS'=>∃u s v4 v5 v6,S'=[v0,v1,some (oR u),some (oR s),v4,v5,v6]/\Gv l u s s.length) ?_ 100000 _ ⟨L,P,0,r5,r6,rfl,Y⟩ ?_
 .rintro S ⟨L,P,k,v5,v6,rfl,hi⟩;have E:=DI P;have G:=hi.pm.length_eq;rw[lAq]at G
  by_cases hk:k<P.length
  .have hr:P[k]?=some P[k]:=gEg hk;have R:P.getD k []=P[k]:=by rw[gDq,hr];rfl
   have nd:=(qY hi.pm).nodup_iff.mp hn;rw[fAq,nAq]at nd;obtain⟨X,n⟩:=Ph P[k] (L:=L) (P:=P) nd.2.1;obtain⟨x,B,H⟩:=Ir (v0:=v0) (v1:=v1) (v4:=i0 ((k:Nat):Int)) P[k] (L:=L) (P:=P) (r5:=v5) (r6:=v6) nd.2.1 (by lia)
   have I:((k:Nat):Int)<(P.length:Int):=by lia
   have J:atI (P.map dI) ((k:Nat):Int)=some (dI P[k]):=tu (by rw[gMq,hr];rfl)
   have lF:=n.ln;generalize List.foldl stp (L,P) P[k]=F at n H lF;have M:l.Perm (F.2++F.1):=by
    rw[n.ap,ag];exact hi.pm.trans (n.pm.append_left P)
   have T:F.2.length=P.length+X.length:=by rw[n.ap,lAq]
   refine⟨true,[v0,v1,some (oR L),some (oR P),i0 ((k:Nat):Int),v5,v6],?_,λ_=>⟨[v0,v1,some (oR F.1),some (oR F.2),i0 ((k+1:Nat):Int),x,B],?_,⟨F.1,F.2,k+1,x,B,rfl,M,?_,?_,by lia,?_⟩,?_⟩,λq=>(nomatch q)⟩
   .unfold oR
    simp_arith [E,I]
   .have O:((k+1:Nat):Int)=(k:Int)+1:=by lia
    have di:dI P[k] = .list (P[k].map D.int):=rfl;unfold oR at H ⊢
    simp_arith [uW,E,J,di,H,O]
   .intro i h1 U;rw[n.ap]at U ⊢
    by_cases q:i<P.length
    .obtain⟨j,e,a,b,c⟩:=hi.tr i h1 q;refine⟨j,e,a,?_,?_⟩
     .rw[Bz (by lia)];exact b
     .rw[Bz q];exact c
    .have hm:(P++X).getD i []∈X:=by
      rw[gDq,gYq (by lia)]
      rw[lAq]at U;rw[gEg (by lia)]
      exact gRq _
     obtain⟨e,t,Q⟩:=n.to _ hm;refine⟨k,e,by lia,?_,Q⟩
     rw[Bz hk,R];exact t
   .intro z;rw[z]at T;simp at T;lia
   .intro j hj e t q;rw[n.ap,Bz (by lia)]at t
    by_cases c:j<k
    .refine hi.no j c e t ((qY n.pm).mem_iff.mpr ?_);rw[fAq];exact mAq.mpr (.inr q)
    .have:j=k:=by lia
     subst this;rw[R]at t;exact n.no e t q
   .show l.length+1-fA ((k+1:Nat):Int)<l.length+1-fA ((k:Nat):Int);rw[cu,cu];lia
  .have O:k=P.length:=by have:=hi.le;lia
   have I:¬ ((k:Nat):Int)<(P.length:Int):=by lia
   refine⟨false,[v0,v1,some (oR L),some (oR P),i0 ((k:Nat):Int),v5,v6],?_,λq=>(nomatch q),λ_=>⟨L,P,_,v5,v6,rfl,?_⟩⟩
   .unfold oR
    simp_arith [E,I]
   .rw[←O];exact hi
 .show l.length+1-fA 0<100000;lia
def Gv.part{n L P:Λ}(h:Gv n L P P.length)(t:∀z∈n.flatten, -z∈n.flatten):K11.Cn P/\∀z∈L.flatten, -z∈L.flatten:=by
 have mem:∀{z:Int},z∈n.flatten↔z∈P.flatten∨z∈L.flatten:=λ{z}=>by
  rw[(qY h.pm).mem_iff,fAq,mAq]
 have no:∀e∈P.flatten, -e∉L.flatten:=λe x=>by
  obtain⟨r,hr,s⟩:=mFq.mp x;obtain⟨j,u⟩:=aj.mp hr;refine h.no j (gSq.mp u).1 e ?_;rw[gDq,u];exact s
 refine⟨⟨h.ne,λz l=>?_,h.tr⟩,λz l=>?_⟩
 .rcases mem.mp (t z (mem.mpr (.inl l)))with q|q
  .exact q
  .exact absurd q (no z l)
 .rcases mem.mp (t z (mem.mpr (.inr l)))with q|q
  .refine absurd ?_ (no _ q);rw[bp];exact l
  .exact q
abbrev oG(G:List Λ):AV:=.ow (G.map λp=>.sh (dM p))
structure Hv (L0:Λ)(G:List Λ)(L:Λ):Prop where
 pm:L0.Perm (G.flatten++L)
 cn:∀p∈G,K11.Cn p
 clo:∀z∈L.flatten, -z∈L.flatten
 gl:G.length+L.length<=L0.length
noncomputable def mu4:AS->Nat
 | [_,_,some (.ow l),_,_,_,_]=>l.length
 |_=>0
def GH{l:Λ}(hn:l.flatten.Nodup)(hl:l.length<=1000)(X:∀z∈l.flatten, -z∈l.flatten):∃G,wq [dM l]=some (oG G)/\l.Perm G.flatten/\(∀p∈G,K11.Cn p)/\G.length<=l.length:=by
 have key:∃E,rq (C5 (oj 2)) uX 100000 [some (.sh (dM l)),some (oG []),some (oR l),none,none,none,none]=some (.nx E)/\∃G I t u n s,E=[some (.sh (dM l)),some (oG G),I,t,u,n,s]/\Hv l G []:=by
  refine wa (c:=C5 (oj 2)) (body:=uX) (λS=>∃G L t u n s,S=[some (.sh (dM l)),some (oG G),some (oR L),t,u,n,s]/\Hv l G L) mu4 (λE=>∃G I t u n s,E=[some (.sh (dM l)),some (oG G),I,t,u,n,s]/\Hv l G []) ?_ 100000 _ ⟨[],l,none,none,none,none,rfl,by simp,by simp,X,by simp⟩ ?_
  .rintro S ⟨G,L,t,u,n,s,rfl,hi⟩;have U:=DI L;cases L with
   |nil=>
    refine⟨false,[some (.sh (dM l)),some (oG G),some (oR []),t,u,n,s],?_,λq=>(nomatch q),λ_=>⟨G,_,t,u,n,s,rfl,hi⟩⟩
    unfold oR
    simp_arith [U,Co,ji,iX]
   |cons a L=>
    have M:=hi.gl;rw[lCq]at M;have nd:=(qY hi.pm).nodup_iff.mp hn;rw[fAq,nAq]at nd;have Y:Gv (a::L) L [a] 0:=⟨.refl _,λk h1 h2=>absurd h2 (by simp;lia),by simp,by simp,λj hj=>absurd hj (cG _)⟩
    obtain⟨E,x,O,B,P,Q,R,rfl,J⟩:=QK (v0:=some (.sh (dM l))) (v1:=some (oG G)) (r5:=n) (r6:=s) nd.2.1 (by rw[lCq];lia) Y
    obtain⟨cn,clo⟩:=J.part hi.clo;have H:=J.pm.length_eq;rw[lAq,lCq]at H;have hpl:0<B.length:=cH.mpr J.ne;have sP:=DI B;refine⟨true,[some (.sh (dM l)),some (oG G),some (oR (a::L)),t,u,n,s],?_,λ_=>⟨[some (.sh (dM l)),some (oG (G++[B])),some (oR O),some (.sh (dM B)),P,Q,R],?_,⟨G++[B],O,_,_,_,_,rfl,?_,?_,clo,?_⟩,?_⟩,λq=>(nomatch q)⟩
    .unfold oR
     simp_arith [U,Co,ji,iX]
    .have l1:G.length<qE:=by show _<16777216;lia
     have l2:L.length+1<=qE:=rP (by lia)
     have ap:(G.map λp=>AV.sh (dM p))++[.sh (.list (B.map dI))]=(G++[B]).map λp=>.sh (dM p):=by rw[mBq];rfl
     have c0:(0:Int)<=0/\(0:Int)<((L.length+1:Nat):Int)/\L.length+1<=qE:=⟨by lia,by lia,l2⟩
     have er:(AV.sh (dI a)::L.map λr=>AV.sh (dI r)).eraseIdx (0:Int).toNat=L.map λr=>.sh (dI r):=rfl
     have g1:(AV.sh (dI a)::L.map λr=>AV.sh (dI r))[(0:Int).toNat]?=some (.sh (dI a)):=rfl
     have o1:[AV.sh (dI a)]=[a].map λr=>.sh (dI r):=rfl
     unfold oR oG wc2 at x;unfold oR oG;rw[←o1]at x
     simp_arith [uX,aaA,c0,er,g1,and_self,x,sP,l1,ap]
    .rw[fAq,ag];refine hi.pm.trans (bY.append_left _ ?_);simpa using J.pm
    .intro p hp;rcases mAq.mp hp with q|q
     .exact hi.cn p q
     .rw[mSq.mp q];exact cn
    .rw[lAq,lSq];lia
    .show(O.map _).length<((a::L).map _).length;rw[lMq,lMq,lCq];lia
  .show(l.map _).length<100000;rw[lMq];lia
 obtain⟨E,x,G,I,t,u,n,s,rfl,T⟩:=key;refine⟨G,?_,?_,T.cn,?_⟩
 .have ll:l.length<=qE:=rP (by lia)
  have mm:(l.map dI).map AV.sh=l.map λr=>.sh (dI r):=by rw[mPq];rfl
  have dm:dM l = .list (l.map dI):=rfl;unfold oR oG at x;rw[eB]at x;unfold oG;rw[dm]at x ⊢
  simp_arith [wq,DK,ll,mm,x]
 .have:=T.pm;rw[aNq]at this;exact this
 .have:=T.gl;rw[cF]at this;lia
end
end K17
namespace K17
open PySem L2 Mr Z Xe Zl
open K51 (ui Ps Pc)
theorem GU:∀{A:List Λ},(∀p∈A,([]:Ϝ)∈p->p=[[]])->A.flatten.count []=A.countP λp=>decide (p=[[]])
 | [],_=>rfl
 |p::A,h=>by
  rw[fCq,cAq,GU λq l=>h q (mCo _ l),bT]
  by_cases c:([]:Ϝ)∈p
  .rw[h p (ao ..) c];simp;lia
  .rw[iJ.mpr c,oZ (by
    simp only[decide_eq_true_eq];intro e;exact c (by rw[e];simp))]
   lia
def NV{a b:Ϝ}(h:∀y,y∈a↔y∈b)(ha:a≠[]):∃m,a.min?=some m/\b.min?=some m/\m∈a:=by
 cases e:a.min? with
 |none=>exact absurd (List.min?_eq_none_iff.mp e) ha
 |some m=>
  have q:=(fP (xs:=a)).mp e;exact⟨m,rfl,(fP (xs:=b)).mpr ⟨(h m).mp q.1,λx l=>q.2 x ((h x).mpr l)⟩,q.1⟩
theorem Mq:∀{A:List Λ},A.flatten.flatten.Nodup->(∀p∈A,p.flatten≠[])->(A.map λp=>p.flatten.min?).Nodup
 | [],_,_=>aV
 |p::A,h,hne=>by
  rw[fCq,fAq,nAq]at h;rw[ai];refine ah.mpr ⟨λm=>?_,Mq h.2.1 λq l=>hne q (mCo _ l)⟩
  obtain⟨q,l,e⟩:=mMq.mp m;obtain⟨a,s,_,t⟩:=NV (λ_=>Iff.rfl) (hne p (ao ..))
  rw[s]at e;have:=((fP (xs:=q.flatten)).mp e).1;obtain⟨r,hr,n⟩:=mFq.mp this;exact h.2.2 a t a (mFq.mpr ⟨r,mFq.mpr ⟨q,l,hr⟩,n⟩) rfl
structure Bp (A:List Λ):Prop where
 nd:A.flatten.flatten.Nodup
 ne:∀p∈A,p≠[]
 ba:∀p∈A,([]:Ϝ)∈p->p=[[]]
def L8{l m:Λ}(h:l.Sublist m):l.flatten.Sublist m.flatten:=by
 induction h with
 |slnil=>exact .refl _
 |cons a _ n=>rw[fCq];exact n.trans (gG ..)
 |cons_cons a _ n=>rw[fCq,fCq];exact(cE.refl a).append n
def PU{A:List Λ}(h:A.flatten.flatten.Nodup)(f:Λ->Bool):(A.filter f).flatten.flatten.Nodup:=by
 rw[iw]at h ⊢;exact h.sublist (L8 (dg.map _))
def Bp.fne{A:List Λ}(h:Bp A){p:Λ}(l:p∈A)(hb:p≠[[]]):p.flatten≠[]:=λz=>by
 cases p with
 |nil=>exact h.ne _ l rfl
 |cons a p=>
  rw[fCq]at z;have:a=[]:=(fE.mp z).1;subst this;exact hb (h.ba _ l (ao ..))
def adY{A B:List Λ}(H:Bp A)(Q:Bp B)(L:∀x,x∈A.flatten.flatten->x∈B.flatten.flatten)(sh:∀p∈A,∀q∈B,∀x,x∈p.flatten->x∈q.flatten->∀y,y∈p.flatten↔y∈q.flatten){k:Option Int}(hk:k∈(A.filter λp=>!decide (p=[[]])).map λp=>p.flatten.min?):k∈(B.filter λp=>!decide (p=[[]])).map λp=>p.flatten.min?:=by
 obtain⟨p,n,e⟩:=mMq.mp hk;obtain⟨n,hb⟩:=bq.mp n;have s:p≠[[]]:=by simpa using hb
 obtain⟨m,R,_,I⟩:=NV (λ_=>Iff.rfl) (H.fne n s)
 obtain⟨r,hr,u⟩:=mFq.mp I;obtain⟨M,E,t⟩:=mFq.mp (L m (mFq.mpr ⟨r,mFq.mpr ⟨p,n,hr⟩,u⟩));obtain⟨q,J,G⟩:=mFq.mp E;have l:m∈q.flatten:=mFq.mpr ⟨M,G,t⟩;obtain⟨S,O,P,_⟩:=NV (sh p n q J m I l) (H.fne n s);rw[←e];refine mMq.mpr ⟨q,bq.mpr ⟨J,?_⟩,by rw[O,P]⟩
 have:q≠[[]]:=λz=>by rw[z]at l;simp at l
 simpa using this
def HL{A B:List Λ}(s:Bp A)(t:Bp B)(u:∀x,x∈A.flatten.flatten↔x∈B.flatten.flatten)(sh:∀p∈A,∀q∈B,∀x,x∈p.flatten->x∈q.flatten->∀y,y∈p.flatten↔y∈q.flatten)(z:A.flatten.count []=B.flatten.count []):A.length=B.length:=by
 have E:=Mq (PU s.nd λp=>!decide (p=[[]])) λp n=>s.fne (bq.mp n).1 (by simpa using (bq.mp n).2)
 have G:=Mq (PU t.nd λp=>!decide (p=[[]])) λp n=>t.fne (bq.mp n).1 (by simpa using (bq.mp n).2)
 have pm:=((bx E G).mpr λk=>⟨adY s t (λx=>(u x).mp) sh,adY t s (λx=>(u x).mpr) λp n q H x I J y=>(sh q H p n x J I y).symm⟩).length_eq
 rw[lMq,lMq,←bS,←bS]at pm;rw[GU s.ba,GU t.ba]at z;have L:=bZ (l:=A) λp=>decide (p=[[]])
 have M:=bZ (l:=B) λp=>decide (p=[[]])
 have f:(λp:Λ=>!decide (p=[[]]))=λp=>decide ¬ (decide (p=[[]])=true):=by
  funext p
  by_cases c:p=[[]] <;> simp[c]
 rw[f]at pm;lia
abbrev cls(M:Λ)(PS:List Θ):List Λ:=PS.map λps=>ps.map λk=>M.getD k []
section
variable {M:Λ}{kn:Θ}{PS:List Θ}
def Y8{S:Int->Prop}(u:K51.Mp M)(hneg:∀x,S x->S (-x))(l:∀r∈M,∀x∈r,∀y∈r,S x->S y){a b:Nat}(h:ui M a b)(ha:∀x∈M.getD a [],S x):∀y∈M.getD b [],S y:=by
 induction h with
 |base=>exact ha
 | @step k r e _ z B H=>
  intro y E;have I:M.getD k []=r:=by rw[gDq,z];rfl
  have J:=hneg e (H e (by rw[I];exact B))
  have L:e∈M.flatten:=mFq.mpr ⟨r,mGq z,B⟩;obtain⟨G,n,s⟩:=u.at (u.hneg e L);have t:M.getD (K51.plc M (-e)) []=G:=by rw[gDq,n];rfl
  rw[t]at E;exact l G (mGq n) _ s y E J
def E8{ps:Θ}{s:Nat}(n:K51.Mp M)(pc:Pc M s ps){x:Int}:x∈(ps.map λk=>M.getD k []).flatten↔∃k,ui M s k/\x∈M.getD k []:=by
 rw[mFq];constructor
 .rintro⟨r,hr,l⟩;obtain⟨k,hk,rfl⟩:=mMq.mp hr;exact⟨k,(pc.iff k).mp hk,l⟩
 .rintro⟨k,hk,l⟩;exact⟨_,mMq.mpr ⟨k,(pc.iff k).mpr hk,rfl⟩,l⟩
def Vg{S:Int->Prop}{ps:Θ}{s:Nat}(t:K51.Mp M)(pc:Pc M s ps)(hneg:∀x,S x->S (-x))(l:∀r∈M,∀x∈r,∀y∈r,S x->S y){x:Int}(B:x∈(ps.map λk=>M.getD k []).flatten)(h:S x):∀y∈(ps.map λk=>M.getD k []).flatten,S y:=by
 intro y E;obtain⟨a,ha,n⟩:=(E8 t pc).mp B;obtain⟨b,hb,u⟩:=(E8 t pc).mp E;exact Y8 t hneg l ((ha.symm t).trans hb) (λz G=>l _ (K11.getD_mem n) x n z G h) y u
def Di{ps:Θ}{s:Nat}(t:K51.Mp M)(pc:Pc M s ps){x:Int}(z:x∈(ps.map λk=>M.getD k []).flatten):-x∈(ps.map λk=>M.getD k []).flatten:=by
 obtain⟨k,hk,l⟩:=(E8 t pc).mp z;have hr:M[k]?=some (M.getD k []):=by
  rw[gDq]at l ⊢;cases q:M[k]? with
  |none=>rw[q]at l;cases l
  |some r=>rfl
 obtain⟨B,u,n⟩:=t.at (t.hneg x (mFq.mpr ⟨_,mGq hr,l⟩));refine(E8 t pc).mpr ⟨_,.step hk hr l,?_⟩;rw[gDq,u];exact n
def Kk{ps:Θ}{s:Nat}(u:K51.Mp M)(pc:Pc M s ps){r:Ϝ}(hr:r∈M){x y:Int}(z:x∈r)(B:y∈r)(h:x∈(ps.map λk=>M.getD k []).flatten):y∈(ps.map λk=>M.getD k []).flatten:=by
 obtain⟨t,ht,l⟩:=mFq.mp h;obtain⟨k,hk,rfl⟩:=mMq.mp ht;have E:=K11.getD_mem l;obtain⟨i,hi⟩:=aj.mp hr;obtain⟨j,n⟩:=aj.mp E;have:=Js u.hn hi n z l;subst this;rw[hi]at n;refine mFq.mpr ⟨_,ht,?_⟩;rw[←aw.inj n];exact B
def NM(H:K51.Mp M)(x:Ps M M.length kn PS):Bp (cls M PS):=by
 have pm:=K12.ya x;refine⟨(qY pm).nodup_iff.mpr H.hn,λp h=>?_,λp h hb=>?_⟩
 .obtain⟨n,t,rfl⟩:=mMq.mp h;obtain⟨s,I,pc⟩:=x.pc n t;intro z;have m:s∈n:=(pc.iff s).mpr .base;rw[List.map_eq_nil_iff.mp z]at m;cases m
 .obtain⟨n,t,rfl⟩:=mMq.mp h;obtain⟨s,I,pc⟩:=x.pc n t;obtain⟨k,hk,B⟩:=mMq.mp hb;have u:=pc.lt k hk;have E:M[k]?=some []:=by
   rw[gDq,gEg u]at B;rw[gEg u];exact congrArg some B
  have only:∀j,ui M k j->j=k:=λj G=>by
   induction G with
   |base=>rfl
   |step _ a b J=>
    rw[J,E]at a;cases a;cases b
  have all:∀j∈n,j=k:=λj G=>only j ((((pc.iff k).mp hk).symm H).trans ((pc.iff j).mp G))
  have nd:=pc.nd;have e:n=[k]:=by
   match n,hk,all,nd with
   | [a],_,all,_=>rw[all a (by simp)]
   |a::b::l,_,all,nd=>exact absurd ((all a (by simp)).trans (all b (by simp)).symm) (λz=>(ah.mp nd).1 (by rw[z];simp))
  rw[e];show[M.getD k []]=[[]];rw[B]
def Gh{N:Λ}{I:Θ}{u:List Θ}(B:K51.Mp M)(hn:K51.Mp N)(J:Ps M M.length kn PS)(l:Ps N N.length I u)(T:∀x,x∈M.flatten↔x∈N.flatten)(hb:M.count []=N.count [])(U:∀S:Int->Prop,(∀x,S x->S (-x))->(∀r∈N,∀x∈r,∀y∈r,S x->S y)->∀r∈M,∀x∈r,∀y∈r,S x->S y)(X:∀S:Int->Prop,(∀x,S x->S (-x))->(∀r∈M,∀x∈r,∀y∈r,S x->S y)->∀r∈N,∀x∈r,∀y∈r,S x->S y):PS.length=u.length:=by
 have pm:=K12.ya J;have E:=K12.ya l;have:=HL (NM B J) (NM hn l) (λx=>((qY pm).mem_iff.trans (T x)).trans (qY E).mem_iff.symm) (λp h q Y x P G y=>by
  obtain⟨Q,L,rfl⟩:=mMq.mp h;obtain⟨s,_,pc⟩:=J.pc Q L;obtain⟨R,O,rfl⟩:=mMq.mp Y;obtain⟨t,_,H⟩:=l.pc R O;exact⟨Vg B pc (λz n=>Di hn H n) (U (· ∈ (R.map λk=>N.getD k []).flatten) (λz n=>Di hn H n) λr hr a ha b hb h=>Kk hn H hr ha hb h) P G y,Vg hn H (λz n=>Di B pc n) (X (· ∈ (Q.map λk=>M.getD k []).flatten) (λz n=>Di B pc n) λr hr a ha b hb h=>Kk B pc hr ha hb h) G P y⟩) (by rw[pm.count_eq,E.count_eq,hb])
 rwa [lMq,lMq]at this
end
end K17
namespace K19
open PySem L2 Mr Z Xe Zl K15 K16
def abP{t:Ϝ}(h:t.Nodup):(t.map λz=>-z).Nodup:=by
 rw[aG,bf];exact(aG.mp h).imp λq e=>q (by lia)
end K19
namespace K17
open PySem L2 Mr Z Xe Zl
open K15 (nx fw)
open K25 (Rt)
open K43 (D7 L9)
open K51 (ui Ps Pc)
def zK{A B:Λ}(h:A.map aI=B.map aI):A=B:=by
 have:(A.map aI).map oB=(B.map aI).map oB:=by rw[h]
 rw[mPq,mPq]at this;have t:A.map dI=B.map dI:=by
  rw[←mCq (f:=oB∘aI) λr _=>pV r,←mCq (f:=oB∘aI) (l:=B) λr _=>pV r]
  exact this
 have s:(A.map dI).map xQ=(B.map dI).map xQ:=by rw[t]
 rw[mPq,mPq]at s;have n:∀C:Λ,C.map (xQ∘dI)=C:=λC=>(mCq λr _=>tZ r).trans (de _)
 rwa [n,n]at s
section
variable {M N:Λ}{S:Int->Prop}
theorem aep(n:N.flatten.Nodup)(s:∀x∈N.flatten,S x->S (nx N x)):∀(w:Ϝ) {c:Ϝ}{y:Int},Rt N y (w++c)->S y->∀z∈w,S z
 | [],_,_,_,_,z,l=>by cases l
 |x::w,c,y,h,hy,z,l=>by
  have u:nx N y=x:=h.to n;have t:S x:=u ▸ s y h.mem hy;rcases ab.mp l with q|q
  .rw[q];exact t
  .have B:Rt N x (w++(c++[y])):=by simpa using h.step
   exact aep n s w B t z q
def Ku(s:N.flatten.Nodup)(u:∀x∈N.flatten,S x->S (nx N x)):∀r∈N,∀x∈r,∀y∈r,S x->S y:=λr hr x t y z h=>by
 obtain⟨w,hw⟩:=Rt.of (rs:=N) (mFq.mpr ⟨r,hr,t⟩);obtain⟨B,l,q⟩:=hw.row;obtain⟨i,hi⟩:=aj.mp hr;obtain⟨j,n⟩:=aj.mp l;have:=Js s hi n t ((q x).mpr (by simp))
 subst this;rw[hi]at n;have e:=aw.inj n;subst e;rcases ab.mp ((q y).mp z)with c|c
 .rw[c];exact h
 .exact aep s u w (c:=[]) (by rw[aNq];exact hw) h y c
def UG(n:N.flatten.Nodup)(l:∀r∈N,∀x∈r,∀y∈r,S x->S y){x:Int}(s:x∈N.flatten)(h:S x):S (nx N x):=by
 obtain⟨w,hw⟩:=Rt.of s;have t:=hw.to n;obtain⟨r,hr,q⟩:=hw.row;exact l r hr x ((q x).mpr (by simp)) _ ((q _).mpr (by rw[t];cases w <;> simp)) h
def DV(s:Mp M)(t:M.length+M.flatten.length<=1000){kn G:Θ}{PS u:List Θ}(P:Ps M M.length kn PS)(e:K15.pY [dM M]=some (.ow (N.map aI)))(H:Ps N N.length G u):PS.length=u.length:=by
 obtain⟨T,J,l,_,E,_,cN,_⟩:=K16.C4 s t;obtain⟨U,L,_,_,_,O⟩:=K25.vZ s;rw[e]at J L;have Q:=zK (AV.ow.inj (aw.inj J));have R:=zK (AV.ow.inj (aw.inj L));subst Q;subst R;refine Gh (D7 s) (D7 l) P H (λx=>E.mem_iff.symm) cN.symm ?_ ?_
 .intro S hneg n;refine Ku s.hn λx z h=>?_
  have I:=UG l.hn n (l.hneg x (E.mem_iff.mpr z)) (hneg x h);rw[O _ (l.hneg x (E.mem_iff.mpr z))]at I;unfold fw at I
  rwa [bp]at I
 .intro S hneg n;refine Ku l.hn λx B h=>?_
  rw[O x B];exact UG s.hn n (s.hneg x (E.mem_iff.mp B)) (hneg x h)
def Ui{q:Λ}(cn:K11.Cn q)(hneg:∀x,S x->S (-x))(l:∀r∈q,∀x∈r,∀y∈r,S x->S y){x:Int}(u:x∈q.flatten)(h:S x):∀y∈q.flatten,S y:=by
 have P:∀k,k<q.length->∀x∈q.getD k [],S x->∀y∈q.getD 0 [],S y:=by
  intro k
  induction k using gX with
  |_ k B=>
   intro hk x u h y n
   by_cases c:0<k
   .obtain⟨j,e,E,G,H⟩:=cn.tr k c hk;have s:=hneg _ (l _ (K11.getD_mem u) x u _ H h);rw[bp]at s;exact B j E (by lia) e G s y n
   .have:k=0:=by lia
    subst this;exact l _ (K11.getD_mem u) x u y n h
 obtain⟨r,hr,I⟩:=mFq.mp u;obtain⟨i,hi⟩:=aj.mp hr;have L:∀{i:Nat}{r:Ϝ},q[i]?=some r->q.getD i []=r:=λh=>by rw[gDq,h];rfl
 have Q:=P i (gSq.mp hi).1 x (by rw[L hi];exact I) h
 have z:∀k,k<q.length->∀y∈q.getD k [],S y:=by
  intro k
  induction k using gX with
  |_ k B=>
   intro hk y n
   by_cases c:0<k
   .obtain⟨j,e,E,G,H⟩:=cn.tr k c hk;exact l _ (K11.getD_mem n) _ H y n (hneg e (B j E (by lia) e G))
   .have:k=0:=by lia
    subst this;exact Q y n
 intro y n;obtain⟨t,ht,J⟩:=mFq.mp n;obtain⟨j,O⟩:=aj.mp ht;exact z j (gSq.mp O).1 y (by rw[L O];exact J)
theorem Nj:∀rs:Λ,(rs.map good).count []=rs.count []
 | []=>rfl
 | []::rs=>by rw[ai,Lf,fV,fV,Nj rs]
 | (x::r)::rs=>by
  have l:good (x::r)≠[]:=λq=>by
   have:=congrArg bV q;rw[AK]at this;cases this
  rw[ai,eR l,eR (by simp),Nj rs]
def DB{P:List Λ}(hn:P.flatten.flatten.Nodup)(cn:∀p∈P,K11.Cn p)(u:Mp (rY (P.flatten.map good))){kn:Θ}{PS:List Θ}(E:Ps (rY (P.flatten.map good)) (rY (P.flatten.map good)).length kn PS):PS.length=P.length:=by
 have pm:=K12.ya E;have fl:(rY (P.flatten.map good)).flatten.Perm P.flatten.flatten:=(qJ (pJ _)).trans (pO pD _);have G:∀p∈P,p.flatten.Nodup:=λp h=>by
  rw[iw]at hn;exact hn.sublist (aE (mMq.mpr ⟨p,h,rfl⟩))
 have R:Bp P:=⟨hn,λp h=>(cn p h).ne,λp h hb=>K11.Qe (cn p h) hb (G p h)⟩
 have l:∀r∈rY (P.flatten.map good),∃p∈P,∃t∈p,∀x,x∈r↔x∈t:=λr hr=>by
  obtain⟨t,ht,rfl⟩:=mMq.mp ((pJ _).mem_iff.mp hr);obtain⟨p,T,U⟩:=mFq.mp ht;exact⟨p,T,t,U,λx=>(pD t).mem_iff⟩
 have:=HL (NM (D7 u) E) R (λx=>(qY pm).mem_iff.trans fl.mem_iff) (λp h q B x L n y=>by
  obtain⟨O,H,rfl⟩:=mMq.mp h;obtain⟨s,_,pc⟩:=E.pc O H;refine⟨Vg (S:=(· ∈ q.flatten)) (D7 u) pc (λz I=>(cn q B).clo z I) (λr hr a ha b hb h=>?_) L n y,Ui (S:=(· ∈ (O.map λk=>(rY (P.flatten.map good)).getD k []).flatten)) (cn q B) (λz I=>Di (D7 u) pc I) (λr hr a ha b hb h=>?_) n L y⟩
  .obtain⟨X,J,t,ht,Q⟩:=l r hr;have:=K11.Kz hn J B (mFq.mpr ⟨t,ht,(Q a).mp ha⟩) h;subst this;exact mFq.mpr ⟨t,ht,(Q b).mp hb⟩
  .exact Kk (D7 u) pc (r:=good r) ((pJ _).mem_iff.mpr (mMq.mpr ⟨r,mFq.mpr ⟨q,B,hr⟩,rfl⟩)) ((pD r).mem_iff.mpr ha) ((pD r).mem_iff.mpr hb) h) (by rw[pm.count_eq,(pJ _).count_eq,Nj])
 rwa [lMq]at this
end
end K17
namespace K27
open PySem L2 Mr Z Xe Zl
open K15 (nx fw wF Cz)
open K25 (Rt FH uF pz qD rest vZ)
open K43 (D7 RC As GB EF Gk)
open K51 (ui Ps)
open K23 (C vB)
open K48 (Gp Cl JS Fz)
section
variable {N W F G:Λ}{z:Int}{d1 d2:D}
inductive Wy (N W:Λ)(z:Int):D->D->Prop
 |two {f s:Int}:f∈N.flatten->s∈N.flatten->s≠f->nx W f=z->nx W s = -z->Wy N W z (.int f) (.int s)
 |one {f:Int}:f∈N.flatten->nx W (-z)=z->Wy N W z (.int f) (.int f)
 |own {d1:D}:nx W z = -z->Wy N W z d1 (.int z)
 |left {d2:D}:d2 ≠ .int z->nx W z=z->Wy N W z .non d2
 |right {f:Int}:f∈N.flatten->nx W (-z) = -z->Wy N W z (.int f) .non
structure Pt (N W:Λ)(z:Int)(d1 d2:D):Prop where
 mn:Mp N
 gn:rY (N.map good)=N
 mw:Mp W
 gw:rY (W.map good)=W
 n1:z∉N.flatten
 n2:-z∉N.flatten
 pf:W.flatten.Perm (z :: -z::N.flatten)
 ln:W.length=N.length
 cut:rY ((C z W).map good)=N
 ne:z ≠ -z
 way:Wy N W z d1 d2
noncomputable def Pt.zw(h:Pt N W z d1 d2):z∈W.flatten:=h.pf.mem_iff.mpr (by simp)
noncomputable def Pt.zw'(h:Pt N W z d1 d2):-z∈W.flatten:=h.pf.mem_iff.mpr (by simp)
noncomputable def Pt.sub(h:Pt N W z d1 d2){x:Int}(l:x∈N.flatten):x∈W.flatten/\x≠z/\x ≠ -z:=⟨h.pf.mem_iff.mpr (by simp[l]),λe=>h.n1 (e ▸ l),λe=>h.n2 (e ▸ l)⟩
def Same(G:Λ)(z:Int)(d1 d2:D):Prop:=d2 = .int z∨∃f s,d1 = .int f/\d2 = .int s/\∃r∈G, -f∈r/\-s∈r
def KY{D:Λ}{x y:Int}:(∃r∈rY (D.map good),x∈r/\y∈r)↔∃r∈D,x∈r/\y∈r:=by
 constructor
 .rintro⟨r,hr,a,b⟩;obtain⟨t,ht,rfl⟩:=mMq.mp ((pJ _).mem_iff.mp hr);exact⟨t,ht,(pD t).mem_iff.mp a,(pD t).mem_iff.mp b⟩
 .rintro⟨t,ht,a,b⟩;exact⟨good t,(pJ _).mem_iff.mpr (mMq.mpr ⟨t,ht,rfl⟩),(pD t).mem_iff.mpr a,(pD t).mem_iff.mpr b⟩
def Pt.lands(h:Pt N W z d1 d2)(Q:W.length+W.flatten.length<=400):∃F G:Λ,K15.pY [dM W]=some (.ow (F.map aI))/\K15.pY [dM N]=some (.ow (G.map aI))/\F.flatten.Perm W.flatten/\((F.length=G.length+1/\Same G z d1 d2)∨(F.length+1=G.length/\¬ Same G z d1 d2)):=by
 obtain⟨F,G,e1,e2,hc,R,hx⟩:=K17.QQ h.mw h.gw Q h.zw h.ne;rw[h.cut]at e2;have l:F.flatten.Nodup:=R.nodup_iff.mpr h.mw.hn;have S:z∈F.flatten:=R.mem_iff.mpr h.zw;have E:-z∈F.flatten:=R.mem_iff.mpr h.zw';have x1:nx F z=nx W (-z):=hx z S;have x2:nx F (-z)=nx W z:=by rw[hx (-z) E];unfold fw;rw[bp]
 have I:∀{t:Int},t∈N.flatten->-t∈F.flatten/\nx F (-t)=nx W t:=λ{t} ht=>by
  have:=R.mem_iff.mpr ((h.sub (h.mn.hneg t ht)).1);exact⟨this,by rw[hx _ this];unfold fw;rw[bp]⟩
 have pG:G.flatten.Perm N.flatten:=by
  obtain⟨M,m1,m2,_⟩:=vZ h.mn;rw[e2]at m1;rw[K17.zK (AV.ow.inj (aw.inj m1))];exact m2
 have nG:G.flatten.Nodup:=pG.nodup_iff.mpr h.mn.hn;have T:¬ -z=z:=λe=>h.ne e.symm
 refine⟨F,G,e1,e2,R,?_⟩;rcases hc with⟨l1,_,u,v,J,eG⟩|⟨l1,_,no,a,b,U,X,eG⟩
 .refine .inr ⟨l1.symm,?_⟩;have nd:=J.nd l;have L:z∉u ++ -z::v/\(u ++ -z::v).Nodup:=ah.mp nd;have B:∀{t:Int},t∈F.flatten->nx F t=z->t∈v∨t = -z:=λ{t} ht e=>by
   rcases cP v with rfl|⟨v',y,rfl⟩
   .have:nx F (-z)=z:=K27.BE l (w:=u) J;exact .inr (wF l ht E (e.trans this.symm))
   .rw[cQ,←bE,←ag]at J;have:=K27.BE l J;rw[wF l ht (J.sub (by simp)) (e.trans this.symm)]
    exact .inl (by simp)
  have rg:Rt F (-z) (v++z::u):=Rt.go J;have n:∀{t:Int},t∈F.flatten->nx F t = -z->t∈u∨t=z:=λ{t} ht e=>by
   rcases cP u with rfl|⟨u',y,rfl⟩
   .have:nx F z = -z:=K27.BE l (w:=v) rg;exact .inr (wF l ht S (e.trans this.symm))
   .rw[cQ,←bE,←ag]at rg;have:=K27.BE l rg;rw[wF l ht (rg.sub (by simp)) (e.trans this.symm)]
    exact .inl (by simp)
  have Y:nx F z≠z:=λe=>by
   rcases B S e with q|q
   .exact L.1 (by simp[q])
   .exact h.ne q
  have H:nx F (-z) ≠ -z:=λe=>by
   have nv:=(nAq.mp L.2).2.2;rcases n E e with q|q
   .exact nv _ q (-z) (by simp) rfl
   .exact T q
  have way:=h.way;rintro(q|⟨f,s,q1,q2,r,hr,hf,hs⟩)
  .cases way with
   |two _ hs _ _ _=>rw[D.int.injEq]at q;exact h.n1 (q ▸ hs)
   |one hf _=>rw[D.int.injEq]at q;exact h.n1 (q ▸ hf)
   |own e=>exact H (x2.trans e)
   |left q' _=>exact q' q
   |right _ _=>cases q
  .cases way with
   |two P O h3 h4 h5=>
    cases q1;cases q2;have rr:∃r∈G, -f∈r/\-s∈r:=⟨r,hr,hf,hs⟩;rw[eG,KY]at rr;obtain⟨t,ht,tf,ts⟩:=rr;have fv:-f∈v:=(B (I P).1 ((I P).2.trans h4)).resolve_right λe=>(h.sub P).2.1 (by lia)
    have su:-s∈u:=(n (I O).1 ((I O).2.trans h5)).resolve_right λe=>(h.sub O).2.2 (by lia)
    have uv:∀x∈u,x∉v:=λx a b=>(nAq.mp L.2).2.2 x a x (by simp[b]) rfl
    rcases mAq.mp ht with m|m
    .obtain⟨m1,m2,m3⟩:=K25.yM.mp m;obtain⟨r0,h0,er⟩:=J.row;have:t=r0:=uF l m1 h0 ts ((er _).mpr (by simp[su]))
     exact m2 (by rw[this];exact(er z).mpr (by simp))
    .simp only[ab,dr,or_false]at m;rcases m with rfl|rfl
     .exact uv _ tf fv
     .exact uv _ su ts
   |one P O=>exact Y (x1.trans O)
   |own e=>exact H (x2.trans e)
   |left _ _=>cases q1
   |right _ _=>cases q2
 .refine .inl ⟨l1.symm,?_⟩;have hz1:∀{t:Int},t∈F.flatten->nx F t=z->t∈a∨t=z:=λ{t} ht e=>by
   rcases cP a with rfl|⟨a',y,rfl⟩
   .exact .inr (wF l ht S (e.trans (K27.M3 l U).symm))
   .rw[cQ]at U;rw[wF l ht (U.sub (by simp)) (e.trans (K27.BE l U).symm)]
    exact .inl (by simp)
  have hz2:∀{t:Int},t∈F.flatten->nx F t = -z->t∈b∨t = -z:=λ{t} ht e=>by
   rcases cP b with rfl|⟨b',y,rfl⟩
   .exact .inr (wF l ht E (e.trans (K27.M3 l X).symm))
   .rw[cQ]at X;rw[wF l ht (X.sub (by simp)) (e.trans (K27.BE l X).symm)]
    exact .inl (by simp)
  obtain⟨r1,P,er1⟩:=U.row;obtain⟨r2,O,er2⟩:=X.row;have na:-z∉a:=λq=>no r1 P ((er1 z).mpr (by simp)) ((er1 _).mpr (by simp[q]))
  have nb:z∉b:=λq=>no r2 O ((er2 z).mpr (by simp[q])) ((er2 _).mpr (by simp))
  have way:=h.way;cases way with
  | @two f s k1 k2 k3 k4 k5=>
   have fa:-f∈a:=(hz1 (I k1).1 ((I k1).2.trans k4)).resolve_right λe=>(h.sub k1).2.2 (by lia)
   have sb:-s∈b:=(hz2 (I k2).1 ((I k2).2.trans k5)).resolve_right λe=>(h.sub k2).2.1 (by lia)
   refine .inr ⟨f,s,rfl,rfl,?_⟩;rw[eG,KY];exact⟨a++b,by simp,bG _ fa,aq _ sb⟩
  | @one f k1 k2=>
   obtain⟨r,hr,m⟩:=mFq.mp (pG.mem_iff.mpr (h.mn.hneg f k1));exact .inr ⟨f,f,rfl,rfl,r,hr,m,m⟩
  |own e=>exact .inl rfl
  |left q e=>exact absurd ((hz1 E (x2.trans e)).resolve_right T) na
  |right q e=>exact absurd ((hz2 S (x1.trans e)).resolve_right h.ne) nb
def IZ(N:Λ)(z:Int)(d1 d2:D):Prop:=d2 = .int z∨∃f s,d1 = .int f/\d2 = .int s/\Gp N f s
def Same.tied{h:Pt N W z d1 d2}(e:K15.pY [dM N]=some (.ow (G.map aI)))(q:Same G z d1 d2):IZ N z d1 d2:=by
 rcases q with q|⟨f,s,u,B,r,hr,E,H⟩
 .exact .inl q
 .refine .inr ⟨f,s,u,B,λS c sf=>?_⟩
  obtain⟨M,l,n,_,_,I⟩:=vZ h.mn;rw[e]at l;have:=K17.zK (AV.ow.inj (aw.inj l));subst this;have J:G.flatten.Nodup:=n.nodup_iff.mpr h.mn.hn;have key:=K17.Ku (N:=G) (S:=S) J (λx t L=>by
   rw[I x t];exact K17.UG (N:=N) h.mn.hn c.row (h.mn.hneg x (n.mem_iff.mp t)) (c.neg x L)) r hr (-f) E (-s) H (c.neg f sf)
  have:=c.neg _ key
  rwa [bp]at this
def Pt.tie(h:Pt N W z d1 d2):RC W z=false↔IZ N z d1 d2:=by
 have hw:=As (z:=z) h.mw;have pm:(rY ((C z W).map good)).Perm ((C z W).map good):=pJ _;rw[h.cut]at pm;have P:∀{x y:Int},Gp N x y↔Gp (C z W) x y:=λ{x y}=>(Fz pm).trans (JS pD _)
 have ZX:∀{x:Int},x∈N.flatten->x∈(C z W).flatten:=λ{x} l=>EF.mpr (h.sub l)
 have U:RC W z=false↔ui (C z W) (plc W z) (plc W (-z)):=by
  unfold RC;simp
 rw[U];have H:∀{e:Int},e∈W.flatten->plc W (nx W e)=plc W e:=λ{e} he=>K17.JJ h.mw he
 have u:∀{x:Int},x∈W.flatten->nx W x=x->x=z∨x = -z->(C z W).getD (plc W x) []=[]:=λ{x} l e q=>by
  have X:=K25.FA h.mw.hn l;rw[pB e]at X;have m:[x]∈W:=bg.mp (by lia)
  obtain⟨k,hk⟩:=aj.mp m;rw[plc_eq h.mw.hn hk (by simp),gDq,K43.HA hk]
  show vB z [x]=[];unfold vB;rw[bO (by rcases q with rfl|rfl <;> simp)]
  rfl
 have way:=h.way;cases way with
 | @two f s I B k3 Y k5=>
  have J:plc W z=plc (C z W) f:=by
   have:=H (h.sub I).1;rw[Y]at this;rw[this,GB h.mw (ZX I)]
  have L:plc W (-z)=plc (C z W) s:=by
   have:=H (h.sub B).1;rw[k5]at this;rw[this,GB h.mw (ZX B)]
  rw[J,L];obtain⟨i,r,hi,Q⟩:=K27.Ce (ZX I);obtain⟨j,t,R,T⟩:=K27.Ce (ZX B);have e1:=plc_eq hw.hn hi Q;have e2:=plc_eq hw.hn R T;constructor
  .intro rc;refine .inr ⟨f,s,rfl,rfl,P.mpr λS c sf=>?_⟩
   rw[e1,e2]at rc;have g1:(C z W).getD i []=r:=by rw[gDq,hi];rfl
   have g2:(C z W).getD j []=t:=by rw[gDq,R];rfl
   exact K17.Y8 (D7 hw) c.neg c.row rc (λx l=>by rw[g1]at l;exact c.row r (mGq hi) f Q x l sf) s (by rw[g2];exact T)
  .rintro(q|⟨f',s',q1,q2,g⟩)
   .rw[D.int.injEq]at q;exact absurd (q ▸ B) h.n1
   .cases q1;cases q2;have:=P.mp g (λx=>x∉(C z W).flatten∨ui (C z W) (plc (C z W) f) (plc (C z W) x)) ⟨λt' E x l y hy q=>?_,λx q=>?_⟩ (.inr .base)
    .exact this.resolve_left λn=>n (ZX B)
    .obtain⟨k,hk⟩:=aj.mp E;rw[plc_eq hw.hn hk hy];rw[plc_eq hw.hn hk l]at q;exact .inr (q.resolve_left λn=>n (mFq.mpr ⟨t',E,l⟩))
    .by_cases m:x∈(C z W).flatten
     .obtain⟨k,r',hk,l⟩:=K27.Ce m;have q:=q.resolve_left λn=>n m
      rw[plc_eq hw.hn hk l]at q;exact .inr (.step q hk l)
     .exact .inl λn=>m (by have:=hw.hneg _ n;rwa [bp]at this)
 | @one f I B=>
  have:plc W z=plc W (-z):=by
   have:=H h.zw';rw[B]at this;exact this
  rw[this];exact⟨λ_=>.inr ⟨f,f,rfl,rfl,Gp.refl _ _⟩,λ_=>.base⟩
 |own e=>
  have:plc W (-z)=plc W z:=by
   have:=H h.zw;rw[e]at this;exact this
  rw[this];exact⟨λ_=>.inl rfl,λ_=>.base⟩
 |left q e=>
  have M:=u h.zw e (.inl rfl);refine⟨λrc=>?_,λt=>?_⟩
  .have:=K43.JL rc M;have hr:=K27.Ll h.mw h.zw h.zw' this.symm e;exact absurd hr h.ne
  .rcases t with t|⟨_,_,t,_⟩
   .exact absurd t q
   .cases t
 |right k e=>
  have M:=u h.zw' e (.inr rfl);refine⟨λrc=>?_,λt=>?_⟩
  .have O:=K51.ui.symm (D7 hw) rc;have:=K43.JL O M;have hr:=K27.Ll h.mw h.zw' h.zw this.symm e;exact absurd hr.symm h.ne
  .rcases t with t|⟨_,_,_,t,_⟩
   .cases t
   .cases t
end
end K27
namespace K17
open PySem L2 Mr Z Xe Zl
open K43 (D7 L9)
open K51 (ui Ps Pc)
section
variable {M:Λ}
def BM(n:Mp M)(hz:∀e∈M.flatten,e≠0):2*(L9 M).length=M.flatten.length:=by
 unfold L9;rw[←bS,(vG _).countP_eq];have pm:(M.flatten.map λz=>-z).Perm M.flatten:=(bx (K19.abP n.hn) n.hn).mpr λx=>by
  rw[mMq];constructor
  .rintro⟨z,h,rfl⟩;exact n.hneg z h
  .exact λh=>⟨-x,n.hneg x h,bp x⟩
 have s:=pm.countP_eq λz=>decide (0<z)
 rw[gW]at s;have u:M.flatten.countP ((λz=>decide (0<z))∘λz=>-z)=M.flatten.countP λa=>decide ¬ (decide (0<a)=true):=gF λx t=>by
  have:=hz x t;simp;lia
 have l:=bZ (l:=M.flatten) λz=>decide (0<z)
 lia
def zf(l:Mp M){F:Λ}(n:K15.pY [dM M]=some (.ow (F.map aI))):∃kn PS,Ps M M.length kn PS/\K43.uz [dM M]=some (.sh (.tup [.int (M.length:Int),.int ((L9 M).length:Int),.int (F.length:Int),.int ((PS.length:Nat):Int),.int ((2*((PS.length:Nat):Int)-(M.length:Int)+((L9 M).length:Int)-(F.length:Int)) / 2)])):=by
 obtain⟨kn,PS,s,t⟩:=K51.Ee (D7 l);have hl:=l.hl;have u:xN [dM M]=some (aI (L9 M)):=T4 (rs:=M) (by lia)
 have x:=pV (L9 M);have mu:∀i:Int,D4 (.int 2) (.int i)=some (.int (2*i)):=λi=>SJ (by decide) (by decide)
 have z:=λi:Int=>Aa (i:=i) (j:=2) (by decide) (by decide)
 refine⟨kn,PS,s,?_⟩
 simp_arith [K43.uz,K43.Io,u,x,dI,n,t,mu,z]
end
noncomputable def Ic(n:Nat)(r:Ϝ)(h:r.length<1000000):K13.plain (n+2) (.tup (r.map D.int)):=⟨by rw[lMq];exact h,λd hd=>by obtain⟨z,_,rfl⟩:=mMq.mp hd;exact trivial⟩
structure Pw (P:List Λ):Prop where
 nd:P.flatten.flatten.Nodup
 ng:∀z∈P.flatten.flatten, -z∈P.flatten.flatten
 nz:∀z∈P.flatten.flatten,z≠0
 le:P.flatten.flatten.length<=126
 lt:P.flatten.length<=128
 lp:P.length<=128
 cn:∀p∈P,K11.Cn p
def Zt{P:List Λ}(h:K12.Pt P)(cn:∀p∈P,K11.Cn p):Pw P:=⟨h.nd,h.ng,λz l=>(h.nz z l).1,by have:=h.le;lia,by have:=h.lt;lia,by have:=h.lp;lia,cn⟩
end K17
namespace K27
open PySem L2 Mr Z Xe Zl
open K15 (nx fw)
open K25 (Rt FH AL)
open K43 (D7 RC As L9)
open K51 (ui Ps)
open K21 (sp RH Uh Er)
open K23 (C vB)
section
variable {N W G:Λ}{z:Int}{d1 d2:D}
def Nw(p:Int->Bool)(t:Ϝ)(i:Nat):∃j,(rot t i).filter p=rot (t.filter p) j:=by
 refine⟨((t.take i).filter p).length,?_⟩;have e:t.filter p=(t.take i).filter p++(t.drop i).filter p:=by rw[←eI,aR]
 unfold rot;rw[eI,e,il,ip]
def Xo{T:Λ}(hn:T.flatten.Nodup):rY ((C z (rY (T.map good))).map good)=rY ((C z T).map good):=by
 refine BK ?_;refine(((pJ (T.map good)).map (vB z)).map good).trans ?_;unfold C;rw[mPq,mPq,mPq];refine .of_eq (mCq λt ht=>?_)
 have l:t.Nodup:=hn.sublist (aE ht);obtain⟨j,e⟩:=Nw (λe=>!decide (e∈[z, -z])) t (pW t t.length)
 show good (vB z (rot t (pW t t.length)))=good (vB z t);unfold vB;rw[e,GD (l.sublist dg)]
def Qr(N:Λ)(d:D):Prop:=(∃f∈N.flatten,d = .int f)∨(d = .non/\0<bare N)
def Rz(N:Λ)(z:Int)(d1 d2:D):Prop:=(∃s∈N.flatten,d2 = .int s)∨d2 = .int z∨(d2 = .non/\((d1 ≠ .non/\0<bare N)∨1<bare N))
def LI:0<bare N↔[]∈N:=by
 rw[K25.sO];exact bg
def CT{A B:Λ}{r:Ϝ}:bare (A++r::B)=bare A+bare B+(if r=[]then 1 else 0):=by
 rw[K25.sO,K25.sO,K25.sO,cAq,cZ]
 by_cases h:r=[]
 .rw[pB h];simp[h];lia
 .rw[oZ h];simp[h]
def Zc{T:Λ}(nd:T.flatten.Nodup)(ng:∀e∈T.flatten, -e∈T.flatten)(n:T.flatten.length<=128)(s:T.length<=400):Mp (rY (T.map good)):=by
 have p:=(qJ (pJ (T.map good))).trans (pO pD T);exact⟨p.nodup_iff.mpr nd,by rw[p.length_eq];lia,by rw[sH,lMq];lia,λe l=>p.mem_iff.mpr (ng e (p.mem_iff.mp l))⟩
def Hs(d:D):Prop:=d = .non∨∃s,d = .int s
noncomputable abbrev pz(z:Int)(d1 d2:D):D:=.ins "Put" [("road", .int z),("first", d1),("second", d2)]
def KU{rs:Λ}{n s:Int}(h:n=z∨n = -z)(nd:rs.flatten.Nodup)(S:rs.flatten.length<=1000)(hl:rs.length<=1000)(E:s∈rs.flatten):∃l H,tY [dM rs,.int n,.int s]=some H/\oB H=dM l/\l.flatten.Perm (n::rs.flatten)/\l.length=rs.length/\C z l=C z rs/\bare l=bare rs/\(∃w,Rt l s (n::w))/\(∀x y w,x≠s->Rt rs x (y::w)->∃t,Rt l x (y::t))/\(∀x,x≠s->[x]∈rs->[x]∈l)/\(∀y w,y≠s->Rt rs s (y::w)->∃t,Rt l n (y::t)):=by
 have ht:=zp (rs:=rs) (by lia)
 have I:decide (s∈rs.flatten)=true:=d4 E;have J:=Er (rs:=rs) (λr hr=>by have:=NH hr;lia) n s
 have L:rs.length<=qE:=rP (by lia)
 have M:Aq (.int s) .non=some (.bl false):=rfl;have O:wX [dM rs,.int n,.int s]=some (.ow (rs.map (RH n s))):=by
  simp_arith [wX,BY,ht,I,J,L]
 obtain⟨A,a,b,B,e,p⟩:=XA n nd E;refine⟨rs.map (sp n s),.ow (rs.map (RH n s)),?_,?_,?_⟩
 .simp_arith [tY,CA,M,O]
 .rw[rJ,mPq];show D.list _=D.list _;rw[mPq];exact congrArg D.list (mCq λr _=>Uh n s r)
 rw[p];subst e;refine⟨?_,by simp,XZ h,by rw[CT,CT];simp,⟨_,aaY⟩,λx y w u r=>Xf u r,λx u m=>?_,λy w P r=>?_⟩
 .have Q:(A++(a++s::n::b)::B).flatten=(A.flatten++(a++[s]))++n::(b++B.flatten):=by simp
  have R:(A++(a++s::b)::B).flatten=(A.flatten++(a++[s]))++(b++B.flatten):=by simp
  rw[Q,R];exact jh
 .rcases mAq.mp m with m|m
  .exact bG _ m
  .rcases ab.mp m with m|m
   .have:s∈[x]:=by rw[m];simp
    exact absurd (mSq.mp this).symm u
   .exact aq _ (mCo _ m)
 .have q:(b++a).headD s=y:=by
   rw[←Rt.to nd ⟨a,b,aq _ ao,rfl⟩];exact GK nd r
  have l:Rt (A++(a++s::n::b)::B) n (b++(a++[s])):=⟨a++[s],b,by simp,rfl⟩
  cases b with
  |cons c b=>cases q;exact⟨_,l⟩
  |nil=>
   cases a with
   |cons c a=>cases q;exact⟨_,l⟩
   |nil=>exact absurd q.symm P
def Ud{rs:Λ}{n:Int}(h:n=z∨n = -z)(hl:rs.length<=1000)(u:0<bare rs):∃l t,tY [dM rs,.int n,.non]=some t/\oB t=dM l/\l.flatten.Perm (n::rs.flatten)/\l.length=rs.length/\C z l=C z rs/\bare l+1=bare rs/\[n]∈l/\∀x,[x]∈rs->[x]∈l:=by
 have s:=LI.mp u;have E:decide (([]:Ϝ)∈rs)=true:=d4 s;have hk:=cA.mpr s;have H:xa rs none (some (rs.idxOf []:Int))=rs.take (rs.idxOf []):=K12.SN rs (rs.idxOf []);have I:xa rs (some ((rs.idxOf []:Int)+1)) none=rs.drop (rs.idxOf []+1):=K12.KG rs (rs.idxOf []+1);have J:(rs.take (rs.idxOf [])).length+1<=qE:=rP (by rw[lTq];lia)
 have L:(rs.take (rs.idxOf [])++[[n]]).length+(rs.drop (rs.idxOf []+1)).length<=qE:=rP (by rw[lAq,lTq,ax,lSq];lia)
 have M:(rs.take (rs.idxOf [])).map dI++[D.list [D.int n]]=(rs.take (rs.idxOf [])++[[n]]).map dI:=by rw[mBq];rfl
 have O:(rs.take (rs.idxOf [])++[[n]])++rs.drop (rs.idxOf []+1)=rs.set (rs.idxOf []) [n]:=by rw[List.set_eq_take_append_cons_drop,pB hk,ag];rfl
 have P:yp [dM rs,.int n]=some (.ow ((rs.set (rs.idxOf []) [n]).map λr=>.sh (dI r))):=by
  simp_arith [yp,Dd,adA,E,abB,s,uo,H,I,J,M,L,←mBq,O]
 have Q:Aq .non .non=some (.bl true):=rfl;obtain⟨A,B,e,p⟩:=WH n s;refine⟨rs.set (rs.idxOf []) [n],.ow ((rs.set (rs.idxOf []) [n]).map λr=>.sh (dI r)),by simp_arith [tY,CA,Q,P],by rw[rJ,J5],?_⟩
 rw[p];subst e;refine⟨by simp,by simp,Tz h,by rw[CT,CT];simp,by simp,λx m=>?_⟩
 rcases mAq.mp m with m|m
 .exact bG _ m
 .rcases ab.mp m with m|m
  .cases m
  .exact aq _ (mCo _ m)
def GM{T:Λ}(u:T.flatten.length<=128)(x:bare T<=128)(hl:T.length<=1000):yQ [dM T]=some (.ow ((rY (T.map good)).map aI)):=by
 have l:¬ (128:Int)<(T.flatten.length:Int):=by lia
 have n:¬ (128:Int)<(T.countP (·=([]:Ϝ)):Nat):=by
  have:T.countP (·=([]:Ϝ))=bare T:=rfl;lia
 have s:tD [dM T]=some (.sh .non):=by
  simp_arith [tD,xJ,zp (show T.flatten.length<=500000 by lia),l,n]
 have t:=yH (rs:=T) (λr hr=>by have:=NH hr;lia) (rP (by lia))
 simp_arith [yQ,Gz,s,t]
def ZP{rs:Λ}{n:Int}(nd:rs.flatten.Nodup)(h:[n]∈rs):nx rs n=n:=M3 nd ⟨[],[],h,rfl⟩
def S0(mn:Mp N)(gn:rY (N.map good)=N)(n1:z∉N.flatten)(n2:-z∉N.flatten)(ne:z ≠ -z)(hf:N.flatten.length<=126)(hl:N.length<=260)(hb:bare N<=128)(h1:Qr N d1)(h2:Rz N z d1 d2) :
  ∃W:Λ,tR [pz z d1 d2,dM N]=some (.ow (W.map aI))/\Pt N W z d1 d2:=by
 have cN:=abc n1 n2;have key:∃t l I u,tY [dM N,.int z,d1]=some I/\oB I=dM t/\tY [dM t,.int (-z),d2]=some u/\oB u=dM l/\t.flatten.Perm (z::N.flatten)/\l.flatten.Perm (-z::t.flatten)/\l.length=N.length/\C z l=N/\bare l<=128/\(l.flatten.Nodup->Wy N l z d1 d2):=by
  have T:∀{x:Int},x∈N.flatten->x≠z:=λ{x} hx e=>n1 (e ▸ hx)
  rcases h1 with⟨f,J,rfl⟩|⟨rfl,hb1⟩
  .obtain⟨t,I,Q,R,B,t1,U,b1,⟨w1,rt1⟩,_⟩:=KU (z:=z) (.inl rfl) mn.hn (by lia) (by lia) J
   have L:t.flatten.Nodup:=B.nodup_iff.mpr (ah.mpr ⟨n1,mn.hn⟩);have ml:=B.length_eq;rw[lCq]at ml;rcases h2 with⟨s,hs,rfl⟩|rfl|⟨rfl,X⟩
   .obtain⟨l,u,E,H,M,t2,O,b2,⟨w2,P⟩,k1,_,k3⟩:=KU (rs:=t) (z:=z) (n:=-z) (s:=s) (.inr rfl) L (by lia) (by lia) (B.mem_iff.mpr (by simp[hs]))
    refine⟨t,l,I,u,Q,R,E,H,B,M,by lia,by rw[O,U,cN],by lia,λnd=>?_⟩
    by_cases e:s=f
    .subst e;obtain⟨w',Y⟩:=k3 z w1 (λq=>T J q.symm) rt1
     exact .one J (GK nd Y)
    .obtain⟨w',Y⟩:=k1 f z w1 (λq=>e q.symm) rt1
     exact .two J hs e (GK nd Y) (GK nd P)
   .obtain⟨l,u,E,H,M,t2,O,b2,⟨w2,P⟩,_⟩:=KU (rs:=t) (z:=z) (n:=-z) (s:=z) (.inr rfl) L (by lia) (by lia) (B.mem_iff.mpr (by simp))
    exact⟨t,l,I,u,Q,R,E,H,B,M,by lia,by rw[O,U,cN],by lia,λnd=>.own (GK nd P)⟩
   .obtain⟨l,u,E,H,M,t2,O,b2,l2,_⟩:=Ud (rs:=t) (z:=z) (n:=-z) (.inr rfl) (by lia) (by rcases X with q|q <;> lia)
    exact⟨t,l,I,u,Q,R,E,H,B,M,by lia,by rw[O,U,cN],by lia,λnd=>.right J (ZP nd l2)⟩
  .obtain⟨t,I,Q,R,B,t1,U,b1,l1,_⟩:=Ud (z:=z) (n:=z) (.inl rfl) (by lia) hb1
   have L:t.flatten.Nodup:=B.nodup_iff.mpr (ah.mpr ⟨n1,mn.hn⟩);have ml:=B.length_eq;rw[lCq]at ml;rcases h2 with⟨s,hs,rfl⟩|rfl|⟨rfl,X⟩
   .obtain⟨l,u,E,H,M,t2,O,b2,_,_,k2,_⟩:=KU (rs:=t) (z:=z) (n:=-z) (s:=s) (.inr rfl) L (by lia) (by lia) (B.mem_iff.mpr (by simp[hs]))
    exact⟨t,l,I,u,Q,R,E,H,B,M,by lia,by rw[O,U,cN],by lia,λnd=>.left (λq=>T hs (D.int.inj q)) (ZP nd (k2 z (λq=>T hs q.symm) l1))⟩
   .obtain⟨l,u,E,H,M,t2,O,b2,⟨w2,P⟩,_⟩:=KU (rs:=t) (z:=z) (n:=-z) (s:=z) (.inr rfl) L (by lia) (by lia) (B.mem_iff.mpr (by simp))
    exact⟨t,l,I,u,Q,R,E,H,B,M,by lia,by rw[O,U,cN],by lia,λnd=>.own (GK nd P)⟩
   .have q:1<bare N:=X.elim (λq=>absurd rfl q.1) id
    obtain⟨l,u,E,H,M,t2,O,b2,_,l2⟩:=Ud (rs:=t) (z:=z) (n:=-z) (.inr rfl) (by lia) (by lia)
    exact⟨t,l,I,u,Q,R,E,H,B,M,by lia,by rw[O,U,cN],by lia,λnd=>.left (λq=>by cases q) (ZP nd (l2 z l1))⟩
 have i1:Hs d1:=h1.elim (λ⟨f,_,q⟩=>.inr ⟨f,q⟩) λq=>.inl q.1
 have i2:Hs d2:=h2.elim (λ⟨f,_,q⟩=>.inr ⟨f,q⟩) λq=>q.elim (λq=>.inr ⟨z,q⟩) λq=>.inl q.1
 obtain⟨t,l,I,u,Q,R,E,H,q1,q3,q4,cr,br,way⟩:=key;have S:l.flatten.Perm (z :: -z::N.flatten):=q3.trans ((q1.cons (-z)).trans (.swap ..));have nd:l.flatten.Nodup:=S.nodup_iff.mpr (ah.mpr ⟨by simp[n1];exact ne,ah.mpr ⟨n2,mn.hn⟩⟩)
 have fl:l.flatten.length<=128:=by rw[S.length_eq,lCq,lCq];lia
 have ng:∀e∈l.flatten, -e∈l.flatten:=λe he=>by
  have:=S.mem_iff.mp he;simp only[ab]at this;refine S.mem_iff.mpr ?_;rcases this with rfl|rfl|m
  .simp
  .simp
  .simp[mn.hneg e m]
 have pS:=(qJ (pJ (l.map good))).trans (pO pD l);refine⟨rY (l.map good),?_,mn,gn,Zc nd ng fl (by lia),CI nd,n1,n2,pS.trans S,by rw[sH,lMq];lia,by rw[Xo nd,cr,gn],ne,?_⟩
 .have ht:=zp (rs:=N) (by lia)
  have d0:decide (z∈N.flatten)=false:=d6 n1;have se:=GM fl br (by lia)
  have w:xR [dM N,.int z,d1,d2]=some (.ow ((rY (l.map good)).map aI)):=by
   simp_arith [xR,Dg,ht,d0,Q,R,E,H,se]
  have a:AJ "Put" "road" (pz z d1 d2)=some (.int z):=by rfl
  have b:AJ "Put" "first" (pz z d1 d2)=some d1:=by rfl
  have c:AJ "Put" "second" (pz z d1 d2)=some d2:=by rfl
  have sc1:d1.scal=true:=by rcases i1 with rfl|⟨s,rfl⟩ <;> rfl
  have sc2:d2.scal=true:=by rcases i2 with rfl|⟨s,rfl⟩ <;> rfl
  simp_arith [tR,Ey,a,b,c,sc1,sc2,w]
 .have sx:∀{x:Int},x∈l.flatten->nx (rY (l.map good)) x=nx l x:=λ{x} hx=>FH nd hx
  have inN:∀{x:Int},x∈N.flatten->x∈l.flatten:=λ{x} hx=>S.mem_iff.mpr (by simp[hx])
  have zi:z∈l.flatten:=S.mem_iff.mpr (by simp)
  have zi':-z∈l.flatten:=S.mem_iff.mpr (by simp)
  cases way nd with
  |two a b c d e=>exact .two a b c ((sx (inN a)).trans d) ((sx (inN b)).trans e)
  |one a b=>exact .one a ((sx zi').trans b)
  |own a=>exact .own ((sx zi).trans a)
  |left a b=>exact .left a ((sx zi).trans b)
  |right a b=>exact .right a ((sx zi').trans b)
end
end K27
namespace K27
open PySem L2 Mr Z Xe Zl
open K15 (nx fw)
open K25 (AL vZ)
open K43 (D7 RC As L9)
open K51 (ui Ps)
open K23 (C)
open K48 (Gp Cl JS Fz)
open K17 (zf BM)
section
variable {N W G M L:Λ}{z:Int}{d1 d2:D}
def Pt.pieces(h:Pt N W z d1 d2){kn l:Θ}{PS n:List Θ}(H:Ps W W.length kn PS)(J:Ps N N.length l n):(IZ N z d1 d2/\PS.length=n.length)∨(¬ IZ N z d1 d2/\PS.length+1=n.length):=by
 have hw:=As (z:=z) h.mw;obtain⟨P,PW,s,_⟩:=K51.Ee (D7 hw);have u:N.Perm ((C z W).map good):=by have:=pJ ((C z W).map good);rwa [h.cut]at this
 have hb:=AL (C z W);rw[h.cut,K25.sO,K25.sO]at hb;have Q:=K17.Gh (D7 hw) (D7 h.mn) s J (λx=>((qJ u).trans (pO pD _)).mem_iff.symm) hb.symm (λS O hr t m x B y E=>hr (good t) (u.mem_iff.mpr (mMq.mpr ⟨t,m,rfl⟩)) x ((pD t).mem_iff.mpr B) y ((pD t).mem_iff.mpr E)) (λS O hr r m x B y E=>by
  obtain⟨t,ht,rfl⟩:=mMq.mp (u.mem_iff.mp m);exact hr t ht x ((pD t).mem_iff.mp B) y ((pD t).mem_iff.mp E))
 have I:=h.tie
 by_cases q:ui (C z W) (plc W z) (plc W (-z))
 .have:=K43.Lw h.mw h.zw q H s;exact .inl ⟨I.mp (by unfold RC;simp[q]),by lia⟩
 .have:=K43.Lk h.mw h.zw q H s;exact .inr ⟨λt=>by have:=I.mpr t;unfold RC at this;simp[q]at this,by lia⟩
noncomputable def cT(V R F P:Int):D:=.tup [.int V,.int R,.int F,.int P,.int ((2*P-V+R-F) / 2)]
def Pt.counts(h:Pt N W z d1 d2)(l:W.length+W.flatten.length<=400)(nz:∀e∈N.flatten,e≠0){u:List Θ}{kn:Θ}(U:Ps N N.length kn u)(H:K15.pY [dM N]=some (.ow (G.map aI))) :
  ∃(X:Λ) (R F P:Int),2*R=N.flatten.length/\K15.pY [dM W]=some (.ow (X.map aI))/\K15.pY [dM X]=some (.ow (W.map aI))/\K43.uz [dM W]=some (.sh (cT N.length (R+1) F P))/\K43.uz [dM X]=some (.sh (cT F (R+1) N.length P)) /\
   ((Same G z d1 d2/\F=G.length+1/\P=u.length)∨(¬ Same G z d1 d2/\IZ N z d1 d2/\F=G.length-1/\P=u.length)∨(¬ Same G z d1 d2/\¬ IZ N z d1 d2/\F=G.length-1/\P=u.length-1)):=by
 obtain⟨X,G',x,I,J,Y⟩:=h.lands l;rw[H]at I;have q:=K17.zK (AV.ow.inj (aw.inj I));subst q;obtain⟨X',O,Q,B,_⟩:=K16.C4 h.mw (by lia)
 rw[x]at O;have q:=K17.zK (AV.ow.inj (aw.inj O));subst q;rw[h.gw]at B;obtain⟨kW,PS,S,c1⟩:=zf h.mw x;obtain⟨kX,PX,hX,c2⟩:=zf Q B;have k1:=K17.DV h.mw (by lia) S x hX
 have ne:=h.ne;have n:∀e∈W.flatten,e≠0:=λe E=>by
  have:=h.pf.mem_iff.mp E;simp only[ab]at this;rcases this with rfl|rfl|m
  .lia
  .lia
  .exact nz e m
 have r1:=BM h.mw n;have r2:=BM Q λe E=>n e (J.mem_iff.mp E)
 have r3:=BM h.mn nz;have pl:=h.pf.length_eq;rw[lCq,lCq]at pl;rw[J.length_eq]at r2;have hl:=h.ln;have T:=h.pieces S U;refine⟨X,(L9 N).length,X.length,PS.length,by lia,x,B,?_,?_,?_⟩
 .rw[c1,h.ln,show((L9 W).length:Int)=(L9 N).length+1 by lia]
  rfl
 .rw[c2,←k1,h.ln,show((L9 X).length:Int)=(L9 N).length+1 by lia]
  rfl
 .rcases Y with⟨l1,s⟩|⟨l1,s⟩
  .refine .inl ⟨s,by lia,?_⟩
   rcases T with⟨_,q⟩|⟨q,_⟩
   .lia
   .exact absurd (Same.tied (h:=h) H s) q
  .rcases T with⟨t,q⟩|⟨t,q⟩
   .exact .inr (.inl ⟨s,t,by lia,by lia⟩)
   .exact .inr (.inr ⟨s,t,by lia,by lia⟩)
def RO{S:Int->Prop}(l:Mp M)(n:L.flatten.Perm M.flatten)(t:∀x∈L.flatten,nx L x=fw M x):Cl M S↔Cl L S:=by
 have u:L.flatten.Nodup:=n.nodup_iff.mpr l.hn;constructor
 .intro c;exact⟨K17.Ku u λx m s=>by rw[t x m];exact K17.UG l.hn c.row (l.hneg x (n.mem_iff.mp m)) (c.neg x s),c.neg⟩
 .intro c;refine⟨K17.Ku l.hn λx m s=>?_,c.neg⟩
  have B:=n.mem_iff.mpr (l.hneg x m);have:=K17.UG u c.row B (c.neg x s);rw[t _ B]at this;unfold fw at this
  rwa [bp]at this
def abr(l:Mp M)(n:L.flatten.Perm M.flatten)(t:∀x∈L.flatten,nx L x=fw M x){x y:Int}:Gp L x y↔Gp M x y:=⟨λg S c s=>g S ((RO l n t).mp c) s,λg S c s=>g S ((RO l n t).mpr c) s⟩
noncomputable def ix(P:List Λ)(e:Int):Nat:=P.findIdx λp=>decide (e∈p.flatten)
theorem EG:∀{P:List Λ}{k:Nat}{p:Λ}{e:Int},P.flatten.flatten.Nodup->P[k]?=some p->e∈p.flatten->ix P e=k
 | [],k,p,e,_,h,_=>by simp at h
 |q::P,0,p,e,hn,h,he=>by
  cases h;unfold ix;rw[iY,d4 he];rfl
 |q::P,k+1,p,e,hn,h,he=>by
  rw[fCq,fAq,nAq]at hn;have m:e∈P.flatten.flatten:=by
   obtain⟨r,hr,q⟩:=mFq.mp he;exact mFq.mpr ⟨r,mFq.mpr ⟨p,mGq h,hr⟩,q⟩
  have i:=EG (P:=P) (k:=k) hn.2.1 h he;unfold ix at i ⊢;rw[iY,d6 λq=>hn.2.2 e q e m rfl]
  show P.findIdx _+1=k+1;rw[i]
noncomputable def Kb{P:List Λ}{e:Int}(h:e∈P.flatten.flatten):∃(k:Nat) (p:Λ),P[k]?=some p/\e∈p.flatten:=by
 obtain⟨r,hr,l⟩:=mFq.mp h;obtain⟨p,n,q⟩:=mFq.mp hr;obtain⟨k,hk⟩:=aj.mp n;exact⟨k,p,hk,mFq.mpr ⟨r,q,l⟩⟩
def afE{P:List Λ}(nd:P.flatten.flatten.Nodup)(cn:∀p∈P,K11.Cn p){f s:Int}(J:f∈P.flatten.flatten)(O:s∈P.flatten.flatten):ix P f=ix P s↔Gp (rY (P.flatten.map good)) f s:=by
 rw[Fz (pJ _),JS pD];obtain⟨i,p,hi,n⟩:=Kb J;obtain⟨j,q,l,u⟩:=Kb O;rw[EG nd hi n,EG nd l u];have B:=mGq hi;constructor
 .intro e S c sf;subst e;rw[hi]at l;cases l;exact K17.Ui (cn p B) c.neg (λr hr=>c.row r (mFq.mpr ⟨p,B,hr⟩)) n sf s u
 .intro g;have:=g (λx=>x∈p.flatten) ⟨λt ht a ha b hb m=>?_,(cn p B).clo⟩ n
  .rw[←EG nd hi this,EG nd l u]
  .obtain⟨Q,E,H⟩:=mFq.mp ht;obtain⟨k,hk⟩:=aj.mp E;have I:=EG nd hi m;rw[EG nd hk (mFq.mpr ⟨t,H,ha⟩)]at I;subst I;rw[hi]at hk;cases hk;exact mFq.mpr ⟨t,H,hb⟩
end
end K27
namespace K27
open PySem L2 Mr Z Xe Zl
open K48 (Gp)
theorem GW{x n:Nat}{body:MS}{g:Nat->AV}{p:Nat->Bool}{I:AS->Prop}(hb:∀(k:Nat) S,k<n->I S->(p k=true->body (S.set x (i0 (k:Int)))=some (.rt (g k)))/\(p k=false->∃S',body (S.set x (i0 (k:Int)))=some (.nx S')/\I S')) :
  ∀(c i:Nat) (S:AS),i+c<=n->I S->(∃m,m<c/\p (i+m)=true/\(∀j,j<m->p (i+j)=false)/\qR x body ((gj i c).map λk:Nat=>D.int (k:Int)) S=some (.rt (g (i+m))))∨((∀j,j<c->p (i+j)=false)/\∃S',qR x body ((gj i c).map λk:Nat=>D.int (k:Int)) S=some (.nx S')/\I S')
 |0,i,S,_,l=>.inr ⟨λj s=>by lia,S,rfl,l⟩
 |c+1,i,S,h,l=>by
  obtain⟨B,E⟩:=hb i S (by lia) l
  by_cases q:p i=true
  .refine .inl ⟨0,by lia,q,λj s=>by lia,?_⟩
   show(body _).bind _=_;rw[B q];rfl
  .have q:p i=false:=by simpa using q
   obtain⟨S',e,t⟩:=E q;have sh:∀j,i+1+j=i+(j+1):=λj=>by lia
   have lo:qR x body ((gj i (c+1)).map λk:Nat=>D.int (k:Int)) S=qR x body ((gj (i+1) c).map λk:Nat=>D.int (k:Int)) S':=by
    show(body _).bind _=_;rw[e];rfl
   rw[lo];rcases GW hb c (i+1) S' (by lia) t with⟨m,z,u,G,H⟩|⟨z,u⟩
   .refine .inl ⟨m+1,by lia,sh m ▸ u,λj s=>?_,by rw[show i+(m+1)=i+1+m by lia];exact H⟩
    cases j with
    |zero=>exact q
    |succ j=>rw[←sh];exact G j (by lia)
   .refine .inr ⟨λj s=>?_,u⟩
    cases j with
    |zero=>exact q
    |succ j=>rw[←sh];exact z j (by lia)
def Sf(n:Nat):qd 0 n=(gj 0 n).map λk:Nat=>D.int (k:Int):=by rw[Bf,List.range_eq_range']
def WC(T:Λ)(z b:Int):D->D
 | .int e=>if -e∈T.flatten then .tup [.str "turn", .int (plc T (-e):Nat)]else .tup [.str "new", .int z]
 |_=>.tup [.str "bare", .int b]
def Yr(P:List Λ)(b:Int):D->D
 | .int e=>if e∈P.flatten.flatten then .tup [.str "part", .int (ix P e:Nat)]else .tup [.str "new", .int e]
 |_=>.tup [.str "bare", .int b]
section
variable {T M:Λ}{P:List Λ}{z b:Int}{d d1 d2:D}
def IA(hn:T.flatten.Nodup)(h:Hs d)(hl:T.length<=1000):uG [dM T,d,.int z,.int b]=some (.sh (WC T z b d)):=by
 rcases h with rfl|⟨e,rfl⟩
 .have x:Aq .non .non=some (.bl true):=rfl
  simp_arith [uG,yc,x]
  rfl
 .have x:Aq (.int e) .non=some (.bl false):=rfl;have E:=vn (n:=T.length) (by lia)
  rw[Sf]at E;have u:∀(k:Nat) S,k<T.length->(∃v,S=[some (.sh (dM T)),i0 e,i0 z,i0 b,v])->(decide (-e∈T.getD k [])=true->uq (S.set 4 (i0 (k:Int)))=some (.rt (.sh (.tup [.str "turn", .int (k:Int)]))))/\(decide (-e∈T.getD k [])=false->∃G,uq (S.set 4 (i0 (k:Int)))=some (.nx G)/\∃v,G=[some (.sh (dM T)),i0 e,i0 z,i0 b,v]):=by
   rintro k S hk ⟨v,rfl⟩;have t:atI (T.map dI) (k:Int)=some (dI (T.getD k [])):=tu (by rw[gMq,gEg hk,gDq,gEg hk];rfl)
   have l:=DS false (-e) (T.getD k []);unfold dI at t;constructor
   .intro q;rw[oZ (by simp),q]at l
    unfold dM
    simp_arith [uq,t,l]
   .intro q;rw[oZ (by simp),q]at l
    refine⟨[some (.sh (dM T)),i0 e,i0 z,i0 b,i0 (k:Int)],?_,_,rfl⟩;unfold dM
    simp_arith [uq,t,l]
  rcases GW u T.length 0 [some (.sh (dM T)),i0 e,i0 z,i0 b,none] (by lia) ⟨none,rfl⟩ with⟨m,B,s,O,H⟩|⟨B,G,s,v,rfl⟩
  .rw[bC]at s H;have J:=gEg B;rw[gDq,J]at s;have s:=of_decide_eq_true s;have mem:-e∈T.flatten:=mFq.mpr ⟨_,gRq B,s⟩;have L:plc T (-e)=m:=plc_eq hn J s;have I:WC T z b (.int e) = .tup [.str "turn", .int (m:Int)]:=by
    show(if _ then _ else _)=_
    rw[pB mem,L]
   rw[I];unfold dM at H ⊢
   simp_arith [uG,yc,x,E,H]
  .have mem:¬ -e∈T.flatten:=λq=>by
    obtain⟨k,r,hk,hr⟩:=Ce q;have:=B k (gSq.mp hk).1;rw[bC,gDq,hk]at this;exact of_decide_eq_false this hr
   have I:WC T z b (.int e) = .tup [.str "new", .int z]:=by
    show(if _ then _ else _)=_
    rw[oZ mem]
   rw[I];unfold dM at s ⊢
   simp_arith [uG,yc,x,E,s]
def KW(hn:P.flatten.flatten.Nodup)(R:P.flatten.flatten.length<=1000)(h:Hs d)(hl:P.length<=1000):vM [.list (P.map dM),d,.int b]=some (.sh (Yr P b d)):=by
 rcases h with rfl|⟨e,rfl⟩
 .have x:Aq .non .non=some (.bl true):=rfl
  simp_arith [vM,zT,x]
  rfl
 .have x:Aq (.int e) .non=some (.bl false):=rfl;have E:=vn (n:=P.length) (by lia)
  rw[Sf]at E;have t:∀(k:Nat) S,k<P.length->(∃v,S=[i5 (P.map dM),i0 e,i0 b,v])->(decide (e∈(P.getD k []).flatten)=true->vk (S.set 3 (i0 (k:Int)))=some (.rt (.sh (.tup [.str "part", .int (k:Int)]))))/\(decide (e∈(P.getD k []).flatten)=false->∃G,vk (S.set 3 (i0 (k:Int)))=some (.nx G)/\∃v,G=[i5 (P.map dM),i0 e,i0 b,v]):=by
   rintro k S hk ⟨v,rfl⟩;have u:atI (P.map dM) (k:Int)=some (dM (P.getD k [])):=tu (by rw[gMq,gEg hk,gDq,gEg hk];rfl)
   have l:=DS false e (P.getD k []).flatten;have tl:oX [dM (P.getD k [])]=some (aI (P.getD k []).flatten):=zp (by
    have m:P.getD k []∈P:=by rw[gDq,gEg hk];exact gRq hk
    have:=cE.length_le (K17.L8 (aE m));lia)
   have H:=pV (P.getD k []).flatten;unfold dI at H;constructor
   .intro q;rw[oZ (by simp),q]at l
    simp_arith [vk,u,tl,H,l]
   .intro q;rw[oZ (by simp),q]at l
    refine⟨[i5 (P.map dM),i0 e,i0 b,i0 (k:Int)],?_,_,rfl⟩
    simp_arith [vk,u,tl,H,l]
  rcases GW t P.length 0 [i5 (P.map dM),i0 e,i0 b,none] (by lia) ⟨none,rfl⟩ with⟨m,B,s,U,J⟩|⟨B,G,s,v,rfl⟩
  .rw[bC]at s J;have L:=gEg B;rw[gDq,L]at s;have s:=of_decide_eq_true s;obtain⟨r,hr,O⟩:=mFq.mp s;have mem:e∈P.flatten.flatten:=mFq.mpr ⟨r,mFq.mpr ⟨_,gRq B,hr⟩,O⟩;have Q:ix P e=m:=EG hn L s;have I:Yr P b (.int e) = .tup [.str "part", .int (m:Int)]:=by
    show(if _ then _ else _)=_
    rw[pB mem,Q]
   rw[I]
   simp_arith [vM,zT,x,E,J]
  .have mem:¬ e∈P.flatten.flatten:=λq=>by
    obtain⟨k,p,hk,hr⟩:=Kb q;have:=B k (gSq.mp hk).1;rw[bC,gDq,hk]at this;exact of_decide_eq_false this hr
   have I:Yr P b (.int e) = .tup [.str "new", .int e]:=by
    show(if _ then _ else _)=_
    rw[oZ mem]
   rw[I]
   simp_arith [vM,zT,x,E,s]
end
end K27
namespace K27
open PySem L2 Mr Z Xe Zl
open K48 (Gp)
open K23 (cz)
def eqT(u v:Str)(i j:Int):Kw (.tup [.str u,.int i]) (.tup [.str v,.int j])=some (.bl (decide (u=v/\i=j))):=rfl
section
variable {N G M L W:Λ}{P:List Λ}{z b:Int}{d d1 d2:D}
noncomputable def Qr.sp(h:Qr N d1):Hs d1:=h.elim (λ⟨f,_,q⟩=>.inr ⟨f,q⟩) λq=>.inl q.1
noncomputable def Rz.sp(h:Rz N z d1 d2):Hs d2:=h.elim (λ⟨f,_,q⟩=>.inr ⟨f,q⟩) λq=>q.elim (λq=>.inr ⟨z,q⟩) λq=>.inl q.1
def R5{e:Int}(h:-e∈G.flatten):WC G z b (.int e) = .tup [.str "turn", .int (plc G (-e):Nat)]:=by
 show(if _ then _ else _)=_
 rw[pB h]
def X7{e:Int}(h:-e∉G.flatten):WC G z b (.int e) = .tup [.str "new", .int z]:=by
 show(if _ then _ else _)=_
 rw[oZ h]
def S7{e:Int}(h:e∈P.flatten.flatten):Yr P b (.int e) = .tup [.str "part", .int (ix P e:Nat)]:=by
 show(if _ then _ else _)=_
 rw[pB h]
def XT{e:Int}(h:e∉P.flatten.flatten):Yr P b (.int e) = .tup [.str "new", .int e]:=by
 show(if _ then _ else _)=_
 rw[oZ h]
def SE{x n:D->D}{w R:Str}{i:Int->Nat}{j:Int}{Q:Int->Int->Prop}(hw:w ≠ "bare")(S:x .non = .tup [.str "bare", .int 0])(H:n .non = .tup [.str "bare", .int 1])(B:∀e∈N.flatten,x (.int e) = .tup [.str w,.int (i e)]/\n (.int e) = .tup [.str w,.int (i e)])(I:n (.int z) = .tup [.str R,.int j])(J:∀f∈N.flatten,∀s∈N.flatten,i f=i s↔Q f s)(T:Qr N d1)(O:Rz N z d1 d2):∃b,Kw (x d1) (n d2)=some (.bl b)/\(d2 ≠ .int z->(b=true↔d2 = .int z∨∃f s,d1 = .int f/\d2 = .int s/\Q f s)):=by
 have no:∀{b:Bool}{d1 d2:D},b=false->d1 = .non∨d2 = .non->d2 ≠ .int z->(b=true↔d2 = .int z∨∃f s,d1 = .int f/\d2 = .int s/\Q f s):=λ{b d1 d2} hb hd q=>by
  subst hb;refine⟨λh=>(by cases h),λh=>?_⟩
  rcases h with h|⟨f,s,t,u,_⟩
  .exact absurd h q
  .rcases hd with hd|hd
   .rw[hd]at t;cases t
   .rw[hd]at u;cases u
 rcases T with⟨f,E,rfl⟩|⟨rfl,_⟩
 .rw[(B f E).1];rcases O with⟨s,l,rfl⟩|rfl|⟨rfl,_⟩
  .rw[(B s l).2,eqT];refine⟨_,rfl,λq=>?_⟩
   rw[decide_eq_true_iff];constructor
   .rintro⟨_,e⟩;exact .inr ⟨f,s,rfl,rfl,(J f E s l).mp (by lia)⟩
   .rintro(h|⟨U,X,t,u,g⟩)
    .exact absurd h q
    .cases t;cases u;exact⟨rfl,by rw[(J f E s l).mpr g]⟩
  .rw[I,eqT];exact⟨_,rfl,λq=>absurd rfl q⟩
  .rw[H,eqT];exact⟨_,rfl,no (d6 λh=>hw h.1) (.inr rfl)⟩
 .rw[S];rcases O with⟨s,l,rfl⟩|rfl|⟨rfl,_⟩
  .rw[(B s l).2,eqT];exact⟨_,rfl,no (d6 λh=>hw h.1.symm) (.inl rfl)⟩
  .rw[I,eqT];exact⟨_,rfl,λq=>absurd rfl q⟩
  .rw[H,eqT];exact⟨_,rfl,no rfl (.inl rfl)⟩
def Vn(hn:G.flatten.Nodup)(B:G.flatten.Perm N.flatten)(ng:∀x∈N.flatten, -x∈N.flatten)(n2:-z∉N.flatten)(H:Qr N d1)(I:Rz N z d1 d2):∃b,Kw (WC G z 0 d1) (WC G z 1 d2)=some (.bl b)/\(d2 ≠ .int z->(b=true↔Same G z d1 d2)):=by
 have l:∀{x:Int},x∈N.flatten->-x∈G.flatten:=λ{x} hx=>B.mem_iff.mpr (ng x hx)
 refine SE (w:= "turn") (i:=λe=>plc G (-e)) (by decide) rfl rfl (λe E=>⟨R5 (l E),R5 (l E)⟩) (X7 λq=>n2 (B.mem_iff.mp q)) (λf J s O=>?_) H I
 obtain⟨i,r,hi,hr⟩:=Ce (l J);obtain⟨j,t,n,ht⟩:=Ce (l O);rw[plc_eq hn hi hr,plc_eq hn n ht];constructor
 .rintro rfl;rw[hi]at n;cases n;exact⟨r,mGq hi,hr,ht⟩
 .rintro⟨Q,u,a,b⟩;obtain⟨k,hk⟩:=aj.mp u;rw[←plc_eq hn hi hr,plc_eq hn hk a,←plc_eq hn hk b,plc_eq hn n ht]
def Su(nd:P.flatten.flatten.Nodup)(cn:∀p∈P,K11.Cn p)(l:∀x,x∈N.flatten↔x∈P.flatten.flatten)(t:∀{x y:Int},Gp N x y↔Gp (rY (P.flatten.map good)) x y)(n1:z∉N.flatten)(u:Qr N d1)(B:Rz N z d1 d2):∃b,Kw (Yr P 0 d1) (Yr P 1 d2)=some (.bl b)/\(d2 ≠ .int z->(b=true↔IZ N z d1 d2)):=
 SE (w:= "part") (i:=ix P) (by decide) rfl rfl (λe n=>⟨S7 ((l e).mp n),S7 ((l e).mp n)⟩) (XT λq=>n1 ((l z).mpr q)) (λf E s H=>(afE nd cn ((l f).mp E) ((l s).mp H)).trans t.symm) u B
def Ox(V R F Q:Int):wz [cT V R F Q]=some (.sh (cT F R V Q)):=by
 have l:∀a b c d e:Int,DU (.tup [.int a,.int b,.int c,.int d,.int e]) (.int 0)=some (.int a):=λ_ _ _ _ _=>rfl
 have n:∀a b c d e:Int,DU (.tup [.int a,.int b,.int c,.int d,.int e]) (.int 1)=some (.int b):=λ_ _ _ _ _=>rfl
 have s:∀a b c d e:Int,DU (.tup [.int a,.int b,.int c,.int d,.int e]) (.int 2)=some (.int c):=λ_ _ _ _ _=>rfl
 have t:∀a b c d e:Int,DU (.tup [.int a,.int b,.int c,.int d,.int e]) (.int 3)=some (.int d):=λ_ _ _ _ _=>rfl
 have u:∀a b c d e:Int,DU (.tup [.int a,.int b,.int c,.int d,.int e]) (.int 4)=some (.int e):=λ_ _ _ _ _=>rfl
 have hh:(2*Q-F+R-V) / 2=(2*Q-V+R-F) / 2:=by lia
 unfold cT;rw[hh]
 simp_arith [wz,Dy,l,n,s,t,u]
def TH(nd:P.flatten.flatten.Nodup)(cn:∀p∈P,K11.Cn p)(U:P.flatten.flatten.length<=1000)(X:P.length<=1000)(pM:∀x,x∈N.flatten↔x∈P.flatten.flatten)(gp:∀{x y:Int},Gp N x y↔Gp (rY (P.flatten.map good)) x y)(hn:G.flatten.Nodup)(Y:G.length<=1000)(pG:G.flatten.Perm N.flatten)(ng:∀x∈N.flatten, -x∈N.flatten)(n1:z∉N.flatten)(n2:-z∉N.flatten)(u:Qr N d1)(l:Rz N z d1 d2){V R F Q F' B:Int}
  (hc:(Same G z d1 d2/\F'=F+1/\B=Q)∨(¬ Same G z d1 d2/\IZ N z d1 d2/\F'=F-1/\B=Q)∨(¬ Same G z d1 d2/\¬ IZ N z d1 d2/\F'=F-1/\B=Q-1)) :
  Bq [.list (P.map dM),dM G,.tup [.int z,d1,d2],cT V R F Q]=some (.sh (cT V (R+1) F' B)):=by
 obtain⟨bs,E,H⟩:=Vn hn pG ng n2 u l;obtain⟨bt,I,ht⟩:=Su nd cn pM gp n1 u l;have J:=IA (z:=z) (b:=0) hn u.sp Y;have O:=IA (z:=z) (b:=1) hn l.sp Y;have p1:=KW (b:=0) nd U u.sp X;have p2:=KW (b:=1) nd U l.sp X;have a0:∀x y:D,atI [x,y] 0=some x:=λ_ _=>tu (j:=0) rfl
 have a1:∀x y:D,atI [x,y] 1=some y:=λ_ _=>tu (j:=1) rfl
 have l5:((5:Nat)=5)=True:=eq_true rfl;have l3:((3:Nat)=3)=True:=eq_true rfl;have S:∃b,GP d2 (.int z)=some (.bl b)/\(b=true↔d2 = .int z):=by
  rcases l.sp with rfl|⟨s,rfl⟩
  .exact⟨false,rfl,by simp⟩
  .exact⟨decide (s=z),rfl,by simp⟩
 obtain⟨n,ez,T⟩:=S;have g1:(2*Q-V+(R+1)-(F+1)) / 2=(2*Q-V+R-F) / 2:=by lia
 have g2:(2*Q-V+(R+1)-(F-1)) / 2=(2*Q-V+R-F) / 2+1:=by lia
 have g3:(2*(Q-1)-V+(R+1)-(F-1)) / 2=(2*Q-V+R-F) / 2:=by lia
 generalize WC G z 0 d1=C1 at J E;generalize WC G z 1 d2=C2 at O E;generalize Yr P 0 d1=E1 at p1 I;generalize Yr P 1 d2=E2 at p2 I;unfold dM at J O ⊢;have run:Bq [.list (P.map dM),.list (G.map dI),.tup [.int z,d1,d2],cT V R F Q]=some (.sh (if (n || bs)=true then .tup [.int V,.int (R+1),.int (F+1),.int Q,.int ((2*Q-V+R-F) / 2)]else if bt=true then .tup [.int V,.int (R+1),.int (F-1),.int Q,.int ((2*Q-V+R-F) / 2+1)]else .tup [.int V,.int (R+1),.int (F-1),.int (Q-1),.int ((2*Q-V+R-F) / 2)])):=by
  unfold cT;cases n <;> cases bs <;> cases bt <;> simp_arith [Bq,LS,NW,VE,Jd,Jo,l5,l3,J,O,p1,p2,a0,a1,ez,E,I,jC,Bool.or_false]
 rw[run];unfold cT;have zc:d2 = .int z->Same G z d1 d2:=.inl;rcases hc with⟨s,rfl,rfl⟩|⟨s,t,rfl,rfl⟩|⟨s,t,rfl,rfl⟩
 .have:(n || bs)=true:=by
   by_cases q:d2 = .int z
   .rw[T.mpr q];rfl
   .rw[(H q).mpr s,jC]
  rw[pB this,g1]
 .have q:d2 ≠ .int z:=λq=>s (zc q)
  have b1:¬ n=true:=λh=>q (T.mp h)
  have b2:¬ bs=true:=λh=>s ((H q).mp h)
  rw[oZ (by simp[b1,b2]),pB ((ht q).mpr t),g2]
 .have q:d2 ≠ .int z:=λq=>s (zc q)
  have b1:¬ n=true:=λh=>q (T.mp h)
  have b2:¬ bs=true:=λh=>s ((H q).mp h)
  rw[oZ (by simp[b1,b2]),oZ (λh=>t ((ht q).mp h)),g3]
end
end K27
namespace K27
open PySem L2 Mr Z Xe Zl
open K23 (cz C)
noncomputable abbrev qz(z:Int)(l n:D):D:=.ins "Part" [("road", .int z),("first", l),("second", n)]
noncomputable abbrev dz(z:Int):D:=.ins "Draw" [("road", .int z)]
section
variable {N M L W X:Λ}{z:Int}{d1 d2:D}
def Qy(x:Hs d1)(B:Hs d2)(l:K15.pY [dM M]=some (.ow (L.map aI)))(n:tR [pz z d1 d2,dM L]=some (.ow (W.map aI)))(u:K15.pY [dM W]=some (.ow (X.map aI))):wu [qz z d1 d2,dM M]=some (.ow (X.map aI)):=by
 have a:AJ "Part" "road" (qz z d1 d2)=some (.int z):=by rfl
 have b:AJ "Part" "first" (qz z d1 d2)=some d1:=by rfl
 have c:AJ "Part" "second" (qz z d1 d2)=some d2:=by rfl
 have E:EX "Part" "other" (.sh (qz z d1 d2))=some (qz z d1 d2):=by rfl
 have G:EX "Put" "done" (.sh (pz z d1 d2))=some (pz z d1 d2):=by rfl
 have H:uT [qz z d1 d2]=some (.sh (pz z d1 d2)):=by
  rcases x with rfl|⟨s,rfl⟩ <;> rcases B with rfl|⟨t,rfl⟩ <;> (simp_arith [uT,BZ,O5,a,b,c];rfl)
 have I:=vU L;have J:=vU W;have O:tW [qz z d1 d2,dM M]=some (.ow (X.map aI)):=by
  unfold dM at l n u ⊢
  simp_arith [tW,ym,RY,E,H,G,l,I,n,J,u]
 simp_arith [wu,DJ,O]
def Rf(l:K15.pY [dM X]=some (.ow (W.map aI)))(n:tJ [cz z,dM W]=some (.ow (L.map aI)))(s:K15.pY [dM L]=some (.ow (M.map aI))):wt [dz z,dM X]=some (.ow (M.map aI)):=by
 have a:AJ "Draw" "road" (dz z)=some (.int z):=by rfl
 have t:EX "Draw" "other" (.sh (dz z))=some (dz z):=by rfl
 have u:EX "Cut" "done" (.sh (cz z))=some (cz z):=by rfl
 have x:vx [dz z]=some (.sh (cz z)):=by
  simp_arith [vx,B2,O5,a]
  rfl
 have B:=vU L;have E:=vU W;have G:tU [dz z,dM X]=some (.ow (M.map aI)):=by
  unfold dM at l n s ⊢
  simp_arith [tU,xX,RY,t,x,u,l,E,n,B,s]
 simp_arith [wt,DA,G]
def Pt.cut_back(h:Pt N W z d1 d2)(n:W.flatten.length<=128)(hl:W.length<=1000)(hb:bare N<=128):tJ [cz z,dM W]=some (.ow (N.map aI)):=by
 have b:=K25.AL (C z W);rw[h.cut]at b;have ht:=zp (rs:=W) (by lia)
 have s:decide (z∈W.flatten)=true:=d4 h.zw;have l:=GM (T:=C z W) (K23.afX n) (by lia) (by unfold C;rw[lMq];exact hl)
 rw[h.cut]at l;have t:=K23.Nk z (rs:=W) λr hr=>by have:=NH hr;lia
 have u:((W.map (K23.vB z)).map aI).map oB=(C z W).map dI:=by rw[mPq];exact mCq λr _=>pV r
 have x:W.length<=qE:=rP (by lia)
 have a:AJ "Cut" "road" (cz z)=some (.int z):=by rfl
 have w:vo [dM W,.int z]=some (.ow (N.map aI)):=by
  unfold dM at l ⊢;unfold dM at ht
  simp_arith [vo,Ao,ht,s,t,u,l,x]
 simp_arith [tJ,Eo,a,w]
end
end K27
namespace K27
open PySem L2 Mr Z Xe Zl
open K17 (Pw Zt GH qY oG)
def Ww:K11.Cn [[]]:=⟨by simp,by simp,λk n l=>by simp at l;lia⟩
def OU:Pw [[[]]]:=⟨by simp,by simp,by simp,by simp,by simp,by simp,λp l=>by rw[mSq.mp l];exact Ww⟩
def YN{ns:Ϝ}(hns:ns.length<=63):∃(P:List Λ) (nm:Ϝ) (z x y:Int) (a1 a2:AV) (v4:Option AV),Pw P/\P≠[]/\atI (nm.map D.int) 65=some (.int z)/\1<=z/\z∉P.flatten.flatten/\oB a1=dI nm/\oB a2 = .list (P.map dM)/\∀m:MS,(oz (oN 1 (oJ K12.xo (om (oy 0) oC)))
 (oz (oN 2 (oJ K12.yY (om (Ot (uj 0) (wK (rC (.int 5))) (wK (rC (.int 65)))) (om (oy 1) oC))))
 (oz (oN 3 (qF (om (kSc (qP Zl.oA (oi (oj 0) (oi (rC (.int 3)) ox)))) (om (kSc (qP Zl.oA (oi (oj 0) (oi (rC (.int 4)) ox)))) oC))))
 (oz (wk (rA (oV GP (oV ur (qP Zl.oA (oi (oj 0) (oi (rC (.int 0)) ox))) (rC (.int 2))) (rC (.int 1)))) (oz (Iw [4,1] (oJ K16.CP (om (oy 0) oC))) (oz (oN 2 (oJ K17.wq (om (oy 4) oC))) (oN 3 (qF (om (kSc (qP Zl.oA (oi (oj 0) (oi (rC (.int 5)) ox)))) (om (kSc (qP Zl.oA (oi (oj 0) (oi (rC (.int 6)) ox)))) oC)))))) pH)
 (oz (wk (rA (oV GP (tT qM (oi (oj 2) ox)) (rC (.int 0)))) (oN 2 (qF (om (qF (om (qF oC) oC)) oC))) pH) m)))))
 [some (.sh (.scr ns)),none,none,none,none,none,none,none,none,none,none,none,none,none,none,none,none,none]=m [some (.sh (.scr ns)),some a1,some a2,some (.ow [.sh (.int x),.sh (.int y)]),v4,none,none,none,none,none,none,none,none,none,none,none,none,none]:=by
 obtain⟨st,sh,a,b,h1,h1',h2,h2',h3,h4,J⟩:=K12.Ur ns;have l:=K12.acy (b:=b) h1 h1' h2 h2' h3 h4;generalize K12.Y4 st sh a b=nm at J l;have s:xa ns (some 5) (some 65)=(ns.drop 5).take 60:=UM ns 5 65;have hl:((ns.drop 5).take 60).length<=63:=by rw[lTq];lia
 generalize (ns.drop 5).take 60=cs at s hl;obtain⟨P,u,Q,pp,hu,l1,l2,cn⟩:=K11.UB (nm:=nm) hl l.len;have hP:=K12.ad1 l pp hu l1 l2;have pw:=Zt hP cn;have sP:=K12.O7 P;have R:=pV nm;have cN:∀(k:Nat),oA [.scr ns,.int (k:Int)]=i0 (cell ns k):=λk=>by
  have:=DF ns (k:=(k:Int)) (by lia)
  rwa [cu]at this
 have S:oA [.scr ns,.int 0]=i0 (cell ns 0):=cN 0;have U:oA [.scr ns,.int 3]=i0 (cell ns 3):=cN 3;have X:oA [.scr ns,.int 4]=i0 (cell ns 4):=cN 4;have c5:oA [.scr ns,.int 5]=i0 (cell ns 5):=cN 5;have c6:oA [.scr ns,.int 6]=i0 (cell ns 6):=cN 6;have Y:=tP (i:=cell ns 0) (j:=2) (by decide)
 have L:((2:Nat)=2)=True:=eq_true rfl;have z0:decide (((0:Nat):Int)=0)=true:=rfl
 by_cases q:cell ns 0 % 2=1
 .have M:decide (cell ns 0 % 2=1)=true:=d4 q;obtain⟨T,n,ea,E,ln,hx⟩:=K16.acj ns;have hlT:=E.len;obtain⟨G,eg,pg,cg,lg⟩:=GH E.nd (by lia) E.neg
  have I:=qY pg;have pwG:Pw G:=⟨I.nodup_iff.mp E.nd,λz hz=>I.mem_iff.mp (E.neg z (I.mem_iff.mpr hz)),λz hz=>E.nz z (I.mem_iff.mpr hz),by rw[←I.length_eq];exact E.le,by rw[←pg.length_eq];exact hlT,by lia,cg⟩
  have sG:oB (oG G) = .list (G.map dM):=by
   unfold oG;rw[rJ,mPq];exact congrArg D.list (mCq λp _=>rV _)
  have t:n[65]?=some (n[65]'(by lia)):=gEg (by lia)
  have B:=hx _ (mGq t);generalize n[65]'(by lia)=z at t B
  have O:atI (n.map D.int) 65=some (.int z):=tu (j:=65) (by rw[gMq,t];rfl)
  by_cases H:G=[]
  .subst H;refine⟨[[[]]],n,z,cell ns 5,cell ns 6,.sh (dI n),.ow [.ow [.ow []]],some (.sh (dM T)),OU,by simp,O,B.1,by simp,rfl,rfl,λm=>?_⟩
   simp_arith [J,uo,s,Q,R,S,Y,M,U,X,NW,ea,VE,Jd,Jo,L,eg,c5,c6,sG,z0]
  .have lz:decide (((G.length:Nat):Int)=0)=false:=d6 (by have:=cH.mpr H;lia)
   refine⟨G,n,z,cell ns 5,cell ns 6,.sh (dI n),oG G,some (.sh (dM T)),pwG,H,O,B.1,λh=>B.2 (I.mem_iff.mpr h),rfl,sG,λm=>?_⟩
   simp_arith [J,uo,s,Q,R,S,Y,M,U,X,NW,ea,VE,Jd,Jo,L,eg,c5,c6,sG,lz]
 .have M:decide (cell ns 0 % 2=1)=false:=d6 q;have t:nm[65]?=some (nm[65]'(by have:=l.len;lia)):=gEg _
  have B:=l.lo _ (mGq t);have nz:nm[65]'(by have:=l.len;lia)∉P.flatten.flatten:=λh=>by
   obtain⟨x,hx,e⟩:=K12.Du.mp (pp.mem_iff.mp h);have xl:=l.lo x (bh hx);have:x=nm[65]'(by have:=l.len;lia):=by lia
   have nd:=l.nd;rw[←aR u nm,nAq]at nd;exact nd.2.2 x hx _ (mGq (i:=65-u) (by rw[dB,show u+(65-u)=65 by lia];exact t)) this
  generalize nm[65]'(by have:=l.len;lia)=z at t B nz
  have O:atI (nm.map D.int) 65=some (.int z):=tu (j:=65) (by rw[gMq,t];rfl)
  by_cases H:P=[]
  .subst H;refine⟨[[[]]],nm,z,cell ns 3,cell ns 4,.sh (dI nm),.ow [.ow [.ow []]],none,OU,by simp,O,B,by simp,rfl,rfl,λm=>?_⟩
   simp_arith [J,uo,s,Q,R,S,Y,M,U,X,z0]
  .have lz:decide (((P.length:Nat):Int)=0)=false:=d6 (by have:=cH.mpr H;lia)
   refine⟨P,nm,z,cell ns 3,cell ns 4,.sh (dI nm),.ow (P.map K12.aP),none,pw,H,O,B,nz,rfl,by rw[rJ,sP],λm=>?_⟩
   simp_arith [J,uo,s,Q,R,S,Y,M,U,X,sP,lz]
end K27
namespace K27
open PySem L2 Mr Z Xe Zl
open K17 (Pw)
def aeB{E:List D}(c:Int)(h:0<E.length):∃j d,ur (.int c) (.int (E.length:Int))=some (.int j)/\atI E j=some d/\d∈E:=by
 have s:=bP c (b:=(E.length:Int)) (by lia)
 have t:=bJ c (b:=(E.length:Int)) (by lia)
 obtain⟨j,n⟩:∃j:Nat,c % (E.length:Int)=(j:Int):=⟨(c % (E.length:Int)).toNat,by lia⟩
 have l:j<E.length:=by lia
 have m:=tP (i:=c) (j:=(E.length:Int)) (by lia)
 rw[n]at m;exact⟨_,E[j],m,tu (gEg l),gRq l⟩
def ac8(n:Int)(h:0<=n):∃k:Nat,k<=1/\(k=1↔0<n)/\EC [.int n,.int 1]=some (.int (k:Int)):=by
 by_cases q:0<n
 .refine⟨1,aa _,⟨λ_=>q,λ_=>rfl⟩,?_⟩
  rw[IT,show(if (1:Int)<n then 1 else n)=1 by split <;> lia]
  rfl
 .refine⟨0,by lia,⟨λh=>by lia,λh=>absurd h q⟩,?_⟩
  rw[IT,show(if (1:Int)<n then 1 else n)=0 by split <;> lia]
  rfl
def IX(k:Nat):rm rZ (kSc (rC .non)) [] (qd 0 k)=some (ay k (.sh .non)):=by
 rw[Z.um (λ_=>.sh .non)]
 .rw[jn,qu]
 .intro d hd;refine⟨[some (.sh d)],?_⟩
  simp_arith []
def Ts{M L:Λ}{P:List Λ}{nm:Ϝ}{z x y:Int}{J a2:AV}{v0 v4:Option AV}(mp:Mp M)(ne:M≠[])(n1:z∉M.flatten)(tp:oX [.list (P.map dM)]=some (K13.oM P.flatten))(mo:K13.xY [dM P.flatten]=some (.ow (M.map aI)))(el:K15.vN [dM M]=some (.ow (L.map aI)))(az:atI (nm.map D.int) 65=some (.int z))(s1:oB J=dI nm)(s2:oB a2 = .list (P.map dM)) :
  ∃l O v9,Qr M l/\Rz M z l O/\∀m:MS,(oz (oN 5 (oJ K13.xY (om (oJ Zl.oX (om (oy 2) oC)) oC)))
 (oz (oN 6 (oJ K15.vN (om (oy 5) oC)))
 (oz (oN 7 (oJ Zl.oX (om (oy 5) oC)))
 (oz (oN 8 (kSc (tT qM (oi (rOf (tj (Bh (oy 5)) [] (vD (C5 (oj 0))) (oy 0))) ox))))
 (oz (oN 9 (BP (Au 7) (lOf (tj (Zb (oi (tT EC (oi (oj 8) (oi (rC (.int 1)) ox))) ox)) [] rZ (kSc (rC .non))))))
 (oz (oN 10 (RB (uj 9) (oV ur (oV zh (oj 3) (rC (.int 0))) (tT qM (oi (oj 9) ox)))))
 (oz (wk (Lh (rA (oV Lu (oj 8) (rC (.int 0)))) (rA (oV GP (oV ur (oV zh (oj 3) (rC (.int 1))) (rC (.int 5))) (rC (.int 2))))) (oN 10 (kSc (rC .non))) pH)
 (oz (oN 9 (BP (lOf (BP (Au 7) (lOf (qF (om (kSc (oV zh (oj 1) (rC (.int 65)))) oC))))) (lOf (tj (Zb (oi (tT EC (oi (oV GF (oj 8) (tT KQ (oi (oV Aq (oj 10) (rC .non)) ox))) (oi (rC (.int 1)) ox))) ox)) [] rZ (kSc (rC .non))))))
 (oz (oN 11 (RB (uj 9) (oV ur (oV CL (oV zh (oj 3) (rC (.int 1))) (rC (.int 5))) (tT qM (oi (oj 9) ox)))))
 m)))))))))
 [v0,some J,some a2,some (.ow [.sh (.int x),.sh (.int y)]),v4,none,none,none,none,none,none,none,none,none,none,none,none,none]=m [v0,some J,i5 (P.map dM),some (.ow [.sh (.int x),.sh (.int y)]),v4,some (.sh (dM M)),some (.ow (L.map aI)),some (aI M.flatten),i0 (bare M:Nat),v9,some (.sh l),some (.sh O),none,none,none,none,none,none]:=by
 have so:=K13.Us P.flatten;have hl:=mp.hl;have hr:=mp.hr;have tM:oX [dM M]=some (aI M.flatten):=zp (by lia)
 have ec:=K23.Rg M;have fb:=K23.QA M;have lM:M.length<=qE:=rP (by lia)
 have bl:bare M<=M.length:=fO ..;have sM:=vU M;have a0:∀x y:D,atI [x,y] 0=some x:=λ_ _=>tu (j:=0) rfl
 have u:∀x y:D,atI [x,y] 1=some y:=λ_ _=>tu (j:=1) rfl
 obtain⟨k,k1,k2,ek⟩:=ac8 (bare M:Nat) (by lia)
 have rk:=vn (n:=k) (by lia)
 have ck:=IX k;have lk:(qd 0 k).length<=qE:=by rw[qu];exact rP (by lia)
 have sk:(ay k (AV.sh D.non)).map oB=ay k .non:=by rw[dD];rfl
 have l1:(M.flatten.length+k<=qE)=True:=eq_true (rP (by lia))
 have pos:0<(M.flatten.map D.int++ay k D.non).length:=by
  rw[lAq,lMq,cM];rcases Nat.eq_zero_or_pos M.flatten.length with q|q
  .obtain⟨r,hr⟩:=gI _ ne;have:r=[]:=df.mp (bN.mp q) r hr;subst this;have:=k2.mpr (by have:=LI.mpr hr;lia)
   lia
  .lia
 obtain⟨j1,Y,m1,Q,i1⟩:=aeB x pos;have R:Qr M Y:=by
  rcases mAq.mp i1 with q|q
  .obtain⟨f,hf,rfl⟩:=mMq.mp q;exact .inl ⟨f,hf,rfl⟩
  .obtain⟨S,B⟩:=iM.mp q;exact .inr ⟨B,by have:=k2.mp (by lia);lia⟩
 obtain⟨I,hI⟩:∃I:MS,I=(wk (Lh (rA (oV Lu (oj 8) (rC (.int 0)))) (rA (oV GP (oV ur (oV zh (oj 3) (rC (.int 1))) (rC (.int 5))) (rC (.int 2))))) (oN 10 (kSc (rC .non))) pH):=⟨_,rfl⟩;have ex1:∃l,Qr M l/\∀T:Option AV,I [v0,some J,i5 (P.map dM),some (.ow [.sh (.int x),.sh (.int y)]),v4,i5 (M.map dI),some (.ow (L.map aI)),some (.ow (M.flatten.map λn=>.sh (.int n))),i0 (bare M:Nat),T,some (.sh Y),none,none,none,none,none,none,none]=some (.nx [v0,some J,i5 (P.map dM),some (.ow [.sh (.int x),.sh (.int y)]),v4,i5 (M.map dI),some (.ow (L.map aI)),some (.ow (M.flatten.map λn=>.sh (.int n))),i0 (bare M:Nat),T,some (.sh l),none,none,none,none,none,none,none]):=by
  have m5:=tP (i:=y) (j:=5) (by decide)
  by_cases S:(0:Int)<((bare M:Nat):Int)
  .by_cases B:y % 5=2
   .refine⟨.non,.inr ⟨rfl,by lia⟩,λT=>?_⟩
    have U:decide ((0:Int)<((bare M:Nat):Int))=true:=d4 S;have t2:decide (y % 5=2)=true:=d4 B
    simp_arith [hI,U,u,m5,t2]
   .refine⟨Y,R,λT=>?_⟩
    have U:decide ((0:Int)<((bare M:Nat):Int))=true:=d4 S;have t2:decide (y % 5=2)=false:=d6 B
    simp_arith [hI,U,u,m5,t2]
  .refine⟨Y,R,λT=>?_⟩
   have U:decide ((0:Int)<((bare M:Nat):Int))=false:=d6 S
   simp_arith [hI,U]
 obtain⟨l,G,e10⟩:=ex1;obtain⟨H,eb,hb⟩:∃H,Aq l .non=some (.bl H)/\(H=true↔l = .non):=by
  rcases G with⟨f,_,rfl⟩|⟨rfl,_⟩
  .exact⟨false,rfl,by simp⟩
  .exact⟨true,rfl,by simp⟩
 have nb:0<=((bare M:Nat):Int)-(if H=true then 1 else 0):=by
  rcases G with⟨f,_,q⟩|⟨q,B⟩
  .have:¬ H=true:=λh=>by rw[hb.mp h]at q;cases q
   rw[oZ this];lia
  .split <;> lia
 obtain⟨t,k1',k2',ek'⟩:=ac8 _ nb;have rk':=vn (n:=t) (by lia)
 have ck':=IX t;have lk':(qd 0 t).length<=qE:=by rw[qu];exact rP (by lia)
 have sk':(ay t (AV.sh D.non)).map oB=ay t .non:=by rw[dD];rfl
 have l2:(M.flatten.length+1<=qE)=True:=eq_true (rP (by lia))
 have l3:((M.flatten.map D.int++[D.int z]).length+t<=qE)=True:=eq_true (rP (by rw[lAq,lMq,lSq];lia))
 obtain⟨j2,O,m2,X,i2⟩:=aeB (E:=M.flatten.map D.int++[.int z]++ay t D.non) (y / 5) (by simp;lia)
 have Y2:Rz M z l O:=by
  rcases mAq.mp i2 with q|q
  .rcases mAq.mp q with q|q
   .obtain⟨s,hs,rfl⟩:=mMq.mp q;exact .inl ⟨s,hs,rfl⟩
   .exact .inr (.inl (mSq.mp q))
  .obtain⟨S,B⟩:=iM.mp q;have kp:=k2'.mp (by lia)
   refine .inr (.inr ⟨B,?_⟩)
   by_cases h:H=true
   .rw[pB h]at kp;exact .inr (by lia)
   .rw[oZ h]at kp;exact .inl ⟨λq=>h (hb.mpr q),by lia⟩
 have d5:=Aa (i:=y) (j:=5) (by decide) (by decide)
 generalize hE1:M.flatten.map D.int++ay k D.non=E1 at m1 Q;generalize hE2:M.flatten.map D.int++[.int z]++ay t D.non=E2 at m2 X;refine⟨l,O,some (.ow (E2.map .sh)),G,Y2,λm=>?_⟩
 rw[←hI];unfold dM at *;unfold dI at s1
 simp_arith [s2,tp,so,mo,sM,el,tM,ec,fb,lM,ek,rk,ck,lk,sk,l1,cM,hE1,a0,m1,Q,e10,s1,az,eb,ZZ,ek',rk',ck',lk',sk',l2,l3,hE2,u,d5,m2,X]
end K27
namespace K27
open PySem L2 Mr Z Xe Zl
open K15 (nx fw)
open K23 (cz)
open K17 (Pw zf BM DB DV zK Ic)
open K25 (vZ)
open K43 (L9 D7)
def Qr.to{M L:Λ}{d:D}(l:L.flatten.Perm M.flatten)(n:bare L=bare M)(h:Qr M d):Qr L d:=h.imp (λ⟨f,a,b⟩=>⟨f,l.mem_iff.mpr a,b⟩) λh=>⟨h.1,by rw[n];exact h.2⟩
def Rz.to{M L:Λ}{z:Int}{l n:D}(s:L.flatten.Perm M.flatten)(t:bare L=bare M)(h:Rz M z l n):Rz L z l n:=h.imp (λ⟨f,a,b⟩=>⟨f,s.mem_iff.mpr a,b⟩) λh=>h.imp id λh=>⟨h.1,by rw[t];exact h.2⟩
def mkY{c:Str}{z:Int}{l n:D}{S:AS}{u:AV}{nm:Ϝ}(x:S[1]?.join=some u)(s1:oB u = .list (nm.map D.int))(B:atI (nm.map D.int) 65=some (.int z))(E:S[10]?.join=some (.sh l))(G:S[11]?.join=some (.sh n))(H:Hs l)(I:Hs n):Df c ["road","first","second"] (oi (oV zh (oj 1) (rC (.int 65))) (oi (oj 10) (oi (oj 11) ox))) S=some (.sh (.ins c [("road", .int z),("first", l),("second", n)]),S):=by
 rcases H with rfl|⟨s,rfl⟩ <;> rcases I with rfl|⟨t,rfl⟩ <;> (simp_arith [O5,x,E,G,s1,B];rfl)
def mkZ{c:Str}{z:Int}{S:AS}{l:AV}{nm:Ϝ}(n:S[1]?.join=some l)(s1:oB l = .list (nm.map D.int))(s:atI (nm.map D.int) 65=some (.int z)):Df c ["road"] (oi (oV zh (oj 1) (rC (.int 65))) ox) S=some (.sh (.ins c [("road", .int z)]),S):=by
 simp_arith [O5,n,s1,s]
 rfl
def abA{ns:Ϝ}(hns:ns.length<=63):Sv [.scr ns]=i6 true:=by
 obtain⟨P,nm,z,x,y,a1,a2,v4,h,pne,J,z1,zP,H,s2,hd⟩:=YN hns;have hle:=h.le;have hlt:=h.lt;have hlp:=h.lp;have tp:oX [.list (P.map dM)]=some (K13.oM P.flatten):=K13.ab9 (ms:=P) (by lia)
 have mo:K13.xY [dM P.flatten]=some (.ow ((rY (P.flatten.map good)).map aI)):=K13.VN (λr hr=>by
  have:=cE.length_le (aE hr);lia) (rP (by lia))
 have U:(rY (P.flatten.map good)).flatten.Perm P.flatten.flatten:=(qJ (pJ _)).trans (pO pD _);have lG:(rY (P.flatten.map good)).length=P.flatten.length:=by rw[sH,lMq]
 have gM:=CI h.nd;have l:Mp (rY (P.flatten.map good)):=Zc h.nd h.ng (by lia) (by lia)
 have nz:∀e∈(rY (P.flatten.map good)).flatten,e≠0:=λe he=>h.nz e (U.mem_iff.mp he)
 have pp:=λ{kn} {PS}=>DB h.nd h.cn l (kn:=kn) (PS:=PS)
 have ne:rY (P.flatten.map good)≠[]:=λq=>by
  have:=congrArg bV q;rw[lG]at this;have e:=bN.mp this;obtain⟨p,O⟩:=gI _ pne;exact(h.cn p O).ne (df.mp e p O)
 have gpM:∀{x y:Int},K48.Gp (rY (P.flatten.map good)) x y↔K48.Gp (rY (P.flatten.map good)) x y:=Iff.rfl;generalize Y:rY (P.flatten.map good)=M at mo U lG gM l nz pp ne gpM;have bM:bare M<=128:=by
  have:bare M<=M.length:=fO ..;lia
 have zM:z∉M.flatten:=λq=>zP (U.mem_iff.mp q)
 have I:-z∉M.flatten:=λq=>zM (by have:=l.hneg _ q;rwa [bp]at this)
 have zne:z ≠ -z:=by lia
 have flM:=U.length_eq;obtain⟨L,T,s,e2,t,gL,_,lL⟩:=K16.C4 l (by lia)
 rw[gM]at e2;obtain⟨L',f1,f2,_⟩:=K15.NK l;rw[T]at f1;have q:=zK (AV.ow.inj (aw.inj f1));subst q;obtain⟨L',f1,_,bL,_,hx⟩:=vZ l;rw[T]at f1;have q:=zK (AV.ow.inj (aw.inj f1));subst q;have zL:z∉L.flatten:=λq=>zM (t.mem_iff.mp q)
 have zL':-z∉L.flatten:=λq=>I (t.mem_iff.mp q)
 obtain⟨E,G,v9,n,Y2,sk⟩:=Ts (v0:=some (.sh (.scr ns))) (x:=x) (y:=y) (v4:=v4) l ne zM tp mo f2 J H s2;have sq1:=n.to t bL;have sq2:=Y2.to t bL;have flL:=t.length_eq;obtain⟨W,pw,u⟩:=S0 l gM zM I zne (by lia) (by lia) bM n Y2
 obtain⟨V,pv,B⟩:=S0 s gL zL zL' zne (by lia) (by lia) (by lia) sq1 sq2
 have flW:=u.pf.length_eq;have flV:=B.pf.length_eq;rw[lCq,lCq]at flW flV;have lW:=u.ln;have lV:=B.ln;obtain⟨kn,PS,O,c1⟩:=zf l T;obtain⟨kn',PL,hpL,_⟩:=K51.Ee (D7 s);have k1:=DV l (by lia) O T hpL
 have k3:=pp O;obtain⟨X1,R1,F1,Q1,r1,_,_,c2,_,w1⟩:=u.counts (by lia) nz O T
 obtain⟨X,R2,F2,Q2,r2,x1,x2,_,c3,w2⟩:=B.counts (by lia) (λe he=>nz e (t.mem_iff.mp he)) hpL e2
 have rr:=BM l nz;have q1:R1=((M.flatten.length:Nat):Int) / 2:=by lia
 have q2:R2=((M.flatten.length:Nat):Int) / 2:=by lia
 have q3:((L9 M).length:Int)=((M.flatten.length:Nat):Int) / 2:=by lia
 subst q1 q2;rw[q3,k3]at c1;rw[k3]at w1;rw[←k1,k3]at w2;have inP:∀x,x∈M.flatten↔x∈P.flatten.flatten:=λx=>U.mem_iff
 have du1:=TH (V:=M.length) (R:=((M.flatten.length:Nat):Int) / 2) h.nd h.cn (by lia) (by lia) inP (by rw[Y]) s.hn s.hr t l.hneg zM I n Y2 w1
 have du2:=TH (V:=L.length) (R:=((M.flatten.length:Nat):Int) / 2) h.nd h.cn (by lia) (by lia) (λx=>t.mem_iff.trans (inP x)) (by rw[Y];exact abr l t hx) l.hn l.hr t.symm s.hneg zL zL' sq1 sq2 w2
 have pd:=Qy n.sp Y2.sp T pv x1;have cb:=u.cut_back (by lia) (by lia) bM
 have dd:=Rf x2 (B.cut_back (by lia) (by lia) (by lia)) e2
 have sw1:=Ox M.length (((M.flatten.length:Nat):Int) / 2) L.length P.length;have sw2:=Ox L.length (((M.flatten.length:Nat):Int) / 2+1) F2 Q2;have al:∀a b c d:Int,K13.rF [cT a b c d,cT a b c d]=i6 true:=λa b c d=>K13.Ca 4 _ (Ic 2 [a,b,c,d,(2*d-a+b-c) / 2] (by simp))
 have al0:=al M.length (((M.flatten.length:Nat):Int) / 2) L.length P.length;have al1:=al M.length (((M.flatten.length:Nat):Int) / 2+1) F1 Q1;have al2:=al F2 (((M.flatten.length:Nat):Int) / 2+1) L.length Q2;have cp:=K51.XF (rs:=M) (by lia)
 have sM:=vU M;have sL:=vU L;have sW:=vU W;have sX:=vU X;have sF:=pV M.flatten;have mu:∀i:Int,D4 (.int 2) (.int i)=some (.int (2*i)):=λi=>SJ (by decide) (by decide)
 have dv:=λi:Int=>Aa (i:=i) (j:=2) (by decide) (by decide)
 have e:Sv=qK 1 18 JU:=rfl;unfold dI at H;have mk1:∀S:AS,S[1]?.join=some a1->S[10]?.join=some (.sh E)->S[11]?.join=some (.sh G)->Df "Put" ["road","first","second"] (oi (oV zh (oj 1) (rC (.int 65))) (oi (oj 10) (oi (oj 11) ox))) S=some (.sh (pz z E G),S):=λS a b c=>mkY a H J b c n.sp Y2.sp
 have mk2:∀S:AS,S[1]?.join=some a1->S[10]?.join=some (.sh E)->S[11]?.join=some (.sh G)->Df "Part" ["road","first","second"] (oi (oV zh (oj 1) (rC (.int 65))) (oi (oj 10) (oi (oj 11) ox))) S=some (.sh (qz z E G),S):=λS a b c=>mkY a H J b c n.sp Y2.sp
 have mk3:∀S:AS,S[1]?.join=some a1->Df "Cut" ["road"] (oi (oV zh (oj 1) (rC (.int 65))) ox) S=some (.sh (cz z),S):=λS a=>mkZ a H J
 have mk4:∀S:AS,S[1]?.join=some a1->Df "Draw" ["road"] (oi (oV zh (oj 1) (rC (.int 65))) ox) S=some (.sh (dz z),S):=λS a=>mkZ a H J
 have i1:EX "Put" "done" (.sh (pz z E G))=some (pz z E G):=by rfl
 have i2:EX "Part" "done" (.sh (qz z E G))=some (qz z E G):=by rfl
 have i3:EX "Cut" "done" (.sh (cz z))=some (cz z):=by rfl
 have i4:EX "Draw" "done" (.sh (dz z))=some (dz z):=by rfl
 have w0:JU [some (.sh (.scr ns)),none,none,none,none,none,none,none,none,none,none,none,none,none,none,none,none,none]=some (.rt (.sh (.bl true))):=by
  unfold JU;rw[hd,sk];have cT_:∀V R F Q:Int,D.tup [.int V,.int R,.int F,.int Q,.int ((2*Q-V+R-F) / 2)]=cT V R F Q:=λ_ _ _ _=>rfl
  unfold dM at *
  simp_arith [sF,dI,dv,mu,cT_,H,J,cp,sM,sL,c1,al0,RY,mk1,i1,pw,sW,c2,du1,al1,mk2,i2,pd,sX,c3,sw1,du2,sw2,al2,mk3,i3,cb,mk4,i4,dd]
 rw[e]
 simp_arith [w0]
end K27
namespace K27
open PySem L2 Mr Z Xe
def aaj{l:W.OpenLaw}{w:jU}{K:Ζ}{h:Heap}{mg:Str->Υ}{fa:Addr}(X:K.In h)(G:h.Ns jQ mg)(hfa:mg "law" = some (.ref fa))
  {t:Addr}
  {JE:Addr}{abT aaZ aau acq Ua abd:Value}{acv aam:Option Addr}{aaS:Array Υ}
  {n:Addr}
  {E6:Addr}{Xy Y1 Xa YO Oj WN:Value}{XC Wf:Option Addr}{Yx:Array Υ}
  {x:Addr}
  {Jh:Addr}{abD Z2 aaM ab6 Uv Z6:Value}{ZQ acn:Option Addr}{acz:Array Υ}
  {u:Addr}
  {Fu:Addr}{XM XO Wh Xm O2 Wb:Value}{Wm Wp:Option Addr}{XX:Array Υ}
  (a0:At K "turned" CQ f0 fd0)
  (a1:At K "told_ends" yq f1 fd1)
  (a2:At K "refuse_too_many" tq f2 fd2)
  (a3:At K "in_good_order" uB f3 fd3)
  (a4:At K "ends_of" BL f4 fd4)
  (a5:At K "roads_of" zJ f5 fd5)
  (a6:At K "places_at" yi f6 fd6)
  (a7:At K "nexts" Ff f7 fd7)
  (a8:At K "reached" Bw f8 fd8)
  (a9:At K "pieces" Dl f9 fd9)
  (R:At K "onwards" Bo f10 fd10)
  (S:At K "gone_round" wM f11 fd11)
  (T:At K "lands" Fl f12 fd12)
  (U:At K "counts" Dj f13 fd13)
  (Y:At K "settled" BJ f14 fd14)
  (a15:At K "spread" Dp f15 fd15)
  (a16:At K "put_behind" wW f16 fd16)
  (a17:At K "put_alone" yu f17 fd17)
  (a18:At K "put_end" Bu f18 fd18)
  (a19:At K "with_road" xW f19 fd19)
  (a20:At K "thinned" BN f20 fd20)
  (a21:At K "without_road" vw f21 fd21)
  (M:At K "done_over" tX f24 fd24)
  (a28:At K "_law_cell" Dv f28 fd28)
  (a29:At K "_law_names" Bs f29 fd29)
  (a30:At K "_law_parts" Br f30 fd30)
  (a31:At K "_law_turn" DD f31 fd31)
  (a32:At K "_law_map" Fm f32 fd32)
  (a33:At K "_law_all" Fk f33 fd33)
  (a34:At K "_law_alike" vJ f34 fd34)
  (a35:At K "_law_nexts" Bx f35 fd35)
  (a36:At K "_law_lands" BG f36 fd36)
  (a37:At K "_law_copy" Dh f37 fd37)
  (a38:At K "_law_corner" Ab f38 fd38)
  (a39:At K "_law_piece" BF f39 fd39)
  (a40:At K "_law_due" Fe f40 fd40)
  (a41:At K "_law_swapped" yh f41 fd41)
  (a42:At K "_law_any" Fx f42 fd42)
  (a43:At K "_law_grouped" yg f43 fd43)
  (a46:W.nsIn K jQ "law" = some (some (.ref f46))) (l46:K.lookup f46=some ⟨oc46,od46,.func (W.fnOf "law" "law" (sI B0) (rM B0) (ou B0) .none kV46 dc46 pm46 an46 cd46 ct46),sl46⟩) (c46:W.codeIn K cd46 "law" = true) (k46:W.keepIn K (.ref f46)=true)
  (btu:W.nsIn K jQ "tuple" = some none)
  (U7:W.nsIn K jQ "Put" = some (some (.ref t))) (abl:W.plainGet K t Str.empty=true) (aaF:W.hasDictIn K t=true) (acE:W.plainOver K t=true) (aaz:W.findIn K (.ref t) "__setattr__" = some (some (.builtin "object.__setattr__")))
  (wg:W.findIn K (.ref t) "road" = some none)
  (va:W.findIn K (.ref t) "first" = some none)
  (uw:W.findIn K (.ref t) "second" = some none)
  (abq:W.makesIn K t=true) (abS:W.findIn K (.ref t) "__init__" = some (some (.ref JE))) (aay:W.isFn K (.ref JE)=true) (aa9:W.keepIn K (.ref t)=true)
  (UK:K.lookup JE=some ⟨abT,acv,.func (W.fnOf "__init__" "Put.__init__" (sI Gd) (rM Gd) (ou Gd) .none aaZ aau acq aam Ua abd),aaS⟩) (Vz:W.codeIn K Ua "Put.__init__" = true) (S6:W.keepIn K (.ref JE)=true)
  (OT:W.nsIn K jQ "Part" = some (some (.ref n))) (X8:W.plainGet K n Str.empty=true) (Xd:W.hasDictIn K n=true) (Yy:W.plainOver K n=true) (YA:W.findIn K (.ref n) "__setattr__" = some (some (.builtin "object.__setattr__")))
  (vy:W.findIn K (.ref n) "road" = some none)
  (uA:W.findIn K (.ref n) "first" = some none)
  (tQ:W.findIn K (.ref n) "second" = some none)
  (WZ:W.makesIn K n=true) (YZ:W.findIn K (.ref n) "__init__" = some (some (.ref E6))) (Wo:W.isFn K (.ref E6)=true) (Y0:W.keepIn K (.ref n)=true)
  (Pj:K.lookup E6=some ⟨Xy,XC,.func (W.fnOf "__init__" "Part.__init__" (sI Ds) (rM Ds) (ou Ds) .none Y1 Xa YO Wf Oj WN),Yx⟩) (OL:W.codeIn K Oj "Part.__init__" = true) (PD:W.keepIn K (.ref E6)=true)
  (Uw:W.nsIn K jQ "Cut" = some (some (.ref x))) (aa0:W.plainGet K x Str.empty=true) (abY:W.hasDictIn K x=true) (aa2:W.plainOver K x=true) (acO:W.findIn K (.ref x) "__setattr__" = some (some (.builtin "object.__setattr__")))
  (wj:W.findIn K (.ref x) "road" = some none)
  (aaL:W.makesIn K x=true) (Z4:W.findIn K (.ref x) "__init__" = some (some (.ref Jh))) (aaP:W.isFn K (.ref Jh)=true) (abx:W.keepIn K (.ref x)=true)
  (Sk:K.lookup Jh=some ⟨abD,ZQ,.func (W.fnOf "__init__" "Cut.__init__" (sI Gb) (rM Gb) (ou Gb) .none Z2 aaM ab6 acn Uv Z6),acz⟩) (RM:W.codeIn K Uv "Cut.__init__" = true) (VB:W.keepIn K (.ref Jh)=true)
  (PV:W.nsIn K jQ "Draw" = some (some (.ref u))) (WV:W.plainGet K u Str.empty=true) (V6:W.hasDictIn K u=true) (YI:W.plainOver K u=true) (Yl:W.findIn K (.ref u) "__setattr__" = some (some (.builtin "object.__setattr__")))
  (uS:W.findIn K (.ref u) "road" = some none)
  (Wn:W.makesIn K u=true) (Yi:W.findIn K (.ref u) "__init__" = some (some (.ref Fu))) (Xn:W.isFn K (.ref Fu)=true) (X4:W.keepIn K (.ref u)=true)
  (OI:K.lookup Fu=some ⟨XM,Wm,.func (W.fnOf "__init__" "Draw.__init__" (sI Dr) (rM Dr) (ou Dr) .none XO Wh Xm Wp O2 Wb),XX⟩) (Oo:W.codeIn K O2 "Draw.__init__" = true) (PP:W.keepIn K (.ref Fu)=true)
  (z:AtM K n "other" "Part.other" zZ f22 fd22)
  (E:AtM K t "done" "Put.done" Cd f23 fd23)
  (H:AtM K u "other" "Draw.other" zY f25 fd25)
  (I:AtM K x "done" "Cut.done" Cv f26 fd26)
  (J:AtM K n "done" "Part.done" Bi f44 fd44)
  (L:AtM K u "done" "Draw.done" AX f45 fd45)
  {El:Tok}(KD:W.nsIn K jQ "MOST_ENDS" = some (some (.int 128 El))) {xw:Tok}(Cs:W.nsIn K jQ "MOST_BARE_PLACES" = some (some (.int 128 xw)))
  (z0:W.nsIn K jQ "len" = some none) (z1:W.nsIn K jQ "min" = some none) (z2:W.nsIn K jQ "max" = some none) (z3:W.nsIn K jQ "abs" = some none) (z4:W.nsIn K jQ "all" = some none) (z5:W.nsIn K jQ "sorted" = some none) (z6:W.nsIn K jQ "isinstance" = some none) (z7:W.nsIn K jQ "list" = some none) (z8:W.nsIn K jQ "int" = some none) (z9:W.nsIn K jQ "bool" = some none) (z10:W.nsIn K jQ "str" = some none) (z11:W.nsIn K jQ "dict" = some none) (z12:W.nsIn K jQ "zip" = some none) (z13:W.nsIn K jQ "enumerate" = some none) (z14:W.nsIn K jQ "range" = some none) (z15:W.nsIn K jQ "reversed" = some none) :
  ∃fd:jX,(∀(s:jJ) (v:Value),mI s fd ⟨[v],[]⟩ [("_law_script", v)])/\∀base:Heap,K.In base->base.Ns jQ mg->Aw l.prog w K mg base VS 8 fa fd ["_law_script"] (Pl K):=by
 have e:=hfa.symm.trans (W.mg_of X G a46);cases e;have B:Bt mg:=⟨W.mg_none_of X G z0,W.mg_none_of X G z1,W.mg_none_of X G z2,W.mg_none_of X G z3,W.mg_none_of X G z4,W.mg_none_of X G z5,W.mg_none_of X G z6,W.mg_none_of X G z7,W.mg_none_of X G z8,W.mg_none_of X G z9,W.mg_none_of X G z10,W.mg_none_of X G z11,W.mg_none_of X G z12,W.mg_none_of X G z13,W.mg_none_of X G z14,W.mg_none_of X G z15⟩;have D46:xC K mg "law" B0 ["_law_script"] _ _:=⟨wD l46 c46 k46,W.mg_of X G a46,b1 (wD l46 c46 k46) λ_ _ _ _ _ _ _=>rfl⟩
 have A8:=W.mg_of X G KD;have uK:=W.mg_of X G Cs;refine⟨W.fnOf "law" "law" (sI B0) (rM B0) (ou B0) .none kV46 dc46 pm46 an46 cd46 ct46,λs v=>.of_eq rfl,λbase kb nb=>?_⟩
 have bTU:=W.mg_none_of X G btu;have vd:xO K "Put" t:=⟨U7,⟨abl,aaF,acE,aaz⟩⟩;have HQ:=XQ (P:=l.prog) (w:=w) (base:=base) (wD UK Vz S6) (b4 (wD UK Vz S6)) ⟨abq,abS,aay,aa9⟩ vd.cl wg va uw (W.mg_of X G U7)
 have tx:xO K "Part" n:=⟨OT,⟨X8,Xd,Yy,YA⟩⟩;have MB:=Ul (P:=l.prog) (w:=w) (base:=base) (wD Pj OL PD) (b4 (wD Pj OL PD)) ⟨WZ,YZ,Wo,Y0⟩ tx.cl vy uA tQ (W.mg_of X G OT)
 have wI:xO K "Cut" x:=⟨Uw,⟨aa0,abY,aa2,acO⟩⟩;have IV:=YC (P:=l.prog) (w:=w) (base:=base) (wD Sk RM VB) (b2 (wD Sk RM VB)) ⟨aaL,Z4,aaP,abx⟩ wI.cl wj (W.mg_of X G Uw)
 have uC:xO K "Draw" u:=⟨PV,⟨WV,V6,YI,Yl⟩⟩;have Nc:=Uz (P:=l.prog) (w:=w) (base:=base) (wD OI Oo PP) (b2 (wD OI Oo PP)) ⟨Wn,Yi,Xn,X4⟩ uC.cl uS (W.mg_of X G PV)
 have F0:=Rn (P:=l.prog) (w:=w) (base:=base) (zj X G a0 (b1 a0.F)) B
 have F1:=Jv (P:=l.prog) (w:=w) (base:=base) (zj X G a1 (b1 a1.F)) B
 have F2:=CB (zj X G a2 (b1 a2.F)) B A8 uK F1
 have F3:=DO (zj X G a3 (b1 a3.F)) B F0
 have F4:=Na (zj X G a4 (b1 a4.F)) B F1
 have F5:=Kx (zj X G a5 (b1 a5.F)) B F4
 have F6:=Jg (P:=l.prog) (w:=w) (base:=base) (zj X G a6 (b1 a6.F)) B
 have F7:=RX (P:=l.prog) (w:=w) (base:=base) (zj X G a7 (b1 a7.F)) B
 have F8:=MD (zj X G a8 (b2 a8.F)) B F6
 have F9:=Ro (zj X G a9 (b1 a9.F)) B F8
 have F10:=Mt (zj X G R (b1 R.F)) B F7
 have F11:=Hu (P:=l.prog) (w:=w) (base:=base) (zj X G S (b2 S.F)) B
 have O:=UR (zj X G T (b1 T.F)) B F10 F4 F3 F11
 have F13:=QR (zj X G U (b1 U.F)) B F5 O F9
 have F14:=Mj (zj X G Y (b1 Y.F)) B F2 F3
 have F15:=Rk (P:=l.prog) (w:=w) (base:=base) (zj X G a15 (b3 a15.F)) B
 have F16:=HF (zj X G a16 (b3 a16.F)) B F1 F15
 have F17:=Jy (P:=l.prog) (w:=w) (base:=base) (zj X G a17 (b2 a17.F)) B
 have F18:=M1 (zj X G a18 (b3 a18.F)) B F16 F17
 have F19:=J1 (zj X G a19 (b4 a19.F)) B F18 F14 F1
 have F20:=Nl (P:=l.prog) (w:=w) (base:=base) (zj X G a20 (b2 a20.F)) B
 have F21:=EW (zj X G a21 (b2 a21.F)) B F14 F1 F20
 have F22:=HB (P:=l.prog) (w:=w) (base:=base) z.F ⟨z.a,z.i,z.F.kp⟩ (b1 z.F) B vd wg va uw tx vy uA tQ HQ
 have F23:=KZ E.F ⟨E.a,E.i,E.F.kp⟩ (b2 E.F) B F19 vd wg va uw
 have F24:=CV (zj X G M (b2 M.F)) B O vd wg va uw tx vy uA tQ F22 F23
 have F25:=HH (P:=l.prog) (w:=w) (base:=base) H.F ⟨H.a,H.i,H.F.kp⟩ (b1 H.F) B wI wj uC uS IV
 have F26:=KM I.F ⟨I.a,I.i,I.F.kp⟩ (b2 I.F) B F21 wI wj
 have F27:=Do (zj X G M (b2 M.F)) B O wI wj uC uS F25 F26
 have Q:=Qn (P:=l.prog) (w:=w) (base:=base) (zj X G a28 (b2 a28.F)) B
 have F29:=Mv (zj X G a29 (b1 a29.F)) B Q
 have F30:=Np (P:=l.prog) (w:=w) (base:=base) (zj X G a30 (b2 a30.F)) B
 have F31:=Q5 (P:=l.prog) (w:=w) (base:=base) (zj X G a31 (b1 a31.F)) B
 have F32:=TU (zj X G a32 (b1 a32.F)) B F31
 have F33:=Vc (P:=l.prog) (w:=w) (base:=base) (zj X G a33 (b1 a33.F)) B
 have F34:=NU (P:=l.prog) (w:=w) (base:=base) (zj X G a34 (b2 a34.F)) B bTU
 have F35:=NN (P:=l.prog) (w:=w) (base:=base) (zj X G a35 (b1 a35.F)) B
 have F36:=Ob (zj X G a36 (b1 a36.F)) B F35 F32
 have F37:=Rv (P:=l.prog) (w:=w) (base:=base) (zj X G a37 (b1 a37.F)) B
 have F38:=Lz (P:=l.prog) (w:=w) (base:=base) (zj X G a38 (b4 a38.F)) B
 have F39:=Nd (zj X G a39 (b3 a39.F)) B F33
 have F40:=S9 (zj X G a40 (b4 a40.F)) B F38 F39
 have F41:=JT (P:=l.prog) (w:=w) (base:=base) (zj X G a41 (b1 a41.F)) B
 have F42:=Tj (zj X G a42 (b1 a42.F)) B Q
 have F43:=Kn (P:=l.prog) (w:=w) (base:=base) (zj X G a43 (b1 a43.F)) B
 have F44:=JO J.F ⟨J.a,J.i,J.F.kp⟩ (b2 J.F) B F24 tx vy uA tQ
 have F45:=JC L.F ⟨L.a,L.i,L.F.kp⟩ (b2 L.F) B F27 uC uS
 have F46:=abQ D46 B F29 F30 F32 F36 F33 F34 Q F42 F43 F37 F13 F40 F41 vd wg va uw tx vy uA tQ wI wj uC uS HQ MB IV Nc F23 F44 F26 F45;exact F46.ok.imp (XI λns h=>abA h)
def afy{l:W.OpenLaw}{q:jS}{t:List Str}{H:(Str->Υ)->Heap->Prop}{E:jU->Heap->Prop}{d:DefRec}{K:Params->Ζ}(hn:l.most=some 63)(B:d.params.defaults=[])
  (I:∀(w:jU) (h:Heap),E w h->(K w.params).In h)
  (F:∀(w:jU) (mg:Str->Υ) (G:Addr) (h:Heap),(K w.params).In h->h.Ns jQ mg->mg d.name=some (.ref G) ->
   ∃fd:jX,(∀(s:jJ) (u:Value),mI s fd ⟨[u],[]⟩ [("_law_script", u)])/\∀base:Heap,(K w.params).In base->base.Ns jQ mg->Aw l.prog w (K w.params) mg base VS 8 G fd ["_law_script"] (Pl (K w.params))) :
  W.WalkO q t H E l.row.toRowW d [] (λf vs=>PySem.call f vs):=
 L2.X6 (n:=63) (k:=8) (x:= "_law_script") (CX:=λ_=>VS) (sp:=λw=>Pl (K w.params)) hn (by decide) B ⟨rfl,by decide,by decide⟩ I F (λ_ _ a ns hl _ J=>⟨a,ns,rfl,J,hl,λ_=>rfl⟩) λ_ _ _ _ _ z=>z
end K27
structure PySem.W.Fast:Prop where(tw3872539140400662586 tw3933686647812692888 tw6579531505520918615 tw11400321956913227118 tw11863275600428771953 tw12255447223989354731 tw17669596777912148894 tw17741741701417402922 tw2234420257804882457 tw5214895199719293231 tw4703775528823737561 tw11694940306617473781 tw2724412418264718322 tw16373590527070137735 tw8707105697450103520 tw17120227832415412005 tw7135337768796018534 tw6495305671349346685 tw18337529834782098358 tw11189891747971068095 tw131642015504065437 tw4580576076288669699 tw10034368454820968434 tw10056720770999416077 tw14587261560391348058 tw16154012849704647722 tw10739033857102048953 tw1146412682494755812 tw16535368881575243192 tw2710449717138030883 tw16722834356393396773 tw7837601924723836262 tw15883409975895181881 tw9300034518558301559 tw17373761927567097469 tw18326440583496312088 tw17557605237866419541 tw8172640263237508028 tw15090600338558815472 tw2754017678144293799 tw13916236921245267434 tw3886912546825535142 tw7113616217314183326 tw425719586587768274 tw1458659137238118796 tw5890990475969719259 tw5132768805799140228 tw13502675716702178295 tw14582474016516941214 tw9300466305753058280 tw3845425229554768201 tw9768752479196018126 tw16726255815040127710 tw3758795766613798902 tw17312289665625486365 tw5519033398635367644 tw17498551438031094574 tw14364329491747891210 tw16337792745744394775 tw13719129080523175307 tw2003739225366935699 tw5963260372531104754 tw1072196858891251863 tw6642324169961248201 tw9123729416805074693 tw15063017439711708789 tw9597427885438206622 tw13199164335498900671 tw2889560064836555148 tw15203503312610673275 tw16069340192430079282 tw7361832975253162877 tw2232803499992832641 tw8717117528481463392 tw2904988842563252426 tw2491224975533732079 tw12137965101382043644 tw242079465798595072 tw14217780277300062515 tw10295686077824392697 tw7622232307408878415 tw7000032767550834067 tw16198185513078296518 tw18230955402179473109 tw17431798646578971303 tw14000836278580105837 tw3570124329220359181 tw8206109563891704916 tw4966386879775087951 tw12022236493438156611 tw8415230593665810721 tw11910911361444818431 tw1193578567024141095 tw7332481237514624820 tw5159703538067823022 tw7891278441950847273 tw9775377806215574437 tw8165836030469514466 tw4516661348690186190 tw11335881664391999233 tw4755336841877564014 tw14810244871873147749 tw8953328048077788520 tw12697261904257490667 tw6151927809037775908 tw10320813818951861016 tw5415339986899290301 tw14230145413695186775 tw17958798495308377738 tw12482199432993072161 tw13351106289812376041 tw6083188653858645012 tw10065033638853581499 tw16765831909948187223 tw8250608839290222461 tw8732982066930215984 tw15063538226891901536 tw4954820796844872290 tw17725640479790573714 tw4899832149498240682 tw6001775901964647719 tw10255852694188599644 tw17227456222212842817 tw14385665384845353575 tw9213147054138341052 tw13490972474448130363 tw3680364819882869428 tw3889511376827742561 tw6592715266150433224 tw4925481513879015038 tw6096531092089540041 tw4686856173437449247 tw16591602869039371557 tw14155440834394442565 tw15380236979135754204 tw14674874350236398961 tw6962092757933624542 tw5199016057806329271 tw11005463406951448280 tw2859549898715519407 tw5473122367314556263 tw11391916799872890204 tw4580455701782849056 tw2122891597027229072 tw11795736578263377357 tw2450763019148732011 tw1539840578039247313 tw2658690740696534177 tw1815929331614423765 tw15480154518438332365 tw5969293224629673535 tw2009262285416651615 tw16643781655842616512 tw6778445732658598687 tw12684934330110146849 tw17706956721436661755 tw5744875880231171540 tw5229906769493439763 tw12439475284069632730 tw2725056766460231432 tw7063877984310051697 tw13506057915318373132 tw9682815377956056174 tw9181281721168373598 tw724406500208620287 tw7917209902246658265 tw3510707856952554147 tw7304034880644862867 tw11960675520461454500 tw12590353937672237858 tw4420921102704274301 tw470505203182502745 tw16260112480521640355 tw12682495959194394995 tw13721931088090340113 tw8751197956304427628 tw13882149690627720013 tw17369528076404584986 tw11649413284089045225 tw666091897234572497 tw12013145920168982365 tw11959241339344835711 tw11698097941520230217 tw12967160226519523330 tw9086303016090557159 tw13735474717191965336 tw14025555144124758984 tw7399929913288490407 tw16576254913433823164 tw3807253015813979263 tw15653762631140300392 tw12317658778422161470 tw5340612631736113796 tw13600951901746871868 tw12788437351671700588 tw12228227206338294098 tw9362703761734236948 tw11616327530638226573 tw10512296438208578739 tw5255976941845153402 tw11470101079236444737 tw1953521398178674697 tw6012127989247911137 tw4393910683534597040 tw1129762457552263420 tw7969062586556499855 tw7753752410645995026 tw7934361162422959003 tw10995513146573279145 tw17702819422517973127 tw17236994642605076491 tw13337024444607918178 tw13790004043024586381 tw1780937166460802241 tw1109237971924527515 tw9280692049135714176 tw9916557422868361450 tw18272657379704130520 tw13367281070257098923 tw5601517968915534477 tw4544731505796439059 tw2907770912847541889 tw5917240923419171715 tw10806331953992518963 tw8265198242057270086 tw14968463911774209708 tw12277799816837899112 tw3862396018869732390 tw16845174898500921541 tw4993931719563661257 tw11235316241371050574 tw899718839715263696 tw4931454520083145872 tw7858034391449230163 tw1030976683974935436 tw2315359452862503298 tw9904715623026168348 tw10709754351176268057 tw6004478365525876029 tw5305618596069243523 tw7465142063227221548 tw4757376876949372075 tw15089923918391140054 tw4954848155368272381 tw11860140222725750364 tw15183173883859111618 tw9488139933821453978 tw13756799386317604888 tw13322129156481429788 tw17610764469857928018 tw2544548924657816717 tw16100972377788967915 tw6176031187829801293 tw1849806060356508194 tw3621313006037066551 tw13157459655418281346 tw6808497459565843704 tw14018473269476701825 tw807329555555743352 tw2549126814545678944 tw1842528368094507625 tw16194939330045560689 tw1685087162857382951 tw16000096478073762351 tw3196054211737322965 tw8330420912902363174 tw17314447110502232898 tw12251814465497431996 tw17153141569687045407 tw5171522797697666101 tw9934131794347067405 tw8585474525621504284 tw5994917570160929811 tw8571930224046697422 tw7334841413379490023 tw11907779027619150881 tw5194532595280872375 tw7755374220774948958 tw4985442873299784068 tw5608184331584803852 tw16147715619079820526 tw17519189361322091134 tw6915681056999769872 tw6194730984946963571 tw161813288254274766 tw13247804675147345554 tw786686870763232935 tw8428081325811831993 tw1232274591505693662 tw1459087717839719289 tw5469065636120785926 tw9511419306234810181 tw13556043734685934236 tw14359219264393056206 tw9374129033936536929 tw6751903579454738643 tw11140698741065518989 tw17916348894769690316 tw13096968109747983223 tw7510412681407249231 tw15660636709993792074 tw39448376889761974 tw10725330858811311200 tw9269433783204375340 tw9642807060183191073 tw1395200632242201953 tw6414501056878061543 tw9183971587541184915 tw18121597068010967319 tw12500928841516321927 tw2768467979743519988 tw17895654801518991144 tw16386336759528322191 tw6713268983107271156 tw15171040647574584167 tw13389017841180161276 tw11313697634468660745 tw673198715683119288 tw15560469260722511309 tw8581679093436402661 tw2632598049178685240 tw3843058311796987315 tw6342141601136578265 tw2397464788391935651 tw15133943655164363633 tw10409112838858953122 tw14829410189029562915 tw358673135490188633 tw14412601275684523078 tw2840158371061710202 tw8835291549274996442 tw1854595689904337700 tw3072880881536292997 tw13201418347921373136 tw1039024324790150701 tw17054116899393012387 tw2765348213938590574 tw12602414222407298329 tw17951728750855008253 tw761466909727527600 tw15153202319426977942 tw15196479001468183320 tw15073542425053988290 tw1769952342104565323 tw3986353035433063436 tw16528786099194943344 tw6433404628280042867 tw1563137761804024889 tw3472569297823094745 tw11450753258315745116 tw6695988831445809089 tw9452138445081472828 tw94963877619197906 tw12426230293314291533 tw10943301252892202878 tw9602841442051348140 tw12102893131146338932 tw1041451144086724737 tw8729659399035181080 tw15464074799275507199 tw1481535458141927262 tw14343227305872967404 tw13573346559324339410 tw10309950919873356544 tw2854041353650463832 tw196849793078911017 tw4544114113711463000 tw8977946320370279143 tw13558343842041135073 tw11379490086670425082 tw193444090224804684 tw9059287170553430736 tw17451704497654623316 tw13299132401519730507 tw10301381003650173484 tw1902590582648042531 tw9327277678197644481 tw16324755362155735618 tw16177667061394650476 tw17647533062076345766 tw5306981681427839245 tw15325899197889211274 tw16084068672073203957 tw8397597817358743910 tw14961574508709964906 tw8605456756712623912 tw16377411930473748364:True)
open PySem PySem.W PyProof.Rows
set_option maxRecDepth 100000 in
set_option maxHeartbeats 0 in
theorem PySem.Challenge.cw_mapround_k27_whole_road_and_counts_holds : PySem.Challenge.rw_mapround_k27_whole_road_and_counts.Holds := by
 w_on;o_law;k_head;(case hw=>w_witness2)
 k_fill
 refine K27.afy (l:=PySem.Challenge.rw_mapround_k27_whole_road_and_counts) rfl rfl (λw h Y=>W.kIn_of Y) ?F
 case F=>
  intro w mg fa h KX G hmg;apply K27.aaj KX G hmg
  all_goals first|exact Mr.ade (by k_is) (by k_is) (by k_is) (by k_is)|exact Mr.aaK (by k_is) (by k_is) (by k_is) (by k_is) (by k_is)|k_is|kernel_rfl

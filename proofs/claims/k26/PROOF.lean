import PyProof.Rows.All
import Wide.All
import OpenK.AllK
import Wide.FinOn
import Lean
import PyProof.EqAt
import PyProof.EqKinds
import PyProof.TupleCall
import KE.KIntText
import PyProof.ConsumeWalk
import PySem.Challenge.RW_mapround_k26_whole_leads_back
set_option Elab.async false
set_option linter.all false
set_option bootstrap.genMatcherCode false
set_option genSizeOf false
set_option compiler.extract_closed false
set_option maxRecDepth 100000
set_option maxHeartbeats 4000000
set_option hygiene false
local macro_rules|`(∅)=>`(by first|lia|exact hr.mono (by decide))
set_option hygiene true
local macro_rules|`(⋯)=>`(by first|decide|simp)
open Option renaming bind_eq_some_iff->oBq,map_eq_some_iff->oMq
open List renaming getElem?_eq_some_iff->gSq,getElem?_eq_getElem->gEg,getD_eq_getElem?_getD->gDq,length_append->lAq,length_map->lMq,mem_append->mAq,mem_flatten->mFq,mem_map->mMq,getElem?_map->gMq,mem_of_getElem?->mGq,map_congr_left->mCq,getElem_mem->gRq,length_singleton->lSq,mem_singleton->mSq,length_take->lTq,nodup_append->nAq,append_nil->aNq,flatten_append->fAq,getElem?_append_right->gYq,getElem?_append_left->gZq,length_cons->lCq,map_map->mPq,map_append->mBq,mem_cons_of_mem->mCo,length_set->lZq,flatten_cons->fCq,count_append->cAq,mem_cons->ah,nodup_cons->ak,append_assoc->ao,mem_cons_self->aq,map_cons->aw,sublist_flatten_of_mem->ax,mem_append_right->ay,getElem?_set_ne->aA,size_toArray->aB,length_drop->aC,replicate->aE,nodup_iff_pairwise_ne->aG,drop_eq_getElem_cons->aQ,flatten_singleton->aR,take_append_drop->aT,pairwise_append->aU,getElem?_set_self->aV,nodup_nil->ba,mem_of_mem_take->bg,take_sublist->bj,Pairwise->bo,length_range->bq,filter_append->bu,mem_append_left->bw,getElem?_set->bx,length_eq_zero_iff->bz,filter_cons_of_neg->bA,take_length->bB,mem_of_mem_drop->bC,pairwise_map->bD,contains_cons->bE,length_replicate->bG,take_of_length_le->bI,getElem?_eq_none->bJ,mem_iff_getElem?->bK,eq_nil_or_concat->bL,concat_eq_append->bM,filter_cons_of_pos->bN,perm_append_comm->bQ,getElem?_replicate->bR,eraseIdx_cons_succ->bS,range->bT,length->bU,mem_reverse->bV,Perm->bX,drop_sublist->bY,pairwise_cons->cf,lookup->cm,drop_eq_nil_of_le->cu,perm_ext_iff_of_nodup->cx,pairwise_iff_getElem->cB,any_eq_true->cE,getElem?_take_of_lt->cG,idxOf_lt_length_iff->cH,mem_iff_getElem->cJ,length_nil->cO,Sublist->cT,filter_eq_self->cY,drop_length->de,drop_of_length_le->df,find?_cons_of_neg->dg,countP_cons->dk,getElem?_drop->dm,map_id->du,length_filter_le->dw,eq_append_cons_of_mem->dA,nil_append->dD,count_cons->dE,any_cons->dF,take_add_one->dG,getElem?_zip_eq_some->dJ,cons_append->dW,not_mem_nil->dY,append_of_mem->eA,mem_filter->eB,find?_cons->eC,find?_cons_of_pos->eE,length_eraseIdx->eO,perm_middle->eR,all_cons->eS,length_pos_iff->eT,getElem?_range->eU,eq_of_mem_replicate->eV,getElem_idxOf->eY,set_cons_zero->fc,map_nil->fg,mem_range->fj,drop_zero->fk,ext_getElem?->fu,isEmpty_cons->fA,findIdx_cons->fB,sublist_cons_self->fD,eraseIdxIfInBounds_toArray->fE,set_getElem_self->fJ,mem_flatMap->fR,countP_le_length->fU,findIdx_eq_length_of_false->fV,idxOf_cons_self->fZ,of_mem_zip->gc,foldl_cons->gf,filter_map->gh,filterMap_cons->gu,set_cons_succ->gF,map_replicate->gG,count_pos_iff->gH,idxOf_append->gU,map_fst_zip->hZ,pairwise_mergeSort->ik,flatten_eq_nil_iff->iu,length_pos_of_mem->iy,not_of_lt_findIdx->iz,pairwise_lt_range->iB,filter_eq_nil_iff->iC,set_append_right->iE,getElem?_zipWith->iG,countP_mono_left->iK,count_cons_of_ne->iM,take_left->iN,length_dropLast->iQ,reverse_reverse->iR,getElem_toArray->iT,dropLast_concat->iU,nodup_iff_count->iV,reverse_append->iZ,mergeSort_perm->ja,replicate_succ->jb,map_take->jc,flatMap_append->jd,perm_iff_count->je,findIdx_append->jf,filter_sublist->jg,mem_map_of_mem->jh,mem_filterMap->jk,countP_append->jl,set_set->jm,any_map->jn,flatMap_cons->jt,lookup_cons->jy,getElem_map->jz,countP_map->jA,filter_nil->jB,drop_left->jE,mapM_cons->jG,cons->jK,zipWith->jO,flatten->jR,map->jT
open PySem.Heap renaming get?_push_of_some->aa,lt_size->ai,get?_push_size->bf,get?_update_other->bO,get?_none_of_le->cI,get?_update_self->dr,get?_update_ne->dX,size_push->eJ,SameBut->eM,size_update->eQ,get?_push_ne->fv,MadeExcOf->gA,update_setField_same->gV,get?_push_at->gY
open Nat renaming le_refl->ae,ne_of_lt->aF,lt_of_lt_of_le->aJ,le_trans->aZ,zero_le->bb,le_succ->bP,lt_succ_of_lt->bW,le_of_lt->bZ,sub_self->cj,zero_add->cA,lt_irrefl->cV,lt_succ_self->cZ,not_lt_zero->dC,lt_succ_iff_lt_or_eq->dP,ne_of_gt->ef,min_eq_left->eD,lt_or_eq_of_le->eX,le_of_eq->ff,add_assoc->fF,le_add_right->fG,min_eq_right->fK,mod_eq_of_lt->fS,add_comm->gk,add_one_sub_one->gv,pos_of_ne_zero->gD,add_sub_cancel_left->ij,mod_self->ir,le_of_ble_eq_true->iH,add_le_add_left->iX,le_of_lt_succ->jo,lt_trichotomy->jq,le_of_not_lt->jw,add_zero->jN,sub_zero->jP
open Array renaming getElem?_eq_getElem->af,length_toList->aH,getElem?_eq_some_iff->aK,getElem?_toList->aO,toList_append->aS,getElem_mem->bp,toList_reverse->cK,toList_push->eF,size_extract->eZ,mem_toList_iff->fY,toList_extract->gb,toList_setIfInBounds->gK,getElem?_extract->iA,getD->iY,append_assoc->jj,Perm->jC,size_map->jF
open PySem.Value renaming ref->ag,none->cU,builtin->cX,type->dQ,int->gO,str->iD,bool->iW,float->ju,isStrOf->jI,isInt->jV,bytes->jW
open PySem.F renaming plainAttrs_list->aj,slot_list_append->aL,type_list_append->aN,slot_list_index->cS,slot_list_extend->dN,type_list_extend->dO,typeOf_object_class->eK,excBase_ValueError->eP,type_list_index->fh,slot_list_pop->fO,type_list_pop->fQ,slot_gs_get->gw,excAttr_ValueError->gM,args_list_index_2->gZ,args_tuple_add_2->hV,entry_list_index->hW,entry_tuple_add->ie,slot_list_count->il,slot_dict_items->ip,slot_tuple_add->iw,entry_bexc_ga->iF,store_object->iS
open PyProof.Rows renaming boot_isinstance->au,boot_list->dh,callWith_type1->eI,boot_tuple->fi,callWith_builtin1->fX,boot_str->iI,boot_sorted->jM,boot_bool->jU,boot_min->jY,boot_int->jZ,lt_int->ka
open Bool renaming false_ne_true->aD,false_eq_true->cg,eq_iff_iff->cL,and_eq_true->dU,not_eq_true->ee,or_true->eh,not_true->fL,eq_false_iff->hU,not_eq_true'->jr,noConfusion->jx,false_and->jD,false_or->jJ,or_false->jL
open Option renaming some->aY,map_some->cw,bind_some->dZ,none_or->gB,or_none->gC,isSome_map->gS,some_or->iO,getD_none->jv,none->jX
open Sum renaming inl->bh,inr->gQ
open Int renaming emod_lt_of_pos->bF,emod_nonneg->bH,toNat_natCast->fq,le_of_lt->gj,fdiv_eq_ediv_of_nonneg->gI,le_refl->gJ,neg_neg->iJ,mul_le_mul->jH,zero_add->jQ
open Or renaming inr->gi,inl->ji
open Classical renaming propDecidable->iq
open Prod renaming ext->jS
open PySem renaming Shared->kc,model->kf,wpAny->ki,wpAny_bind->kj,mainGlobals->ko,Program->kr,sizeLine->ku,starEach->kx,FuncData->ky,World->kz,wpAny_loadPart_at->kA,wpAny_pure->kC,typeLookup->kE,call_isinstance->kF,wpAny_mono->kG,excClassObj->kJ,wpAny_isSubtype_exc->kK,sizeLine_eq->kL,backTo->kM,cLine->kN,wpAny_Call_Name_kw->kO,codeAny_call_builtin->kP,wpAny_truthy_bool->kS,OwnTail->kT,compareOp->kU,sysModules->lg,Scope->lu,wpAny_passesOwn->ly,isinstance_true->lz,wpAny_call->lB,wpAny_execs_nil->lD,binaryOp->lG,codeAny_mono->lH,bootBuiltins->lI,relabel->lJ,codeAny->lK,isinstance_false_int->lL,call_meets->lO,Model->lQ,behindInMarks->lS,attributeBase->lU,sliceBounds->lV,keywordEach->lW,swapsWith->lZ,getMethod->mh,checkBuiltinCall->mn,plainObj_wpAny_Assign_Attribute->mv,letOwnedTupleGo->mw,assignEach->mC,rawInt->mD,recursionLimit->mE,backToKw->mF,GenState->mG,standAt->mH,holding->mI,tupleKind_room_in1->mJ,setFlight->mK,wpAny_newFunctionEnv_cells->mL,wpAny_standAt->mN,wpAny_holding->mO,foldedSetIterable->mP,wpAny_check_type_call_sub->mS,codeAny_call_builtin_code->mU,isInstance->mV,valueAt->mW,callerA->mX,BindsTo->mY,wpAny_comprehension_free->mZ,wpAny_execs_cons->nc,handleBy->nh,callWith->nj,wpAny_Call_method0_late->nq,codeAny_call_builtin_at->nr,codeAny_builtin->nA,tupleKind->nB,cellsFrom->nC,bindL->nD,bindC->nF,atKey->nH,wpAny_field->nJ,subscripted->nK,wpAny_isTrue_Compare1->nO,wpAny_check_init_subT->nP,isinstance_false_none->nQ,codeAny_handlers_test->nS,codeAny_call_function->nT,wpAny_setField->nU,getItem->nV,assign->nW,wpAny_check_new_subT->nX,unbindBehindTheSuite->nY,lookup_relabel_local->nZ,isinstance_false_str->oa,codeAny_exc_new_subT->og,wpAny_handleBy_cons->oj,seqIndex?->om,noteFrame->oq,leaving->ot,getAttr->ou,OsState->ox
open PyProof.Rows renaming Keyed->ke,wpS_bind->kg,wpS_pure->km,arrOf->kB,envOfC->kH,wpS_forRange->kQ,wpS_mono->kR,setArr->kW,seqObj->kX,SortKind->kY,IntsAre->kZ,elem'->lj,pairsOf->lC,pendingOf->lF,wpS_modify->lN,wpS_get->lX,getElem?_mirror_all->lY,AllBare->mi,reverseSlice'->mj,oneType'->mq,pairsOf_size->mB,gallopOf->ni,get?_update_seq->ny,subscriptTail_builtinR->nI,subscriptTail->oh,listUpdate_at->oi,seqEpoch_at->oy
abbrev Λ:=List (List Int)
abbrev Ϝ:=List Int
abbrev Φ:=List (PySem.Addr×PySem.Obj)
abbrev Δ:=List PySem.Addr
abbrev Θ:=List Nat
abbrev Ξ:=List PySem.Value
abbrev Ω:=Array PySem.Value
abbrev Υ:=Option PySem.Value
abbrev Ψ:=PySem.Value->PySem.Shared->Prop
abbrev Ζ:=PySem.W.Frag
noncomputable section
open Array renaming mem_of_getElem?->aQq
local macro_rules|`(tactic|trivial)=>`(tactic|first|exact ji rfl|exact gi rfl|exact gi (ji rfl)|exact gi (gi rfl)|exact⟨rfl,rfl,rfl,by decide +kernel,rfl,by decide +kernel,by decide +kernel⟩|decide +kernel|fail)
def qf{c}{_:Decidable c}(h:c){α}{t e:α}:ite c t e=t:=if_pos h
def qj{c}{_:Decidable c}(h:¬c){α}{t e:α}:ite c t e=e:=if_neg h
theorem d0{p}[Decidable p](h:p):decide p=true:=decide_eq_true h
theorem d4{p}[Decidable p](h:¬p):decide p=false:=decide_eq_false h
namespace L2
open PySem PySem.Spec PyProof.Rows
abbrev qM:=Sum Int Str
noncomputable def LQ:qM->Value->Bool
 | .inl k,v=>jV k v
 | .inr x,v=>jI x v
noncomputable def amm(w:kz):qM->Int
 | .inl k=>hashInt k
 | .inr x=>hashStr w x
def tK:∀{k}{v},LQ k v=true->(∃i t,k=bh i/\v=gO i t)∨(∃x t,k=gQ x/\v=iD x t)
 | .inl i,v,h=>by
  obtain⟨t,e⟩:=Value.isInt_shape (k:=i) (v:=v) h;exact .inl ⟨i,t,rfl,e⟩
 | .inr x,v,h=>by
  obtain⟨t,e⟩:=Value.isStrOf_shape (x:=x) (v:=v) h;exact .inr ⟨x,t,rfl,e⟩
def WR(i)t:LQ (.inl i) (.int i t)=true:=by simp[LQ,jV]
def Wh(x)t:LQ (.inr x) (.str x t)=true:=by simp[LQ,jI]
def ahe a b:decide ((bh a:qM)=bh b)=(a == b):=by
 by_cases e:a=b
 .subst e;simp
 .have h:¬ (bh a:qM)=bh b:=λq=>e (bh.inj q)
  rw[d4 h];exact(beq_eq_false_iff_ne.mpr e).symm
def aik a b:decide ((gQ a:qM)=gQ b)=decide (a=b):=by
 by_cases e:a=b
 .subst e;simp
 .have h:¬ (gQ a:qM)=gQ b:=λq=>e (gQ.inj q)
  rw[d4 h,d4 e]
def ail(a)b:decide ((bh a:qM)=gQ b)=false:=d4 (λq=>nomatch q)
def aiW(a)b:decide ((gQ a:qM)=bh b)=false:=d4 (λq=>nomatch q)
def uj(prog)w:PySem.KeyKind prog w qM where
 is:=LQ
 hash:=amm w
 inj:=λv a b ha hb=>by
  rcases tK ha with⟨i,t,rfl,rfl⟩|⟨x,t,rfl,rfl⟩
  .rcases tK hb with⟨j,u,rfl,e⟩|⟨y,u,rfl,e⟩
   .injection e with l _;rw[l]
   .exact nomatch e
  .rcases tK hb with⟨j,u,rfl,e⟩|⟨y,u,rfl,e⟩
   .exact nomatch e
   .injection e with l _;rw[l]
 byValue:=λk v h=>by
  rcases tK h with⟨i,t,rfl,rfl⟩|⟨x,t,rfl,rfl⟩ <;> rfl
 pyHash:=λn h=>by
  rcases tK n with⟨i,t,rfl,rfl⟩|⟨x,t,rfl,rfl⟩
  .exact wpAny_pyHash_int h
  .exact wpAny_pyHash_str h
 eqBool:=λs n h=>by
  rcases tK s with⟨i,t,rfl,rfl⟩|⟨x,t,rfl,rfl⟩
  .rcases tK n with⟨j,u,rfl,rfl⟩|⟨y,u,rfl,rfl⟩
   .rw[ahe]at h;exact wpAny_eqBool_int h
   .rw[ail]at h;exact SeqAt.EqAt.int_str i t y u _ _ _ _ h
  .rcases tK n with⟨j,u,rfl,rfl⟩|⟨y,u,rfl,rfl⟩
   .rw[aiW]at h;exact SeqAt.EqAt.str_int x t j u _ _ _ _ h
   .rw[aik]at h;exact wpAny_eqBool_str h
 «strs»:=λk x t v h=>by
  rcases tK h with⟨i,u,rfl,e⟩|⟨y,u,rfl,e⟩
  .exact nomatch e
  .injection e with l _
   subst l;cases v <;> rfl
def Qa(prog)w i t:(uj prog w).is (.inl i) (.int i t)=true:=WR i t
def QA(prog)w x t:(uj prog w).is (.inr x) (.str x t)=true:=Wh x t
inductive V where
 |non|bl (b:Bool)|int (i:Int)|str (x:Str)|byt (b:Array UInt8)|flt (b:UInt64)|ref (a:Addr)|ty (n:String)
 deriving DecidableEq
def rK:V->Value->Prop
 | .non,u=>u=cU
 | .bl b,u=>u=iW b
 | .int i,u=>∃t,u=gO i t
 | .str x,u=>∃t,u=iD x t
 | .byt b,u=>∃t,u=jW b t
 | .flt b,u=>∃t,u=ju b t
 | .ref a,u=>u=ag a
 | .ty n,u=>u=dQ n
abbrev qI:List V->Ξ->Prop:=Paired rK
theorem qI.length(r:qI xs us):xs.length=us.length:=Paired.length r
theorem qI.get:∀{xs}{us}{i:Nat}{x},qI xs us->xs[i]?=some x->∃u,us[i]?=some u/\rK x u
 |_,_,_,_,.nil,e=>by simp at e
 |_,_,0,_,.cons r _,e=>by simp at e;subst e;exact⟨_,rfl,r⟩
 |_,_,i+1,x,.cons _ t,e=>by
  obtain⟨u,l,n⟩:=qI.get (i:=i) (x:=x) t (by simpa using e)
  exact⟨u,by simpa using l,n⟩
theorem qI.set(r:rK x u):∀{xs}{us}i,qI xs us->qI (xs.set i x) (us.set i u)
 |_,_,_,.nil=>.nil
 |_,_,0,.cons _ t=>.cons r t
 |_,_,i+1,.cons q t=>.cons q (qI.set r i t)
theorem qI.append:∀{xs l}{us n},qI xs us->qI l n->qI (xs++l) (us++n)
 |_,_,_,_,.nil,s=>s
 |_,_,_,_,.cons r t,s=>.cons r (qI.append t s)
theorem qI.take:∀{xs}{us}n,qI xs us->qI (xs.take n) (us.take n)
 |_,_,0,_=>.nil
 |_,_,_+1,.nil=>.nil
 |_,_,n+1,.cons r t=>.cons r (qI.take n t)
theorem qI.drop:∀{xs}{us}n,qI xs us->qI (xs.drop n) (us.drop n)
 |_,_,0,r=>r
 |_,_,_+1,.nil=>.nil
 |_,_,n+1,.cons _ t=>qI.drop n t
def CG:Option V->Υ->Prop
 |some v,some u=>rK v u
 |none,none=>True
 |_,_=>False
def KV:List (κ×V)->List (κ×Value)->Prop:=Paired λ(p:κ×V) (q:κ×Value)=>p.1=q.1/\rK p.2 q.2
noncomputable def kV:qM->V
 | .inl i=>.int i
 | .inr x=>.str x
inductive HO where
 /-- a list -/
 |lst (xs:List V)
 /-- a tuple (never changes) -/
 |tup (xs:List V)
 /-- a dict whose keys are ints and texts;one whose keys are tuples of ints and texts (the empty one is ED) -/
 |dK (oX:List (qM×V))|dT (oX:List (List qM×V))
 /-- a set of ints: its members,its size -/
 |set (S:Int->Bool) (n:Nat)
 /-- an instance of the class at C,its dict at dx,its attributes -/
 |ins (C dx:Addr) (fs:List (Str×V))
 /-- the dict of the instance at x -/
 |own (x:Addr)
 /-- the dict of an exception -/
 |xd (fs:List (Str×V))
 /-- a bound method,f of x -/
 |met (f x:Addr)
 /-- a range object lo,lo+1,.. below hi -/
 |rng (lo hi:Int)
 /-- a thing that is known to the object (the script;a dict while a loop walks it): read,never written while it is so -/
 |frz (o:Obj) (u:HO)
 /-- a code object's table -/
 |tbl (ps:Ω)
 /-- any other thing,by what is true of its one object (a def of one's own: SetO a S n:=HO.ext λh=>..) -/
 |ext (φ:Heap->Prop)
abbrev Hp:=Addr->Option HO
noncomputable def ri(H:Hp)(a:Addr)(o:HO):Hp:=λb=>if b=a then some o else H b
def pE:ri H a o a=some o:=by unfold ri;rw[qf rfl]
def pe(h:b≠a):ri H a o b=H b:=by unfold ri;rw[qj h]
def E8:ri (ri H a o) a u=ri H a u:=by
 funext b;unfold ri;split <;> rfl
def akv{H:Hp}(h:H a=some o)(h':H b=some u)(d:o≠u):a≠b:=by
 intro e;subst e;rw[h]at h';exact d (aY.inj h')
def tE{H:Hp}(h:H a=some o)(h':H b=none):a≠b:=by
 intro e;subst e;rw[h]at h';cases h'
section
variable (P:kr)(w:kz)
def sI(H:Hp)(h:Heap)(a:Addr):HO->Prop
 | .lst xs=>xs.length<=ku/\∃l n,qI xs l/\h.get? a=some { cls:=.type "list", data:=.seq l.toArray n }
 | .tup xs=>xs.length<=ku/\∃l:Ξ,qI xs l/\IsTup h a l.toArray
 | .dK z=>z.length<=ku/\(a == lg)=false/\∃vs,KV z vs/\h.DictOf (uj P w) a vs
 | .dT z=>z.length<=ku/\(a == lg)=false/\∃xs:List (List qM×Addr×Value),
   Paired (λ(p:List qM×V) (q:List qM×Addr×Value)=>p.1=q.1/\H q.2.1=some (.tup (p.1.map kV))/\rK p.2 q.2.2) z xs /\
   ∃o E J,h.get? a=some o/\o.ExactDict/\o.data = .dict E J/\E.toList=xs.map (entryOfKey (nB (uj P w)))/\(xs.map (·.1)).Nodup
 | .set S n=>h.SetOf (intKind P w) a S n
 | .ins C B fs=>H B=some (.own a)/\fs.length<=1000/\B≠a/\h.get? a=some (W.instObj C B) /\
   ∃s,h.Ns1 B s/\(∀f,CG (fs.lookup f) (s f))/\PySem.Within s (fs.map (·.1))
 | .own _=>∃o,h.get? a=some o
 | .xd fs=>∃s,h.Ns1 a s/\∀f,CG (fs.lookup f) (s f)
 | .rng lo hi=>∃t u v,h.get? a=some { cls:=.type "range", data:=.fields #[.int lo t,.int hi u,.int 1 v] }
 | .frz o u=>h.get? a=some o/\sI H h a u
 | .tbl ps=>h.get? a=some { cls:=.none,data:=.fields ps }
 | .met f x=>h.get? a=some (W.methodObj (.ref f) (.ref x))
 | .ext φ=>φ h/\(∃o,h.get? a=some o)/\∀G I:Heap,φ G->(∀o,G.get? a=some o->I.get? a=some o)->φ I
def CH(H:Hp)(h:Heap):Prop:=∀a o,H a=some o->sI P w H h a o
end
section
variable {a:Addr}
theorem sI.lt(x:sI P w H h a o):a<h.objs.size:=by
 cases o with
 |lst l=>obtain⟨_,_,_,_,e⟩:=x;exact ai e
 |tup l=>obtain⟨_,_,_,p⟩:=x;exact p.lt
 |dK s=>obtain⟨_,_,_,_,o,_,_,e,_⟩:=x;exact ai e
 |dT s=>obtain⟨_,_,_,_,o,_,_,e,_⟩:=x;exact ai e
 |set S n=>obtain⟨o,_,_,_,e,_⟩:=x;exact ai e
 |ins C t fs=>obtain⟨_,_,_,e,_⟩:=x;exact ai e
 |own y=>obtain⟨_,e⟩:=x;exact ai e
 |xd fs=>obtain⟨_,⟨_,_,_,e,_⟩,_⟩:=x;exact ai e
 |rng lo hi=>obtain⟨_,_,_,e⟩:=x;exact ai e
 |frz z u=>obtain⟨e,_⟩:=x;exact ai e
 |tbl B=>exact ai (show h.get? a=some _ from x)
 |met f y=>exact ai (show h.get? a=some _ from x)
 |ext φ=>obtain⟨_,⟨_,e⟩,_⟩:=x;exact ai e
theorem Paired.mapP{F G:α->β->Prop}:∀{l₁}{l₂},Paired F l₁ l₂->(∀a b,F a b->G a b)->Paired G l₁ l₂
 |_,_,.nil,_=>.nil
 |_,_,.cons r t,f=>.cons (f _ _ r) (Paired.mapP t f)
def sI.stay(x:sI P w H h a o)(k:∀b u,(b=a∨H b=some (.own a))->h.get? b=some u->h'.get? b=some u)
  (L:∀b,H b=some (.own a)->H' b=some (.own a)) (ht:∀b xs,H b=some (.tup xs)->H' b=some (.tup xs)):sI P w H' h' a o:=by
 induction o with
 |lst xs=>obtain⟨z,E,n,r,e⟩:=x;exact⟨z,E,n,r,k _ _ (.inl rfl) e⟩
 |tup xs=>obtain⟨z,E,r,l,e,c⟩:=x;exact⟨z,E,r,l,k _ _ (.inl rfl) e,c⟩
 |dK M=>obtain⟨z,y,O,r,l,s,B,e,c⟩:=x;exact⟨z,y,O,r,l,s,B,k _ _ (.inl rfl) e,c⟩
 |dT M=>
  obtain⟨z,y,xs,r,l,s,B,e,c⟩:=x;exact⟨z,y,xs,Paired.mapP r λp q z=>⟨z.1,ht _ _ z.2.1,z.2.2⟩,l,s,B,k _ _ (.inl rfl) e,c⟩
 |set S n=>obtain⟨l,s,B,t,e,c⟩:=x;exact⟨l,s,B,t,k _ _ (.inl rfl) e,c⟩
 |ins C T fs=>
  obtain⟨d,z,ne,e,G,⟨I,s,B,Q,c⟩,r⟩:=x;exact⟨L _ d,z,ne,k _ _ (.inl rfl) e,G,⟨I,s,B,k _ _ (.inr d) Q,c⟩,r⟩
 |own y=>obtain⟨l,e⟩:=x;exact⟨l,k _ _ (.inl rfl) e⟩
 |xd fs=>obtain⟨G,⟨I,s,B,e,c⟩,r⟩:=x;exact⟨G,⟨I,s,B,k _ _ (.inl rfl) e,c⟩,r⟩
 |rng lo hi=>obtain⟨t,u,v,e⟩:=x;exact⟨t,u,v,k _ _ (.inl rfl) e⟩
 |frz l u R=>obtain⟨e,q⟩:=x;exact⟨k _ _ (.inl rfl) e,R q⟩
 |tbl J=>
  have e:h.get? a=some { cls:=.none,data:=.fields J }:=x;show h'.get? a=some { cls:=.none,data:=.fields J };exact k a _ (.inl rfl) e
 |met f y=>
  have e:h.get? a=some (W.methodObj (.ref f) (.ref y)):=x;show h'.get? a=some (W.methodObj (.ref f) (.ref y));exact k a _ (.inl rfl) e
 |ext φ=>obtain⟨p,⟨o,e⟩,st⟩:=x;exact⟨st _ _ p λo q=>k _ _ (.inl rfl) q,⟨o,k _ _ (.inl rfl) e⟩,st⟩
theorem CH.lt(x:CH P w H h)(e:H a=some o):a<h.objs.size:=(x a o e).lt
def CH.fresh(x:CH P w H h)(e:h.objs.size<=a):H a=none:=by
 cases q:H a with
 |none=>rfl
 |some u=>exact absurd (aJ (x.lt q) e) (cV _)
def CH.kept(x:CH P w H h)(k:∀b u,h.get? b=some u->h'.get? b=some u):CH P w H h':=λa o e=>
 (x a o e).stay (λb u _ q=>k b u q) (λ_ q=>q) λ_ _ q=>q
def CH.laid(x:CH P w H h)(k:∀b u,h.get? b=some u->h'.get? b=some u)(l:h.objs.size<=a)(new:sI P w (ri H a o) h' a o):CH P w (ri H a o) h':=λb u e=>by
 have hn:=x.fresh l
 by_cases hb:b=a
 .subst hb;rw[pE]at e;cases e;exact new
 .rw[pe hb]at e;exact(x b u e).stay (λc v _ q=>k c v q) (λc q=>by rw[pe (tE q hn)];exact q) λc n q=>by rw[pe (tE q hn)];exact q
end
def Rd(H:Hp)(a:Addr)(u:HO):Prop:=H a=some u∨∃o,H a=some (.frz o u)
def Rd.ok(r:Rd H a u)(x:CH P w H h):sI P w H h a u:=by
 rcases r with r|⟨o,r⟩
 .exact x a u r
 .obtain⟨_,q⟩:=x a _ r;exact q
def Mut:Option HO->Prop
 |some (.lst _)=>True
 |some (.dK _)=>True
 |some (.dT _)=>True
 |some (.set _ _)=>True
 |some (.ins _ _ _)=>True
 |some (.ext _)=>True
 |_=>False
def CH.write(ok:CH P w H h)(mu:Mut (H x))(G:e=x∨H e=some (.own x))(k:∀b u,b≠e->h.get? b=some u->h'.get? b=some u)(E:∃u,h'.get? e=some u)
  (new:sI P w (ri H x o') h' x o'):CH P w (ri H x o') h':=λb u q=>by
 have n:∀c y,H c=some (.own y)->c≠x:=λc y r z=>by subst z;rw[r]at mu;exact mu
 have s:∀c t,H c=some (.tup t)->c≠x:=λc t r z=>by subst z;rw[r]at mu;exact mu
 by_cases hb:b=x
 .subst hb;rw[pE]at q;cases q;exact new
 .rw[pe hb]at q
  by_cases l:b=e
  .have I:H b=some (.own x):=by
    rcases G with z|z
    .exact absurd (l.trans z) hb
    .rw[l];exact z
   rw[q]at I;cases I;obtain⟨v,J⟩:=E;exact⟨v,by rw[l];exact J⟩
  .refine(ok b u q).stay (λc v B r=>k c v ?_ r) (λc r=>by rw[pe (n c b r)];exact r) λc t r=>by rw[pe (s c t r)];exact r
   rcases B with rfl|B
   .exact l
   .rintro rfl;rcases G with z|z
    .exact n c b B z
    .rw[B]at z;cases z;exact hb rfl
structure Un (fs ex:Δ)(H H':Hp)(h h':Heap):Prop where
 keep:∀b o,h.get? b=some o->H b=none->b∉fs->b∉ex->h'.get? b=some o
 slot:∀b o,h.get? b=some o->H b=none->b∈fs->b∉ex->∃sl,h'.get? b=some { o with slots:=sl }
 free:∀b o,h.get? b=some o->H b=none->b∉ex->H' b=none
 there:∀b o,h.get? b=some o->b∉ex->∃o',h'.get? b=some o'
 tups:∀b xs,H b=some (.tup xs)->H' b=some (.tup xs)
 frzs:∀b o u,H b=some (.frz o u)->H' b=some (.frz o u)
 tbls:∀b ps,H b=some (.tbl ps)->∃more,H' b=some (.tbl (ps++more))
section
variable {a:Addr}
def Un.any(u:Un fs ex H H1 h h1)(q:h.get? b=some l)(n:H b=none)(s:b∉ex):∃t,h1.get? b=some { l with slots:=t }:=by
 by_cases hb:b∈fs
 .exact u.slot b l q n hb s
 .exact⟨l.slots,u.keep b l q n hb s⟩
def Un.kept(k:∀b u,h.get? b=some u->h'.get? b=some u):Un fs ex H H h h':=
 ⟨λb l q _ _ _=>k b l q,λb l q _ _ _=>⟨l.slots,k b l q⟩,λ_ _ _ n _=>n,λb l q _=>⟨l,k b l q⟩,λ_ _ q=>q,λ_ _ _ q=>q,λ_ s q=>⟨#[],by rw[q];simp⟩⟩
def Un.refl:Un fs ex H H h h:=Un.kept λ_ _ q=>q
def Un.laid(k:∀b u,h.get? b=some u->h'.get? b=some u)(l:h.objs.size<=a)(hn:H a=none):Un fs ex H (ri H a o) h h' where
 keep:=λb u q _ _ _=>k b u q
 slot:=λb u q _ _ _=>⟨u.slots,k b u q⟩
 free:=λb u q n _=>by rw[pe (aF (aJ (ai q) l))];exact n
 there:=λb u q _=>⟨u,k b u q⟩
 tups:=λb xs q=>by rw[pe (tE q hn)];exact q
 frzs:=λb u xs q=>by rw[pe (tE q hn)];exact q
 tbls:=λb ps q=>⟨#[],by rw[pe (tE q hn),q];simp⟩
def Un.write(mu:Mut (H x))(B:e=x∨H e=some (.own x))(k:∀b u,b≠e->h.get? b=some u->h'.get? b=some u)(s:∃u,h'.get? e=some u):Un fs ex H (ri H x o) h h':=by
 have t:∀b,H b=none->b≠x:=λb n z=>by subst z;rw[n]at mu;exact mu
 have hb:∀b,H b=none->b≠e:=λb n z=>by
  subst z;rcases B with r|r
  .exact t b n r
  .rw[n]at r;cases r
 have hm:∀b u,H b=some u->¬ Mut (some u)->b≠x:=λb u q nm z=>by subst z;rw[q]at mu;exact nm mu
 refine⟨λb u q n _ _=>k b u (hb b n) q,λb u q n _ _=>⟨u.slots,k b u (hb b n) q⟩,λb u q n _=>by rw[pe (t b n)];exact n,λb u q _=>?_,
  λb E q=>by rw[pe (hm b _ q λz=>z)];exact q,λb u E q=>by rw[pe (hm b _ q λz=>z)];exact q,λb G q=>⟨#[],by rw[pe (hm b _ q λz=>z),q];simp⟩⟩
 by_cases l:b=e
 .subst l;exact s
 .exact⟨u,k b u l q⟩
end
noncomputable def trk(h:Heap)(H:Hp):Δ:=(bT h.objs.size).filter λa=>(H a).isSome
def NM(h:Heap)(H:Hp):Heap:=W.hideAll h (trk h H)
def VD(h)H:(NM h H).objs.size=h.objs.size:=W.hideAll_size _ _
def YZ(e:h.get? b=some o)(n:H b=none):(NM h H).get? b=some o:=
 W.hideAll_get _ e λhm=>by
  have q:(H b).isSome=true:=(eB.mp hm).2;rw[n]at q;simp at q
def abX(e:(NM h H).get? b=some o):h.get? b=some o/\H b=none:=by
 have l:h.get? b=some o:=W.of_hideAll (trk h H) e;refine⟨l,?_⟩;cases q:H b with
 |none=>rfl
 |some x=>
  have hm:b∈trk h H:=eB.mpr ⟨fj.mpr (ai l),by simp[q]⟩
  have z:(NM h H).get? b=none:=W.hideAll_none (trk h H) hm;rw[z]at e;cases e
noncomputable def acS(g h:Heap)(L:Addr):Φ:=(bT h.objs.size).filterMap λa=>if a=L∨(g.get? a).isSome=true then none else (h.get? a).map λo=>(a,o)
def rest(g h:Heap)(L d:Addr):Φ:=(acS g h L).filter λp=>decide (p.1≠d)
structure Mod (K:Ζ)(mg:Str->Υ)(base:Heap):Prop where
 kin:K.In base
 glob:base.Ns ko mg
 blt:∃mb,base.Ns builtinsNs mb/\∀x:Str,x ≠ "__name__" -> mb x=lI x
 nolimit:base.NoLimit
structure Cx where
 prog:kr
 w:kz
 K:Ζ
 mg:Str->Υ
 base:Heap
 A:Around
 N:List Str
 s₀:kc
 H₀:Hp
 env:Env
 outer:List Env
 stack:List Env
 ex:Δ
 fn:Str->Bool
 calm:Bool
 pn:Φ
 xe:Value->kc->Prop
noncomputable def Rm(l:List Env):Δ:=l.filterMap (·.frame)
abbrev Cx.fs(X:Cx):Δ:=Rm X.outer
def Vis(sc:lu)(x:Str):Prop:=sc.names.lookup x=some .local∨sc.names.lookup x=some .cell∨sc.names.lookup x=some .free
def Loc(sc:lu)(x:Str):Prop:=sc.names.lookup x=some .local∨sc.names.lookup x=some .cell
def aj1(env:Env)(h:Heap)(m:Str->Υ)(x:Str)(u:Value):Prop:=
 (env.kindOf x=some .local/\m x=some u)∨((env.kindOf x=some .cell∨env.kindOf x=some .free)/\∃c,env.cells.lookup x=some c/\h.IsCell c (some u))
structure Cx.Ok (X:Cx):Prop where
 mod:Mod X.K X.mg X.base
 kind:X.env.scope.kind = .function
 glob:X.env.globals=ko
 blt:X.env.builtins=builtinsNs
 above:X.s₀.heap.objs.size<=X.env.locals
 inj:∀x y c,X.env.cells.lookup x=some c->X.env.cells.lookup y=some c->x=y
 has:∀x,(X.env.kindOf x=some .cell∨X.env.kindOf x=some .free)->∃c,X.env.cells.lookup x=some c
 cab:∀x c,X.fn x=true->X.env.cells.lookup x=some c->X.s₀.heap.objs.size<=c
 hd:X.calm=true->X.A.handled=none
 frames:X.A.frames=some X.stack
 stk:X.stack=X.outer∨(X.stack=X.env::X.outer/\X.env.frame=some X.env.locals)
 exf:∀b∈X.ex,b≠X.env.locals/\∀x c,X.env.cells.lookup x=some c->c≠b
 bs:∀b o,X.base.get? b=some o->X.s₀.heap.get? b=some o/\X.H₀ b=none
 bsz:X.base.objs.size<=X.s₀.heap.objs.size
 noex:∀b o,X.base.get? b=some o->b∉X.ex
 exfs:∀b∈X.ex,b∉X.fs
 funs:X.s₀.heap.FunFrames X.base X.outer
 frf:∀b∈X.fs,X.H₀ b=none
structure qb (X:Cx)(oA:Φ)(σ:List (Option V))(H:Hp)(s:kc):Prop where
 ok:X.Ok
 os:s.os=X.s₀.os
 bare:mi s.gens
 base:Un X.fs X.ex X.H₀ H X.s₀.heap s.heap
 loc:∃m,s.heap.Ns X.env.locals m/\∀(i:Nat) (x:Str) (v:V),X.N[i]?=some x->σ[i]?=some (some v)->Vis X.env.scope x->∃u,rK v u/\aj1 X.env s.heap m x u
 cell:∀x c,X.env.cells.lookup x=some c->∃v,s.heap.IsCell c v
 free:H X.env.locals=none
 freeC:∀x c,X.env.cells.lookup x=some c->H c=none
 pin:∀p∈X.pn++oA,s.heap.get? p.1=some p.2/\H p.1=none/\p.1≠X.env.locals/\p.1∉X.fs/\∀v,p.2.data ≠ .cell v
 hok:CH X.prog X.w H s.heap
 len:σ.length=X.N.length
section
variable {X:Cx}
def Cx.Ok.nofr(ok:X.Ok)(e:X.base.get? b=some o):b∉X.fs:=λhb=>by
 have:=(ok.funs.mem hb).1;rw[e]at this;cases this
theorem qb.bs(I:qb X oA σ H s):∀b o,X.base.get? b=some o->s.heap.get? b=some o/\H b=none:=λb o e=>
 ⟨I.base.keep b o (I.ok.bs b o e).1 (I.ok.bs b o e).2 (I.ok.nofr e) (I.ok.noex b o e),I.base.free b o (I.ok.bs b o e).1 (I.ok.bs b o e).2 (I.ok.noex b o e)⟩
def qb.bk(I:qb X oA σ H s):∀b o,X.base.get? b=some o->s.heap.get? b=some o:=λb o e=>(I.bs b o e).1
theorem qb.mod(I:qb X oA σ H s):Mod X.K X.mg X.base:=I.ok.mod
def qb.kIn(I:qb X oA σ H s):X.K.In s.heap:=I.ok.mod.kin.keeps I.bk
theorem qb.lt(I:qb X oA σ H s):X.env.locals<s.heap.objs.size:=let ⟨_,hn,_⟩:=I.loc;hn.lt
def qb.sz(I:qb X oA σ H s):X.s₀.heap.objs.size<=s.heap.objs.size:=aZ I.ok.above (bZ I.lt)
def qb.nofs(I:qb X oA σ H s){a:Addr}(h:s.heap.objs.size<=a):a∉X.fs:=λhb=>by
 obtain⟨_,o,l,_⟩:=I.ok.funs.mem hb;exact absurd (aJ (ai l) (aZ I.sz h)) (cV _)
def qb.cne(I:qb X oA σ H s):∀x c,X.env.cells.lookup x=some c->c≠X.env.locals:=λx c e z=>by
 obtain⟨v,o,t,hd⟩:=I.cell x c e;obtain⟨m,⟨u,B,E,l,n,_⟩,_⟩:=I.loc;rw[z,l]at t;cases t;rw[n]at hd;cases hd
theorem qb.funs(I:qb X oA σ H s):s.heap.FunFrames X.base X.outer:=by
 have all:∀(l:List Env),(∀b∈Rm l,b∈X.fs)->X.s₀.heap.FunFrames X.base l->s.heap.FunFrames X.base l:=by
  intro l
  induction l with
  |nil=>intro _ _;trivial
  |cons env r x=>
   intro u hl;obtain⟨hk,⟨L,o,n,hn,B,hd⟩,hr⟩:=hl;have t:L∈X.fs:=u L (by unfold Rm;rw[gu,n];exact aq)
   obtain⟨E,e⟩:=I.base.slot L o B (I.ok.frf L t) t λz=>I.ok.exfs L z t
   exact⟨hk,⟨L,_,n,hn,e,hd⟩,x (λb hb=>u b (by unfold Rm;rw[gu,n];exact mCo _ hb)) hr⟩
 exact all X.outer (λ_ hb=>hb) I.ok.funs
theorem qb.stack(I:qb X oA σ H s):s.heap.FunFrames X.base X.stack:=by
 rcases I.ok.stk with e|⟨e,l⟩
 .rw[e];exact I.funs
 .rw[e];obtain⟨m,hn,_⟩:=I.loc;refine .cons (by rw[I.ok.kind];decide) l hn ?_ I.funs
  exact cI (aZ I.ok.bsz I.ok.above)
def qb.stkSub(I:qb X oA σ H s):∀b∈Rm X.stack,b∈X.env.locals::X.fs:=λb hb=>by
 rcases I.ok.stk with e|⟨e,l⟩
 .rw[e]at hb;exact mCo _ hb
 .rw[e]at hb;unfold Rm at hb;rw[gu,l]at hb;exact hb
def qb.stkFree(I:qb X oA σ H s):∀b∈Rm X.stack,H b=none:=λb hb=>by
 rcases ah.mp (I.stkSub b hb)with e|hb
 .rw[e];exact I.free
 .obtain⟨_,o,l,_⟩:=I.ok.funs.mem hb;exact I.base.free b o l (I.ok.frf b hb) λz=>I.ok.exfs b z hb
def qb.step{ch:Δ}(I:qb X oA σ H s)
  (B:∀b∈ch,(b∈X.ex∨X.s₀.heap.objs.size<=b)/\b≠X.env.locals/\(∀x c,X.env.cells.lookup x=some c->c≠b)/\∀p∈X.pn++oA,p.1≠b)
  (keep:∀b o,b≠X.env.locals->b∉X.fs->b∉ch->s.heap.get? b=some o->H b=none->h'.get? b=some o)
  (slot:∀b o,b≠X.env.locals->b∈X.fs->b∉ch->s.heap.get? b=some o->H b=none->∃R,h'.get? b=some { o with slots:=R }) (free:∀b o,b∉ch->s.heap.get? b=some o->H b=none->H' b=none)
  (there:∀b o,b∉ch->s.heap.get? b=some o->∃O,h'.get? b=some O)
  (tups:∀b xs,H b=some (.tup xs)->H' b=some (.tup xs)) (frzs:∀b o u,H b=some (.frz o u)->H' b=some (.frz o u)) (tbls:∀b ps,H b=some (.tbl ps)->∃more,H' b=some (.tbl (ps++more)))
  (ns:∀m,s.heap.Ns X.env.locals m->h'.Ns X.env.locals m) (hok:CH X.prog X.w H' h') (Y:mi g') :
  qb X oA σ H' { s with heap:=h',gens:=g',drawn:=d',toks:=t' }:=by
 have P:∀b o,X.s₀.heap.get? b=some o->b≠X.env.locals:=λb o e=>aF (aJ (ai e) I.ok.above)
 have J:∀b o,X.s₀.heap.get? b=some o->b∉X.ex->b∉ch:=λb o e t hb=>by
  rcases(B b hb).1 with z|z
  .exact t z
  .exact absurd (aJ (ai e) z) (cV _)
 have E:∀x c,X.env.cells.lookup x=some c->∀v,s.heap.IsCell c v->h'.IsCell c v:=λx c e v ⟨o,M,hd⟩=>by
  have G:c∉ch:=λz=>(B c z).2.2.1 x c e rfl
  by_cases T:c∈X.fs
  .obtain⟨R,q⟩:=slot c o (I.cne x c e) T G M (I.freeC x c e);exact⟨_,q,hd⟩
  .exact⟨o,keep c o (I.cne x c e) T G M (I.freeC x c e),hd⟩
 refine⟨I.ok,I.os,Y,⟨λb o e n hb t=>?_,λb o e n hb t=>?_,λb o e n t=>?_,λb o e t=>?_,λb xs e=>tups b xs (I.base.tups b xs e),λb o xs e=>frzs b o xs (I.base.frzs b o xs e),λb ps e=>?_⟩,?_,λx c e=>?_,?_,λx c e=>?_,λp U=>?_,hok,I.len⟩
 .exact keep b o (P b o e) hb (J b o e t) (I.base.keep b o e n hb t) (I.base.free b o e n t)
 .obtain⟨R,L⟩:=I.base.slot b o e n hb t;obtain⟨S,Q⟩:=slot b _ (P b o e) hb (J b o e t) L (I.base.free b o e n t);exact⟨S,Q⟩
 .obtain⟨O,L⟩:=I.base.there b o e t;exact free b O (J b o e t) L (I.base.free b o e n t)
 .obtain⟨O,L⟩:=I.base.there b o e t;exact there b O (J b o e t) L
 .obtain⟨m1,L⟩:=I.base.tbls b ps e;obtain⟨m2,Q⟩:=tbls b _ L;exact⟨m1++m2,by rw[Q,jj]⟩
 .obtain⟨m,hn,hl⟩:=I.loc;refine⟨m,ns m hn,λi x v L Q e3=>?_⟩
  obtain⟨u,r,l⟩:=hl i x v L Q e3;refine⟨u,r,?_⟩;rcases l with l|⟨k,c,e,z⟩
  .exact .inl l
  .exact .inr ⟨k,c,e,E x c e _ z⟩
 .obtain⟨v,z⟩:=I.cell x c e;exact⟨v,E x c e v z⟩
 .obtain⟨m,⟨o,_,_,M,_⟩,_⟩:=I.loc;exact free _ o (λz=>(B _ z).2.1 rfl) M I.free
 .obtain⟨v,o,M,hd⟩:=I.cell x c e;exact free c o (λz=>(B c z).2.2.1 x c e rfl) M (I.freeC x c e)
 .obtain⟨e,n,ne,nf,d⟩:=I.pin p U;have G:p.1∉ch:=λz=>(B p.1 z).2.2.2 p U rfl
  exact⟨keep p.1 p.2 ne nf G e n,free p.1 p.2 G e n,ne,nf,d⟩
def qb.un(I:qb X oA σ H s)(u:Un X.fs [] H H' s.heap h')(hok:CH X.prog X.w H' h'):qb X oA σ H' { s with heap:=h',toks:=t' }:=by
 obtain⟨m,⟨o,J,L,B,r⟩,_⟩:=id I.loc;obtain⟨M,E⟩:=u.any B I.free ⋯
 exact I.step (g':=s.gens) (d':=s.drawn) (ch:=[]) (λ_ z=>nomatch z) (λb o _ hb _ e n=>u.keep b o e n hb ⋯) (λb o _ hb _ e n=>u.slot b o e n hb ⋯) (λb o _ e n=>u.free b o e n ⋯) (λb o _ e=>u.there b o e ⋯) u.tups u.frzs u.tbls (λO hm=>by
  obtain⟨P,t,x,l,G⟩:=hm;rw[B]at l;cases l;exact⟨_,t,x,E,G⟩) hok I.bare
def qb.call(I:qb X oA σ H s)(u:Un (Rm X.stack) ch H H' s.heap h')(hok:CH X.prog X.w H' h')(M:mi g')
  (t:∀b∈ch,(b∈X.ex∨X.s₀.heap.objs.size<=b)/\b≠X.env.locals/\(∀x c,X.env.cells.lookup x=some c->c≠b)/\∀p∈X.pn++oA,p.1≠b) :
  qb X oA σ H' { s with heap:=h',gens:=g',drawn:=d',toks:=t' }:=by
 obtain⟨m,⟨o,P,Q,L,r⟩,_⟩:=id I.loc;obtain⟨R,E⟩:=u.any L I.free λz=>(t _ z).2.1 rfl
 exact I.step (ch:=ch) t (λb o E hb l e n=>u.keep b o e n (λz=>(ah.mp (I.stkSub b z)).elim E hb) l) (λb o _ _ l e n=>u.any e n l) (λb o l e n=>u.free b o e n l) (λb o l e=>u.there b o e l) u.tups u.frzs u.tbls (λS hm=>by
  obtain⟨T,G,J,B,O⟩:=hm;rw[L]at B;cases B;exact⟨_,G,J,E,O⟩) hok M
def qb.turned(I:qb X oA σ H s)(k:∀b o,b≠l->s.heap.get? b=some o->h'.get? b=some o)(hn:H l=none)(E:l≠X.env.locals)
  (G:l∈X.ex∨X.s₀.heap.objs.size<=l) (J:∀x c,X.env.cells.lookup x=some c->c≠l) (L:∀p∈X.pn++oA,p.1≠l):qb X oA σ H { s with heap:=h',toks:=t' }:=by
 have B:∀b u,H b=some u->b≠l:=λb u e z=>by rw[z,hn]at e;cases e
 refine I.step (g':=s.gens) (d':=s.drawn) (ch:=[l]) (λb hb=>?_) (λb o _ _ t e _=>k b o (λz=>t (by simp[z])) e) (λb o _ _ t e _=>⟨o.slots,k b o (λz=>t (by simp[z])) e⟩) (λ_ _ _ _ n=>n)
  (λb o t e=>⟨o,k b o (λz=>t (by simp[z])) e⟩) (λ_ _ e=>e) (λ_ _ _ e=>e) (λb Q e=>⟨#[],by rw[e];simp⟩) (λm hm=>?_) (λb u e=>?_) I.bare
 .have e:b=l:=by simpa using hb
  subst e;exact⟨G,E,J,L⟩
 .obtain⟨o,M,O,P,r⟩:=hm;exact⟨o,M,O,k _ o (Ne.symm E) P,r⟩
 .refine(I.hok b u e).stay (λc v t q=>k c v ?_ q) (λ_ q=>q) λ_ _ q=>q
  rcases t with z|z
  .rw[z];exact B b u e
  .exact B c _ z
def qb.tok(I:qb X oA σ H s)t:qb X oA σ H { s with toks:=t }:=I.un (h':=s.heap) (t':=t) Un.refl I.hok
theorem qb.kept(I:qb X oA σ H s)(k:∀b u,s.heap.get? b=some u->h'.get? b=some u):qb X oA σ H { s with heap:=h',toks:=t' }:=I.un (Un.kept k) (I.hok.kept k)
theorem qb.laid{a:Addr}(I:qb X oA σ H s)(k:∀b u,s.heap.get? b=some u->h'.get? b=some u)(l:s.heap.objs.size<=a)(new:sI X.prog X.w (ri H a o) h' a o) :
  qb X oA σ (ri H a o) { s with heap:=h',toks:=t' }:=I.un (Un.laid k l (I.hok.fresh l)) (I.hok.laid k l new)
theorem qb.write(I:qb X oA σ H s)(mu:Mut (H x))(n:e=x∨H e=some (.own x))(k:∀b u,b≠e->s.heap.get? b=some u->h'.get? b=some u)(l:∃u,h'.get? e=some u)
  (new:sI X.prog X.w (ri H x o) h' x o):qb X oA σ (ri H x o) { s with heap:=h',toks:=t' }:=I.un (Un.write mu n k l) (I.hok.write mu n k l new)
def qb.pins_of(I:qb X oA σ H s)(h:∀p∈l,s.heap.get? p.1=some p.2/\H p.1=none/\p.1≠X.env.locals/\p.1∉X.fs/\∀v,p.2.data ≠ .cell v):qb X l σ H s:=
 ⟨I.ok,I.os,I.bare,I.base,I.loc,I.cell,I.free,I.freeC,λp n=>(mAq.mp n).elim (λz=>I.pin p (bw _ z)) (h p),I.hok,I.len⟩
def Kt{N:List Str}(l:N.Nodup){i:Nat}(a:N[i]?=some x)(b:N[j]?=some x):i=j:=by
 obtain⟨u,n⟩:=gSq.mp a;obtain⟨z,t⟩:=gSq.mp b;exact(List.getElem_inj l).mp (n.trans t.symm)
def Vy(I:qb X oA σ H s)(hN:X.N.Nodup)(hi:X.N[i]?=some x)(J:Loc X.env.scope x)(r:rK v u)
  (h:∀s',qb X oA (σ.set i (some v)) H s'->(∃a,eM a s.heap s'.heap/\(a=X.env.locals∨X.env.cells.lookup x=some a))->Q () s') (hf:X.fn x=true∨X.env.scope.names.lookup x=some .local:=by trivial):ki M A (storeName X.env x u) Q E s:=by
 obtain⟨m,hn,hl⟩:=id I.loc;have T:(X.env.scope.kind == .class || (X.env.scope.kind == .module && X.env.locals != X.env.globals))=false:=by rw[I.ok.kind];rfl
 have P:i<σ.length:=by rw[I.len];exact(gSq.mp hi).1
 have cne:=I.cne;have t:∀{a:Addr}{h':Heap},(∃o,s.heap.get? a=some o/\H a=none)->eM a s.heap h'->CH X.prog X.w H h':=λ{a h'} ha l b ob e=>by
  obtain⟨_,_,L⟩:=ha;refine(I.hok b ob e).stay (λc w' G q=>(l.2 c ?_).trans q) (λ_ q=>q) λ_ _ q=>q
  rintro rfl;rcases G with rfl|G
  .rw[L]at e;cases e
  .rw[L]at G;cases G
 rcases J with hk|hk
 .refine wpAny_storeName_local hk hn (λh' hn' l=>?_) T
  obtain⟨oL,_,_,hoL,_⟩:=id hn;refine h _ ⟨I.ok,I.os,I.bare,⟨λb o e n hb J=>?_,λb o e n hb J=>?_,I.base.free,λb o e J=>?_,I.base.tups,I.base.frzs,I.base.tbls⟩,⟨_,hn',λj y v' B O e3=>?_⟩,λy c e=>?_,I.free,I.freeC,λp hp=>?_,t ⟨oL,hoL,I.free⟩ l,by simpa using I.len⟩ ⟨_,l,.inl rfl⟩
  .exact(l.2 b (aF (aJ (ai e) I.ok.above))).trans (I.base.keep b o e n hb J)
  .obtain⟨sl,B⟩:=I.base.slot b o e n hb J;exact⟨sl,(l.2 b (aF (aJ (ai e) I.ok.above))).trans B⟩
  .obtain⟨o',B⟩:=I.base.there b o e J;exact⟨o',(l.2 b (aF (aJ (ai e) I.ok.above))).trans B⟩
  .by_cases R:j=i
   .subst R;rw[hi]at B;cases B;rw[aV P]at O;cases O;exact⟨u,r,.inl ⟨hk,by simp⟩⟩
   .rw[aA (Ne.symm R)]at O;obtain⟨u',r',q⟩:=hl j y v' B O e3;refine⟨u',r',?_⟩;rcases q with⟨k,e⟩|⟨k,c,e,z⟩
    .refine .inl ⟨k,?_⟩;have:y≠x:=λe=>R (Kt hN B (e ▸ hi))
     simp[this,e]
    .exact .inr ⟨k,c,e,z.sameBut l (cne y c e)⟩
  .obtain⟨w',z⟩:=I.cell y c e;exact⟨w',z.sameBut l (cne y c e)⟩
  .obtain⟨e,n,ne,nf,d⟩:=I.pin p hp;exact⟨(l.2 p.1 ne).trans e,n,ne,nf,d⟩
 .have S:X.fn x=true:=by
   rcases hf with z|z
   .exact z
   .rw[z]at hk;cases hk
  obtain⟨c,G⟩:=I.ok.has x (.inl hk);obtain⟨w',z⟩:=I.cell x c G;refine wpAny_storeName_cell I.ok.kind hk G z (λh' U l=>?_)
  obtain⟨oc,Y,hocd⟩:=id z;refine h { s with heap:=h' } ⟨I.ok,I.os,I.bare,⟨λb o e n hb J=>?_,λb o e n hb J=>?_,I.base.free,λb o e J=>?_,I.base.tups,I.base.frzs,I.base.tbls⟩,⟨m,hn.sameBut l (Ne.symm (cne x c G)),λj y v' B O e3=>?_⟩,λy c' e=>?_,I.free,I.freeC,λp hp=>?_,t ⟨oc,Y,I.freeC x c G⟩ l,by simpa using I.len⟩ ⟨c,l,.inr G⟩
  .exact(l.2 b (aF (aJ (ai e) (I.ok.cab x c S G)))).trans (I.base.keep b o e n hb J)
  .obtain⟨sl,B⟩:=I.base.slot b o e n hb J;exact⟨sl,(l.2 b (aF (aJ (ai e) (I.ok.cab x c S G)))).trans B⟩
  .obtain⟨o',B⟩:=I.base.there b o e J;exact⟨o',(l.2 b (aF (aJ (ai e) (I.ok.cab x c S G)))).trans B⟩
  .by_cases R:j=i
   .subst R;rw[hi]at B;cases B;rw[aV P]at O;cases O;exact⟨u,r,.inr ⟨.inl hk,c,G,U⟩⟩
   .rw[aA (Ne.symm R)]at O;obtain⟨u',r',q⟩:=hl j y v' B O e3;refine⟨u',r',?_⟩;rcases q with q|⟨k,c',e,z'⟩
    .exact .inl q
    .refine .inr ⟨k,c',e,z'.sameBut l ?_⟩;rintro rfl;exact R (Kt hN B (I.ok.inj _ _ _ e G ▸ hi))
  .by_cases hcc:c'=c
   .subst hcc;exact⟨_,U⟩
   .obtain⟨w2,z2⟩:=I.cell y c' e;exact⟨w2,z2.sameBut l hcc⟩
  .obtain⟨e,n,ne,nf,d⟩:=I.pin p hp;refine⟨(l.2 p.1 ?_).trans e,n,ne,nf,d⟩;intro q;rw[q,Y]at e;have q':oc=p.2:=aY.inj e;exact d w' (by rw[←q'];exact hocd)
def Gi(I:qb X oA σ H s)(l:X.N.Nodup)(hi:X.N[i]?=some x)(n:Loc X.env.scope x)(r:rK v u)
  (h:∀s',qb X oA (σ.set i (some v)) H s'->Q () s') (t:X.fn x=true∨X.env.scope.names.lookup x=some .local:=by trivial):ki M A (storeName X.env x u) Q E s:=
 Vy I l hi n r (λs' z _=>h s' z) t
def qb.call'(I:qb X oA σ H s)(n:s'.os=s.os)(u:Un (Rm X.stack) ch H H' s.heap s'.heap)(hok:CH X.prog X.w H' s'.heap)(t:mi s'.gens)
  (l:∀b∈ch,(b∈X.ex∨X.s₀.heap.objs.size<=b)/\b≠X.env.locals/\(∀x c,X.env.cells.lookup x=some c->c≠b)/\∀p∈X.pn++oA,p.1≠b):qb X oA σ H' s':=by
 obtain⟨h',z,B,E,G⟩:=s';have e:G=s.os:=n;subst e;exact I.call (g':=z) (t':=E) (d':=B) u hok t l
end
abbrev XK:=Value->Option Addr->Hp->Prop
abbrev St:=List (Option V)
abbrev VK:=V->Hp->Prop
abbrev TE:=St->Hp->VK->Prop
abbrev TT:=St->Hp->(Bool->Hp->Prop)->Prop
abbrev TA:=St->Hp->(List V->Hp->Prop)->Prop
structure yQ where
 nx:St->Hp->Prop
 rt:VK
 bk:St->Hp->Prop:=λ_ _=>False
 ct:St->Hp->Prop:=λ_ _=>False
abbrev TS:=yQ->St->Hp->Prop
def EP(X:Cx)(n:Φ)(σ:St)(Q:VK)(u:Value)(s':kc):Prop:=∃v l,qb X n σ l s'/\rK v u/\Q v l
def TP(X:Cx)(n:Φ)(σ:St)(Q:Bool->Hp->Prop)(b:Bool)(s':kc):Prop:=∃l,qb X n σ l s'/\Q b l
def AP(X:Cx)(n:Φ)(σ:St)(Q:List V->Hp->Prop)(us:Ξ)(s':kc):Prop:=∃vs l,qb X n σ l s'/\qI vs us/\Q vs l
def SP(X:Cx)(s:Φ)(D:yQ)(f:Flow)(s':kc):Prop:=
 match f with
 | .next=>∃l n,qb X s l n s'/\D.nx l n
 | .brk=>∃l n,qb X s l n s'/\D.bk l n
 | .cont=>∃l n,qb X s l n s'/\D.ct l n
 | .ret u=>∃v l n,qb X s l n s'/\rK v u/\D.rt v n
def PE(X:Cx)(e:Expr)(t:TE):Prop:=
 ∀l s (σ:St) H Q,qb X l σ H s->t σ H Q->ki (kf X.prog X.w) X.A (eval e X.env) (EP X l σ Q) X.xe s
def PT(X:Cx)(e:Expr)(t:TT):Prop:=
 ∀l s (σ:St) H Q,qb X l σ H s->t σ H Q->ki (kf X.prog X.w) X.A (isTrue e X.env (eval e X.env)) (TP X l σ Q) X.xe s
def PW(X:Cx)(e:Expr)(t:TT):Prop:=
 ∀l n s (σ:St) H Q,qb X n σ H s->t σ H Q->ki (kf X.prog X.w) X.A (isTrue e X.env l) (TP X n σ Q) X.xe s
def PW.pt(h:PW X e t):PT X e t:=h _
def PA(X:Cx)(n:List Expr)(t:TA):Prop:=
 ∀pos l s (σ:St) H Q,qb X l σ H s->t σ H Q->ki (kf X.prog X.w) X.A (spliced (kM pos (kx n X.env))) (AP X l σ Q) X.xe s
def PS(X:Cx)(st:Stmt)(t:TS):Prop:=
 ∀l s (σ:St) H D,qb X l σ H s->t D σ H->ki (kf X.prog X.w) X.A (exec st X.env) (SP X l D) X.xe s
def KJ(X:Cx)(st:List Stmt)(t:TS):Prop:=
 ∀l s (σ:St) H D,qb X l σ H s->t D σ H->ki (kf X.prog X.w) X.A (execs st X.env) (SP X l D) X.xe s
def uN{t:Sem α}{Q l}(h:ki M A t Q E s)(n:∀a s,Q a s->l a s):ki M A t l E s:=kG h n λ_ _ x=>x
section
def xq(i:Nat):TE:=λσ H Q=>∃v,σ[i]?=some (some v)/\Q v H
def tC(v:V):TE:=λ_ H Q=>Q v H
def ah4(B:X.N[i]?=some x)(E:Vis X.env.scope x)(hd:(x == ("__debug__" : Str))=false:=by decide)(t:(x == ("__classdict__" : Str))=false:=by decide):PE X (.Name x pos) (xq i):=by
 intro G s σ H Q I h;obtain⟨v,e,h⟩:=h;obtain⟨m,hn,hl⟩:=I.loc;obtain⟨u,r,l⟩:=hl i x v B e E;have fin:EP X G σ Q u s:=⟨v,H,I,r,h⟩;rcases l with⟨hk,hm⟩|⟨hk,c,z,n⟩
 .exact wpAny_Name (wpAny_loadName_local I.ok.kind hk hn hm fin) hd
 .rcases hk with hk|hk
  .exact wpAny_Name (wpAny_loadName_cell I.ok.kind hk z n fin) hd
  .exact wpAny_Name (wpAny_loadName_free I.ok.kind hk z n fin t) hd
def oY:PE X (.Constant (.int i) j pos) (tC (.int i)):=λ_ _ _ H _ I h=>wpAny_Constant_int ⟨.int i,H,I.tok _,⟨_,rfl⟩,h⟩
def Cs:PE X (.Constant (.bool b) j pos) (tC (.bl b)):=λ_ _ _ H _ I h=>Constant_bool ⟨.bl b,H,I,rfl,h⟩
def AC:PE X (.Constant .none j pos) (tC .non):=λ_ _ _ H _ I h=>Constant_none ⟨.non,H,I,rfl,h⟩
def tu:PE X (.Constant (.str x) j pos) (tC (.str x)):=λ_ _ _ H _ I h=>Calls.Constant_str ⟨.str x,H,I.tok _,⟨_,rfl⟩,h⟩
def Gl(X:Cx)(x:Str):Prop:=X.env.kindOf x=some .globalImplicit
def zg{σ:St}(I:qb X l σ H s)(n:Gl X x)(hm:X.mg x=some u)(h:Q u s)
  (hd:(x == ("__debug__" : Str))=false:=by decide):ki (kf X.prog X.w) X.A (eval (.Name x pos) X.env) Q E s:=
 Calls.Name_function_global I.ok.kind n (Calls.loadGlobal_global (by rw[I.ok.glob];exact I.mod.glob.keeps I.bk) hm h) hd
def JO{σ:St}(I:qb X l σ H s)(n:Gl X x)(hm:X.mg x=none)(t:lI x=some u)(h:Q u s)
  (hn:x ≠ "__name__" := by decide) (hd:(x == ("__debug__" : Str))=false:=by decide):ki (kf X.prog X.w) X.A (eval (.Name x pos) X.env) Q E s:=by
 obtain⟨G,z,B⟩:=I.mod.blt;exact Calls.Name_function_global I.ok.kind n (Calls.loadGlobal_builtin (by rw[I.ok.glob];exact I.mod.glob.keeps I.bk) hm (by rw[I.ok.blt];exact z.keeps I.bk) ((B x hn).trans t) h) hd
def zm(l:Gl X x)(hm:X.mg x=some u)(r:rK v u)(hd:(x == ("__debug__" : Str))=false:=by decide):PE X (.Name x pos) (tC v):=
 λ_ _ _ H _ I h=>zg I l hm ⟨v,H,I,r,h⟩ hd
def xP(l:Gl X x)(hm:X.mg x=none)(n:lI x=some u)(r:rK v u)(hn:x ≠ "__name__" := by decide)(hd:(x == ("__debug__" : Str))=false:=by decide):PE X (.Name x pos) (tC v):=
 λ_ _ _ H _ I h=>JO I l hm n ⟨v,H,I,r,h⟩ hn hd
def PC(X:Cx)(z:CmpOp)(a b:Expr)(t:TE):Prop:=
 ∀x s (σ:St) H Q,qb X x σ H s->t σ H Q ->
  ki (kf X.prog X.w) X.A (eval a X.env) (λv l=>ki (kf X.prog X.w) X.A (eval b X.env) (λu n=>ki (kf X.prog X.w) X.A (kU z v u) (EP X x σ Q) X.xe n) X.xe l) X.xe s
def tB(t:TE):TT:=λσ H Q=>t σ H λx l=>∃c,x = .bl c/\Q c l
def RZ(h:PC X n a b t)(z:lS n b=false:=by first|exact l _ ⋯ ⋯|rfl):PT X (.Compare a [n] [b] pos) (tB t):=by
 intro B s σ H Q I hw;refine nO (uN (h B s σ H _ I hw) λv M z=>uN z λu O E=>uN E λc P ⟨x,G,J,L,q1⟩=>?_) z
 obtain⟨d,rfl,q⟩:=q1;cases L;exact kS ⟨G,J,q⟩
def vz(h:PE X e t)(n:∀l,isTrue e X.env l=(do let v ←l;mH e.pos;mI [v] (truthy v)):=by intro _;rfl):PT X e (tB t):=by
 intro u s σ H Q I hw;refine isTrue_plain (uN (h u s σ H _ I hw) λv G ⟨x,z,B,E,q1⟩=>?_) (n _)
 obtain⟨d,rfl,q⟩:=q1;cases E;exact kS ⟨z,B,q⟩
variable {rest:List Expr}
def tOr(t u:TT):TT:=λσ H Q=>t σ H λc l=>if c=true then Q true l else u σ l Q
def akQ(t:TT):TT:=λσ H Q=>t σ H λc l=>Q (!c) l
def IW(ha:PT X a tA):PW X (.BoolOp .Or [a] pos) tA:=by
 intro n l s σ H Q I h;refine isTrue_or (uN (ha l s σ H Q I h) λc t e=>?_)
 cases c with
 |false=>exact isTrue_or_nil e
 |true=>exact e
def Pn(ha:PT X a tA)(hb:PW X (.BoolOp .Or (b::rest) pos) tB'):PW X (.BoolOp .Or (a::b::rest) pos) (tOr tA tB'):=by
 intro u l s σ H Q I h;refine isTrue_or (uN (ha l s σ H _ I h) λc x ⟨n,t,q1⟩=>?_)
 cases c with
 |true=>exact⟨n,t,q1⟩
 |false=>exact hb u l x σ n Q t q1
def AA(ha:PT X a tA):PT X (.UnaryOp .Not a pos) (akQ tA):=by
 intro l s σ H Q I h;exact isTrue_not (ha l s σ H (λc n=>Q (!c) n) I h)
def afK(ta tb:TE):TE:=λσ H Q=>ta σ H λx l=>∃c,x = .bl c/\if c=true then tb σ l Q else Q (.bl false) l
def af4(ta:TE):TE:=λσ H Q=>ta σ H λx l=>∃c,x = .bl c/\Q (.bl (!c)) l
def NJ(h:PE X a t):PE X (.BoolOp op [a] pos) t:=λl s σ H Q I hw=>BoolOp_one (h l s σ H Q I hw)
def Jn(ha:PE X a ta)(hb:PE X (.BoolOp .And (b::rest) pos) tb):PE X (.BoolOp .And (a::b::rest) pos) (afK ta tb):=by
 intro l s σ H Q I h;refine BoolOp_and (uN (ha l s σ H _ I h) λv u ⟨x,n,t,z,q1⟩=>?_)
 obtain⟨c,rfl,q1⟩:=q1;cases z;refine kS ?_;cases c with
 |true=>exact hb l u σ n Q t q1
 |false=>exact⟨.bl false,n,t,rfl,q1⟩
def ahV(ha:PE X a ta):PE X (.UnaryOp .Not a pos) (af4 ta):=by
 intro l s σ H Q I h;refine UnaryOp_ (uN (ha l s σ H _ I h) λv z ⟨x,n,t,u,q1⟩=>?_)
 obtain⟨c,rfl,q1⟩:=q1;cases u;exact not_of (kS ⟨.bl (!c),n,t,rfl,q1⟩)
end
def uO(K:Ζ)(H:Hp)(a:Addr)(xs:List V):Prop:=
 Rd H a (.lst xs) ∨
  ∃(o:Obj) (l:Ω) (n:Nat),K.lookup a=some o/\o.cls = .type "list" /\ o.dict=none/\o.data = .seq l n/\l.size<=ku/\qI xs l.toList
def GW(K:Ζ)(H:Hp)(a:Addr)(xs:List V):Prop:=
 Rd H a (.tup xs) ∨
  ∃(o:Obj) (l:Ω) (n:Nat),K.lookup a=some o/\o.cls = .type "tuple" /\ o.data = .seq l n/\l.size<=ku/\qI xs l.toList
noncomputable def al4:Value->Option V
 | .none=>some .non
 | .bool b=>some (.bl b)
 | .int i _=>some (.int i)
 | .str x _=>some (.str x)
 | .bytes b _=>some (.byt b)
 | .float b _=>some (.flt b)
 | .ref a=>some (.ref a)
 | .type n=>some (.ty n)
 |_=>none
def rK.abs(r:rK x u):al4 u=some x:=by
 cases x with
 |non=>cases r;rfl
 |bl _=>cases r;rfl
 |int _=>obtain⟨t,rfl⟩:=r;rfl
 |str _=>obtain⟨t,rfl⟩:=r;rfl
 |byt _=>obtain⟨t,rfl⟩:=r;rfl
 |flt _=>obtain⟨t,rfl⟩:=r;rfl
 |ref _=>cases r;rfl
 |ty _=>cases r;rfl
theorem rK.inj(r:rK x u)(q:rK y u):x=y:=aY.inj (r.abs.symm.trans q.abs)
theorem qI.inj:∀{xs l}{us},qI xs us->qI l us->xs=l
 |_,_,_,.nil,.nil=>rfl
 |_,_,_,.cons r t,.cons n s=>by rw[r.inj n,qI.inj t s]
section
variable {σ:St}
def uO.of{K}(h:H a=some (.lst xs)):uO K H a xs:=.inl (.inl h)
def GW.of{K}(h:H a=some (.tup xs)):GW K H a xs:=.inl (.inl h)
def qb.list(I:qb X oA σ H s)(h:uO X.K H a xs):∃l:Ξ,qI xs l/\PlainL s.heap a l.toArray/\xs.length<=ku:=by
 rcases h with h|⟨o,l,n,hk,t,hd,u,x,r⟩
 .obtain⟨z,l,n,r,e⟩:=h.ok I.hok;exact⟨l,r,⟨_,n,e,rfl,rfl,rfl⟩,z⟩
 .refine⟨l.toList,r,⟨o,n,I.kIn a o hk,t,hd,by simpa using u⟩,?_⟩
  have e:=r.length;simp only[aH]at e;lia
def qb.tuple(I:qb X oA σ H s)(h:GW X.K H a xs):∃l:Ξ,qI xs l/\IsTup s.heap a l.toArray/\xs.length<=ku:=by
 rcases h with h|⟨o,l,n,hk,t,u,x,r⟩
 .obtain⟨z,l,r,p⟩:=h.ok I.hok;exact⟨l,r,p,z⟩
 .refine⟨l.toList,r,⟨o,I.kIn a o hk,t,n,by simpa using u⟩,?_⟩
  have e:=r.length;simp only[aH]at e;lia
def qb.list_inj(I:qb X oA σ H s)(h:uO X.K H a xs)(h':uO X.K H a ys):xs=ys:=by
 obtain⟨t,r,⟨o,n,e,_,_,d⟩,_⟩:=I.list h;obtain⟨l,z,⟨E,G,u,_,_,x⟩,_⟩:=I.list h';rw[e]at u;cases u;rw[d]at x;injection x with B _
 have:t=l:=by simpa using congrArg Array.toList B
 subst this;exact r.inj z
end
noncomputable abbrev Cx.wish(X:Cx)(E:Value->kc->Prop):Cx:={ X with xe:=E }
noncomputable abbrev Cx.nox(X:Cx):Cx:=X.wish λ_ _=>False
theorem Cx.Ok.wish{X:Cx}(ok:X.Ok)E:(X.wish E).Ok:=
 ⟨ok.mod,ok.kind,ok.glob,ok.blt,ok.above,ok.inj,ok.has,ok.cab,ok.hd,ok.frames,ok.stk,ok.exf,ok.bs,ok.bsz,ok.noex,ok.exfs,ok.funs,ok.frf⟩
def Cx.Ok.unwish{X:Cx}(ok:(X.wish E).Ok):X.Ok:=
 ⟨ok.mod,ok.kind,ok.glob,ok.blt,ok.above,ok.inj,ok.has,ok.cab,ok.hd,ok.frames,ok.stk,ok.exf,ok.bs,ok.bsz,ok.noex,ok.exfs,ok.funs,ok.frf⟩
section
variable {σ:St}
theorem qb.wish(I:qb X oA σ H s)E:qb (X.wish E) oA σ H s:=⟨I.ok.wish E,I.os,I.bare,I.base,I.loc,I.cell,I.free,I.freeC,I.pin,I.hok,I.len⟩
theorem qb.unwish(I:qb (X.wish E) oA σ H s):qb X oA σ H s:=⟨I.ok.unwish,I.os,I.bare,I.base,I.loc,I.cell,I.free,I.freeC,I.pin,I.hok,I.len⟩
theorem SP.unwish(h:SP (X.wish E) oA D f s'):SP X oA D f s':=by
 cases f with
 |next=>obtain⟨l,n,I,q⟩:=h;exact⟨l,n,I.unwish,q⟩
 |brk=>obtain⟨l,n,I,q⟩:=h;exact⟨l,n,I.unwish,q⟩
 |cont=>obtain⟨l,n,I,q⟩:=h;exact⟨l,n,I.unwish,q⟩
 |ret u=>obtain⟨v,l,n,I,r,q⟩:=h;exact⟨v,l,n,I.unwish,r,q⟩
theorem KJ.nox{st}(h:KJ X.nox st t):KJ X st t:=λoA s σ H D I hw=>
 kG (h oA s σ H D (I.wish _) hw) (λ_ _ q=>q.unwish) λ_ _ z=>False.elim z
end
section
variable {st:Stmt}{rest:List Stmt}
def afa:TS:=λD σ H=>D.nx σ H
def Nu(t u:TS):TS:=λD σ H=>t { D with nx:=u D } σ H
def qd:KJ X [] afa:=λ_ _ σ H _ I h=>lD ⟨σ,H,I,h⟩
def oJ(x:PS X st t)(z:KJ X rest u):KJ X (st::rest) (Nu t u):=by
 intro n s σ H D I h;refine nc (uN (x n s σ H { D with nx:=u D } I h) λf B q=>?_)
 cases f with
 |next=>
  obtain⟨l,E,G,q⟩:=q;exact z n B l E D G q
 |ret v=>exact q
 |brk=>exact q
 |cont=>exact q
def oN(l:PS X st t):KJ X [st] t:=by
 intro n s σ H D I h;refine nc (uN (l n s σ H D I h) λf x q=>?_)
 cases f with
 |next=>exact lD q
 |ret v=>exact q
 |brk=>exact q
 |cont=>exact q
def qb.quiet{σ:St}(I:qb X l σ H s):interactive X.env=false:=by simp[interactive,I.ok.kind]
def Dn(te:TE):TS:=λD σ H=>te σ H λ_ l=>D.nx σ l
def qX(l:PE X e te)(n:lZ e none pos.line X.env=pure false:=by rfl):PS X (.Expr e pos) (Dn te):=by
 intro z s σ H D I h;exact wpAny_Expr_any (uN (l z s σ H _ I h) λv G ⟨x,B,E,J,q1⟩=>⟨σ,B,E,q1⟩) I.quiet n
def VC(te:TE):TS:=λD σ H=>te σ H D.rt
def pK(l:PE X e te):PS X (.Return (some e) pos) (VC te):=by
 intro n s σ H D I h;exact wpAny_Return_some (uN (l n s σ H _ I h) λv G ⟨x,z,B,E,q1⟩=>⟨x,σ,z,B,E,q1⟩)
def YJ(c:TT)(t u:TS):TS:=λD σ H=>c σ H λb l=>if b=true then t D σ l else u D σ l
def rV(E:PT X c n)(ha:KJ X a t)(hb:KJ X b u):PS X (.If c a b pos) (YJ n t u):=by
 intro l s σ H D I h;refine wpAny_If (uN (E l s σ H _ I h) λd x ⟨z,B,q1⟩=>?_)
 cases d with
 |true=>exact ha l x σ z D B q1
 |false=>exact hb l x σ z D B q1
end
abbrev TG:=V->St->Hp->(St->Hp->Prop)->Prop
abbrev TGs:=List V->St->Hp->(St->Hp->Prop)->Prop
def PG(X:Cx)(l:Expr)(t:TG):Prop:=
 ∀x s (σ:St) H v u Q,qb X x σ H s->rK v u->t v σ H Q ->
  ki (kf X.prog X.w) X.A (nW l X.env u) (λ_ s'=>∃n z,qb X x n z s'/\Q n z) X.xe s
def PGs(X:Cx)(x:List Expr)(t:TGs):Prop:=
 ∀n s (σ:St) H vs us Q,qb X n σ H s->qI vs us->t vs σ H Q ->
  ki (kf X.prog X.w) X.A (assignInOrder ((mC x X.env).map (·.2)) us) (λ_ s'=>∃l u,qb X n l u s'/\Q l u) X.xe s
def vo(i:Nat):TG:=λv σ H Q=>Q (σ.set i (some v)) H
def NH(l:X.N.Nodup)(hi:X.N[i]?=some x)(n:Loc X.env.scope x)(t:X.fn x=true∨X.env.scope.names.lookup x=some .local:=by trivial):PG X (.Name x pos) (vo i):=by
 intro B s σ H v u Q I r h;exact wpAny_assign_Name (Gi I l hi n r (λE z=>⟨_,H,z,h⟩) t)
def Sn:TGs:=λvs σ H Q=>vs=[]/\Q σ H
def Cr(t:TG)(u:TGs):TGs:=λvs σ H Q=>∃v r,vs=v::r/\t v σ H λl n=>u r l n Q
def UE:PGs X [] Sn:=by
 intro l s σ H n us Q I r h;obtain⟨e,h⟩:=h;subst e;cases r;exact assignInOrder_nil ⟨σ,H,I,h⟩
def Ju(z:PG X e t)(B:PGs X l u)
  (E:(mC (e::l) X.env).map (·.2)=nW e X.env::(mC l X.env).map (·.2):=by rfl):PGs X (e::l) (Cr t u):=by
 intro x s σ H P us Q I r h;obtain⟨v,R,G,h⟩:=h;subst G;cases r with
 |cons r J=>
  rw[E];refine assignInOrder_cons (uN (z x s σ H _ _ _ I r h) λ_ L ⟨n,M,O,q1⟩=>?_)
  exact B x L n M _ _ Q O J q1
def S7(K:Ζ)(n:Nat)(t:TGs):TG:=λv σ H Q=>∃a xs,v = .ref a/\GW K H a xs/\xs.length=n/\t xs σ H Q
def aac(E:X.calm=true)(h:PGs X l t)
  (hn:(mC l X.env).length=n:=by rfl) (x:(mC l X.env).findIdx? (·.1)=none:=by rfl):PG X (.Tuple l k pos) (S7 X.K n t):=by
 intro z s σ H v u Q I r hw;obtain⟨a,G,J,L,hl,hw⟩:=hw;subst J;cases r;obtain⟨M,B,ht,S⟩:=I.tuple L;refine assign_Tuple_tuple (I.ok.hd E) ht (by simp[hn,←hl,B.length]) x λO P=>?_
 have R:qb X z σ H { s with heap:=O }:=I.kept (t':=s.toks) λb o e=>P b o (aF (ai e)) e
 exact h z _ σ H G _ Q R (by simpa using B) hw
def Nd(te:TE)(g:TG):TS:=λD σ H=>te σ H λx l=>g x σ l D.nx
def aio(t:PE X e te)(u:PG X l g)(z:swapsWithSole [l] e pos.line X.env=pure false:=by rfl)(hw:swappedStores [l] e X.env=pure none:=by rfl)
  (B:(mC [l] X.env).map (·.2)=[nW l X.env]:=by rfl):PS X (.Assign [l] e pos) (Nd te g):=by
 intro n s σ H D I h;refine wpAny_Assign_stores (uN (t n s σ H _ I h) λv E ⟨x,G,J,L,q1⟩=>?_) z hw
 rw[B];exact uN (u n E σ G x v _ J L q1) λ_ M q=>q
def ahy(n:X.N.Nodup)(hi:X.N[i]?=some x)(t:Loc X.env.scope x)(u:PE X e te)(z:lZ e (some (.Name x l)) pos.line X.env=pure false:=by rfl)(B:X.fn x=true∨X.env.scope.names.lookup x=some .local:=by trivial) :
  PS X (.Assign [.Name x l] e pos) (Nd te (vo i)):=by
 intro E s σ H D I h;refine wpAny_Assign_Name (uN (u E s σ H _ I h) λv O ⟨y,G,J,L,q1⟩=>?_) z
 exact Gi J n hi t L (λP M=>⟨_,G,M,q1⟩) B
def aaI(c:TT)(u:TS):TS:=λD σ H=>∃W:Nat->St->Hp->Prop,(∃m,W m σ H)/\∀m σ H,W m σ H ->
 c σ H λb n=>if b=true then ∃N:St->Hp->Prop,(∀l s,N l s->∃t,t<m/\W t l s)/\u { D with nx:=N,ct:=N,bk:=D.nx } σ n else D.nx σ n
def Jz(Q:PassesOwn (kf X.prog X.w) X.A X.env X.xe)(hc:PT X c O)(hb:KJ X body P):PS X (.While c body [] pos) (aaI O P):=by
 intro E s σ H D I h;obtain⟨W,⟨m0,w0⟩,turn⟩:=h;refine wpAny_While (codeAny_whileLoop (λn s'=>∃u R,qb X E u R s'/\W n u R) ?_ m0 ⟨σ,H,I,w0⟩)
 rintro n s1 ⟨t,S,I1,w1⟩;refine ly Q (uN (hc E s1 t S _ I1 (turn n t S w1)) λb s2 ⟨T,U,z⟩=>?_)
 cases b with
 |true=>
  obtain⟨N,Y,z⟩:=z;rw[qf rfl];refine ly Q (uN (hb E s2 t T _ U z) λf s3 B=>?_)
  cases f with
  |next=>
   obtain⟨l,x,G,J⟩:=B;obtain⟨L,hm,M⟩:=Y l x J;exact⟨L,hm,l,x,G,M⟩
  |cont=>
   obtain⟨l,x,G,J⟩:=B;obtain⟨L,hm,M⟩:=Y l x J;exact⟨L,hm,l,x,G,M⟩
  |brk=>exact B
  |ret v=>exact B
 |false=>
  rw[qj aD];exact lD ⟨t,T,U,z⟩
structure It where
 go:Nat->Hp->Prop
 yld:Nat->Hp->V->Hp->Prop
 stop:Nat->Hp->Prop
def Ga(X:Cx)(l:Φ)(H:Hp)(b:Addr):Prop:=
 H b=none/\b≠X.env.locals/\b∉X.fs/\(b∈X.ex∨X.s₀.heap.objs.size<=b)/\(∀x c,X.env.cells.lookup x=some c->c≠b)/\∀p∈X.pn++l,p.1≠b
def qb.fpOk{σ:St}{b:Addr}(I:qb X l σ H s)(hb:s.heap.objs.size<=b)(hn:n b=none):Ga X l n b:=by
 refine⟨hn,ef (aJ I.lt hb),I.nofs hb,.inr (aZ I.sz hb),λx c e z=>?_,λp t z=>?_⟩
 .obtain⟨v,q⟩:=I.cell x c e;exact absurd (aJ q.lt (by rw[z];exact hb)) (cV _)
 .exact absurd (aJ (ai (I.pin p t).1) (by rw[z];exact hb)) (cV _)
structure Pc (P:kr)(w:kz)(K:Ζ)(tg:Expr)(J:It)(fp:Δ)(it:Addr)(tn:Nat->Heap->Prop):Prop where
 mem:it∈fp
 obj:∀i h,tn i h->∀b∈fp,∃o,h.get? b=some o/\∀v,o.data ≠ .cell v
 keep:∀i h h',tn i h->(∀b∈fp,∀o,h.get? b=some o->h'.get? b=some o)->tn i h'
 item:∀(X:Cx),X.prog=P->X.w=w->X.K=K->X.calm=true->∀(i:Nat) (oA:Φ) (s:kc) (σ:St) (H:Hp) (E:Value->kc->Prop),qb X oA σ H s->(∀b∈fp,Ga X oA H b)->tn i s.heap->J.go i H ->
  ki (kf P w) X.A (pyNext (.ref it)) (λr s1=>∃u,r=some u /\
   ki (kf P w) X.A (mw tg (.ref it) u) (λ_ s2=>∃x H',qb X oA σ H' s2/\rK x u/\J.yld i H x H'/\tn (i+1) s2.heap/\∀b∈fp,H' b=none) E s1) E s
 done:∀(X:Cx),X.prog=P->X.w=w->X.K=K->X.calm=true->∀(i:Nat) (oA:Φ) (s:kc) (σ:St) (H:Hp) (E:Value->kc->Prop),qb X oA σ H s->(∀b∈fp,Ga X oA H b)->tn i s.heap->J.stop i H ->
  ki (kf P w) X.A (pyNext (.ref it)) (λr s1=>r=none/\qb X oA σ H s1) E s
 self:∀(A:Around) (i:Nat) (s:kc) (Q:Value->kc->Prop) (E:Value->kc->Prop),tn i s.heap->Q (.ref it) s->ki (kf P w) A (pyIter (.ref it)) Q E s
abbrev TI:=St->Hp->(It->Hp->Prop)->Prop
def PIE(X:Cx)(s:Φ)(σ:St)(x:Expr)(R:It->Hp->Prop)(l:Value)(s2:kc):Prop:=
 ∃t fp u J n,l = .ref t/\qb X s σ n s2/\Pc X.prog X.w X.K x J fp t u/\u 0 s2.heap/\(∀b∈fp,Ga X s n b)/\R J n
def PI(X:Cx)(n xt:Expr)(t:TI):Prop:=
 ∀l s (σ:St) H R,qb X l σ H s->t σ H R ->
  ki (kf X.prog X.w) X.A (eval xt X.env) (λv s1=>ki (kf X.prog X.w) X.A (pyIter v) (PIE X l σ n R) X.xe s1) X.xe s
def go_of{vs:Ω}(z:s.heap.get? x=some o)(B:o.cls = .type n)(hd:o.data = .fields vs)
    (hn:["enumerate","zip","dict_itemiterator","dict_reverseitemiterator","odict_iterator","itertools.zip_longest","itertools.pairwise"].contains n=false) (l:Q () s):ki M A (mw t (.ref x) u) Q E s:=by
  unfold mw;cases t <;> first
    |exact kC l
    | (cases u <;> first
        |exact kC l
        | (refine kj (wpAny_load z ?_)
           rw[B,hd];show ki M A (if (["enumerate","zip","dict_itemiterator","dict_reverseitemiterator","odict_iterator","itertools.zip_longest","itertools.pairwise"].contains n && vs[0]? == some (mD _))=true then _ else _) Q E s
           rw[qj (by intro h;rw[hn,jD]at h;cases h)]
           exact kC l))
noncomputable def Itl(K:Ζ)(a:Addr):It:=
 ⟨λi H=>∃xs x,uO K H a xs/\xs[i]?=some x,λi H x l=>l=H/\∀xs,uO K H a xs->xs[i]?=some x,λi H=>∃xs,uO K H a xs/\xs.length<=i⟩
noncomputable def Itr(lo:Int)(n:Nat):It:=⟨λi _=>i<n,λi H x l=>l=H/\x = .int (lo+i),λi _=>n<=i⟩
def V3{K}a l:Pc P w K tg (Itl K a) [l] l (λi h=>h.IsListIter l a i) where
 mem:=by simp
 obj:=λi h st b hb=>by
  have e:b=l:=by simpa using hb
  subst e;obtain⟨o,e,c,d⟩:=st;exact⟨o,e,λv z=>by rw[d]at z;cases z⟩
 keep:=λi h h' st k=>st.at λo e=>k l ⋯ o e
 item:=by
  intro X G hw J hc i oA s σ H E I t st L;subst G hw J;obtain⟨xs,x,B,M⟩:=L;obtain⟨O,Q,p,hz⟩:=I.list B;obtain⟨u,hu,ru⟩:=Q.get M;obtain⟨R,S,f2,T,U,Y⟩:=t l ⋯
  refine wpAny_pyNext_list_item st p.isList (x:=u) (by simpa using hu) λh' n sb=>?_
  have I1:qb X oA σ H { s with heap:=h' }:=I.turned (t':=s.toks) (λb o hb e=>(sb.2 b hb).trans e) R S T U Y
  obtain⟨o,e,c,d⟩:=id n;exact⟨u,rfl,go_of (s:={ s with heap:=h' }) e c d ⋯ ⟨x,H,I1,ru,⟨rfl,λys hy=>by rw[I.list_inj hy B];exact M⟩,n,λb hb=>(t b hb).1⟩⟩
 done:=by
  intro X G hw J hc i oA s σ H E I t st L;subst G hw J;obtain⟨xs,B,M⟩:=L;obtain⟨O,Q,p,hz⟩:=I.list B;obtain⟨R,S,f2,T,U,Y⟩:=t l ⋯
  have hl:=Q.length;exact wpAny_pyNext_list_end (I.ok.hd hc) st p.isList (by simp;lia) λh' eb=>⟨rfl,I.turned (t':=s.toks) (λb o hb e=>eb b o hb e) R S T U Y⟩
 self:=λ_ _ _ _ _ st h=>wpAny_pyIter_listiter st h
def Ti{K}l lo n:Pc P w K Y (Itr lo n) [l] l (λi h=>IsRangeIter h l (lo+(i:Nat)*1) ((n:Int)-(i:Nat)) 1) where
 mem:=by simp
 obj:=λi h st b hb=>by
  have e:b=l:=by simpa using hb
  subst e;exact⟨_,st,λv z=>by
   have z':Data.fields _=Data.cell v:=z;cases z'⟩
 keep:=λi h h' st k=>k l ⋯ _ st
 item:=by
  intro X B hw G J i T s σ H E I x st L;subst B hw G;obtain⟨M,O,f2,Q,R,S⟩:=x l ⋯
  have W:=Walks.range (prog:=X.prog) (w:=X.w) (I.ok.hd J) l lo 1 n;refine W.item i s _ _ L st λv h' U hv u kk=>?_
  obtain⟨t,rfl⟩:=hv;have I1:qb X T σ H { s with heap:=h',toks:=U }:=I.turned (λb o hb e=>kk b o (by simpa using hb) e) M O Q R S
  refine⟨_,rfl,go_of (s:={ s with heap:=h',toks:=U }) (n:= "range_iterator") u rfl rfl ⋯ ⟨.int (lo+i),H,I1,⟨t,?_⟩,⟨rfl,rfl⟩,u,λb hb=>(x b hb).1⟩⟩
  rw[Int.mul_one]
 done:=by
  intro X B hw G J i T s σ H E I x st L;subst B hw G;obtain⟨M,O,f2,Q,R,S⟩:=x l ⋯
  exact wpAny_pyNext_range_end (I.ok.hd J) st (by have:n<=i:=L;lia) λh' eb=>⟨rfl,I.turned (t':=s.toks) (λb o hb e=>eb b o hb e) M O Q R S⟩
 self:=λ_ _ _ _ _ st h=>wpAny_pyIter_rangeiter st h
def XY(K:Ζ)(tl:TE):TI:=λσ H R=>tl σ H λx l=>∃a,x = .ref a/\(∃xs,uO K l a xs)/\R (Itl K a) l
def zk(hl:PE X l tl):PI X tg l (XY X.K tl):=by
 intro u s σ H R I h;refine uN (hl u s σ H _ I h) λv n ⟨x,z,t,B,q1⟩=>?_
 obtain⟨a,e,⟨J,E⟩,q⟩:=q1;subst e;cases B;obtain⟨G,L,p,M⟩:=t.list E;refine wpAny_pyIter_list p.isList ?_;refine⟨n.heap.objs.size,[n.heap.objs.size],_,_,z,rfl,t.kept (t':=n.toks) λb o e=>aa _ e,V3 a _,⟨_,bf _ rfl,rfl,rfl⟩,λb hb=>?_,q⟩
 have e:b=n.heap.objs.size:=by simpa using hb
 subst e;exact t.fpOk (ae _) (t.hok.fresh (ae _))
def YR{σ:St}{lo}(I:qb X l σ H s)(z:-(2 ^ 62)<=lo)(B:lo<2 ^ 62)(G:-(2 ^ 62)<=hi)(J:hi<2 ^ 62)
  (q:R (Itr lo (hi-lo).toNat) H):ki (kf X.prog X.w) X.A (pyIter (.ref s.heap.objs.size)) (PIE X l σ tg R) E { s with heap:=s.heap.push { cls:=.type "range", data:=.fields #[.int lo t,.int hi u,.int 1 v] },toks:=n }:=by
 refine wpAny_pyIter_range (IsRange.new ..) (small_one z B G J) ?_;have x:qb X l σ H { s with heap:=s.heap.push { cls:=.type "range", data:=.fields #[.int lo t,.int hi u,.int 1 v] },toks:=n }:=I.kept λb o e=>aa _ e
 refine⟨(s.heap.push { cls:=.type "range", data:=.fields #[.int lo t,.int hi u,.int 1 v] }).objs.size,[(s.heap.push { cls:=.type "range", data:=.fields #[.int lo t,.int hi u,.int 1 v] }).objs.size],_,_,H,rfl,
  x.kept (t':=n) λb o e=>aa _ e,Ti _ lo (hi-lo).toNat,?_,λb hb=>?_,q⟩
 .have L:lo+((0:Nat):Int)*1=lo:=by simp
  have M:(((hi-lo).toNat:Nat):Int)-((0:Nat):Int)=Builtin.Range.rangeSize lo hi 1:=by rw[rangeSize_one];split <;> lia
  show IsRangeIter _ _ (lo+((0:Nat):Int)*1) ((((hi-lo).toNat:Nat):Int)-((0:Nat):Int)) 1;rw[L,M];exact bf _ rfl
 .have e:b=(s.heap.push { cls:=.type "range", data:=.fields #[.int lo t,.int hi u,.int 1 v] }).objs.size:=by simpa using hb
  subst e;exact x.fpOk (ae _) (x.hok.fresh (ae _))
def ZR(l:TA):TI:=λσ H R=>l σ H λvs n=>∃j:Int,vs=[.int j]/\-(2 ^ 62)<=j/\j<2 ^ 62/\R (Itr 0 j.toNat) n
def Bn(n:Gl X "range")(hm:X.mg "range" = none)(ha:PA X [a] l)(u:kx [a] X.env=[(false,eval a X.env)]:=by rfl):PI X tg (.Call (.Name "range" p) [a] [] pos) (ZR l):=by
 intro x s σ H R I h;refine Call_ (JO I n hm boot_range (eI (uN (ha pos x s σ H _ I h) λus J ⟨L,M,z,B,q1⟩=>?_) u rfl))
 obtain⟨j,e,q1,E,q⟩:=q1;subst e;cases B with
 |cons r G=>
  cases G;obtain⟨t,rfl⟩:=r;exact call_range_1 (YR z ∅ ∅ q1 E (by simpa using q))
def VX(u:TI)(g:TG)(z:TS):TS:=λD σ H=>u σ H λJ B=>∃W:Nat->Nat->St->Hp->Prop,(∃m,W 0 m σ B)/\∀i m σ H,W i m σ H ->
 (J.stop i H/\D.nx σ H)∨(J.go i H/\∃N:St->Hp->Prop,(∀l n,N l n->∃t,t<m/\W (i+1) t l n)/\∀x n,J.yld i H x n->g x σ n λs E=>z { D with nx:=N,ct:=N,bk:=D.nx } s E)
noncomputable def Ka(fp:Δ)(h:Heap):Φ:=fp.filterMap λb=>(h.get? b).map λo=>(b,o)
def Bw(hb:b∈fp)(e:h.get? b=some o):(b,o)∈Ka fp h:=jk.mpr ⟨b,hb,by rw[e];rfl⟩
def VL(l:p∈Ka fp h):p.1∈fp/\h.get? p.1=some p.2:=by
 obtain⟨b,hb,e⟩:=jk.mp l;cases q:h.get? b with
 |none=>rw[q]at e;cases e
 |some o=>
  rw[q]at e;have n:(b,o)=p:=aY.inj e;subst n;exact⟨hb,q⟩
def qb.pinned{σ:St}(I:qb X l σ H s)(t:∀b∈fp,Ga X l H b)(u:∀b∈fp,∃o,s.heap.get? b=some o/\∀v,o.data ≠ .cell v):qb X (l++Ka fp s.heap) σ H s:=
 I.pins_of λp x=>(mAq.mp x).elim (λz=>I.pin p (ay _ z)) λz=>by
  obtain⟨hb,e⟩:=VL z;obtain⟨B,E,G,_⟩:=t p.1 hb;obtain⟨o,n,d⟩:=u p.1 hb;rw[e]at n;cases n;exact⟨e,B,E,G,d⟩
def qb.unpinned{σ:St}(I:qb X (l++pl) σ H s):qb X l σ H s:=I.pins_of λp n=>I.pin p (ay _ (bw _ n))
def Hg(Q:PassesOwn (kf X.prog X.w) X.A X.env X.xe)(hc:X.calm=true)(hi:PI X tg xt wi)(hg:PG X tg g)(hb:KJ X body tb)
  (hs:∀x,mP xt X.env x=pure x:=by intro _;rfl):PS X (.For tg xt body [] pos) (VX wi g tb):=by
 intro O s σ H D I h;refine wpAny_For (uN (hi O s σ H _ I h) λv s1 h1=>uN h1 λitv s2 h2=>?_) hs
 obtain⟨it,R,tn,J,H2,e,I2,T,OP,f2,W,⟨m0,w0⟩,turn⟩:=h2;subst e;have t:∀{L:Hp},(∀b∈R,L b=none)->∀b∈R,Ga X O L b:=λhn b hb=>⟨hn b hb,(f2 b hb).2⟩
 refine codeAny_forLoop_any (λn s'=>∃i z L,qb X O z L s'/\tn i s'.heap/\(∀b∈R,L b=none)/\W i n z L) ?_ m0 ⟨0,σ,H2,I2,OP,λb hb=>(f2 b hb).1,w0⟩
 rintro n s3 ⟨i,B,Y,I3,st3,S,w3⟩;rcases turn i n B Y w3 with⟨stop,qn⟩|⟨go,N,hN,step⟩
 .refine ly Q (uN (T.done X rfl rfl rfl hc i O s3 B Y X.xe I3 (t S) st3 stop) λr s4 ⟨hr,I4⟩=>?_)
  subst hr;exact lD ⟨B,Y,I4,qn⟩
 .refine ly Q (uN (T.item X rfl rfl rfl hc i O s3 B Y X.xe I3 (t S) st3 go) λr s4 ⟨u,hr,h4⟩=>?_)
  subst hr;refine ly Q (uN h4 λ_ s5 ⟨x,H5,I5,r5,y5,P,fr5⟩=>?_)
  have I5':=I5.pinned (t fr5) (T.obj _ _ P);refine ly Q (uN (hg _ s5 B H5 x u _ I5' r5 (step x H5 y5)) λ_ s6 ⟨σ6,H6,I6,q6⟩=>?_)
  refine ly Q (uN (hb _ s6 σ6 H6 _ I6 q6) λf s7 M=>?_)
  have again:∀{l:St}{E:Hp},qb X (O++Ka R s5.heap) l E s7->N l E->∃m,m<n/\∃i z L,qb X O z L s7/\tn i s7.heap/\(∀b∈R,L b=none)/\W i m z L:=λ{l E} G U=>by
   obtain⟨m',hm,w7⟩:=hN l E U;refine⟨m',hm,i+1,l,E,G.unpinned,T.keep _ _ _ P λb hb o e=>(G.pin (b,o) (ay _ (ay _ (Bw hb e)))).1,λb hb=>?_,w7⟩
   obtain⟨o,e,d⟩:=T.obj _ _ P b hb;exact(G.pin (b,o) (ay _ (ay _ (Bw hb e)))).2.1
  cases f with
  |next=>obtain⟨l,E,G,U⟩:=M;exact again G U
  |cont=>obtain⟨l,E,G,U⟩:=M;exact again G U
  |brk=>obtain⟨l,E,G,M⟩:=M;exact⟨l,E,G.unpinned,M⟩
  |ret v=>obtain⟨x7,l,E,G,r7,M⟩:=M;exact⟨x7,l,E,G.unpinned,r7,M⟩
def XN{K}{g:TG}{B:TS}{D:yQ}(l:Nat->St->Hp->Prop)(G:l 0 σ H)(hl:∀i σ H,i<=xs.length->l i σ H->uO K H a xs)
  (I:∀i x σ H,xs[i]?=some x->l i σ H->g x σ H λn z=>B { D with nx:=l (i+1),ct:=l (i+1),bk:=D.nx } n z) (hd:∀σ H,l xs.length σ H->D.nx σ H) :
  ∃W:Nat->Nat->St->Hp->Prop,(∃m,W 0 m σ H)/\∀i m σ H,W i m σ H ->
   ((Itl K a).stop i H/\D.nx σ H)∨((Itl K a).go i H/\∃N:St->Hp->Prop,(∀s t,N s t->∃E,E<m/\W (i+1) E s t)/\∀x t,(Itl K a).yld i H x t->g x σ t λn z=>B { D with nx:=N,ct:=N,bk:=D.nx } n z):=by
 refine⟨λi m σ H=>m=xs.length-i/\i<=xs.length/\l i σ H,⟨xs.length,by simp,bb _,G⟩,?_⟩
 rintro i m σ H ⟨rfl,hi,p⟩;have q:=hl i σ H hi p
 by_cases u:i<xs.length
 .refine .inr ⟨⟨xs,xs[i],q,by simp[u]⟩,l (i+1),λs t J=>⟨xs.length-(i+1),by lia,rfl,u,J⟩,λx t y=>?_⟩
  obtain⟨e,y⟩:=y;subst e;exact I i x σ _ (y xs q) p
 .have e:i=xs.length:=by lia
  subst e;exact .inl ⟨⟨xs,q,ae _⟩,hd σ H p⟩
def Wu{lo}{g:TG}{E:TS}{D:yQ}(l:Nat->St->Hp->Prop)(I:l 0 σ H)
  (J:∀i σ H,i<n->l i σ H->g (.int (lo+i)) σ H λs B=>E { D with nx:=l (i+1),ct:=l (i+1),bk:=D.nx } s B) (hd:∀σ H,l n σ H->D.nx σ H) :
  ∃W:Nat->Nat->St->Hp->Prop,(∃m,W 0 m σ H)/\∀i m σ H,W i m σ H ->
   ((Itr lo n).stop i H/\D.nx σ H)∨((Itr lo n).go i H/\∃N:St->Hp->Prop,(∀t u,N t u->∃G,G<m/\W (i+1) G t u)/\∀x u,(Itr lo n).yld i H x u->g x σ u λs B=>E { D with nx:=N,ct:=N,bk:=D.nx } s B):=by
 refine⟨λi m σ H=>m=n-i/\i<=n/\l i σ H,⟨n,by simp,bb _,I⟩,?_⟩
 rintro i m σ H ⟨rfl,hi,p⟩
 by_cases z:i<n
 .refine .inr ⟨z,l (i+1),λt u L=>⟨n-(i+1),by lia,rfl,z,L⟩,λx u y=>?_⟩
  obtain⟨e,y⟩:=y;subst e y;exact J i σ _ z p
 .have e:i=n:=by lia
  subst e;exact .inl ⟨ae _,hd σ H p⟩
abbrev R2:=V->V->Hp->VK->Prop
def Ip(X:Cx)(f:Value->Value->Sem Value)(r:R2):Prop:=
 ∀l s (σ:St) H x y v u Q,qb X l σ H s->rK x v->rK y u->r x y H Q ->
  ki (kf X.prog X.w) X.A (f v u) (EP X l σ Q) X.xe s
def UnR(X:Cx)(f:Value->Sem Value)(r:V->Hp->VK->Prop):Prop:=
 ∀l s (σ:St) H x v Q,qb X l σ H s->rK x v->r x H Q ->
  ki (kf X.prog X.w) X.A (f v) (EP X l σ Q) X.xe s
def uX(X:Cx)(f:Value)(r:List V->Hp->VK->Prop):Prop:=
 ∀l s (σ:St) H xs us Q,qb X l σ H s->qI xs us->r xs H Q ->
  ki (kf X.prog X.w) X.A (call f us) (EP X l σ Q) X.xe s
def amu(X:Cx)(r:V->Hp->(Bool->Hp->Prop)->Prop):Prop:=
 ∀l s (σ:St) H x v Q,qb X l σ H s->rK x v->r x H Q ->
  ki (kf X.prog X.w) X.A (truthy v) (TP X l σ Q) X.xe s
def tOp(r:R2)(l n:TE):TE:=λσ H Q=>l σ H λx s=>n σ s λy t=>r x y t Q
def tUn(r:V->Hp->VK->Prop)(l:TE):TE:=λσ H Q=>l σ H λx n=>r x n Q
def rI(C:Int->Int->Prop)(g:Int->Int->V):R2:=λx y H Q=>∃i j,x = .int i/\y = .int j/\C i j/\Q (g i j) H
def Y0(g:Int->Int->V):R2:=λx y H Q=>∃i j,x = .int i/\y = .int j/\Q (g i j) H
def rU(g:Int->V):V->Hp->VK->Prop:=λx H Q=>∃i,x = .int i/\Q (g i) H
def agC(ha:PE X a ta)(hb:PE X b tb){σ:St}{R:V->V->Hp->Prop}(I:qb X z σ H s)
  (h:ta σ H λx B=>tb σ B λy l=>R x y l) {f:Value->Value->Sem Value}
  (E:∀v u s2 x y l,qb X z σ l s2->rK x v->rK y u->R x y l->ki (kf X.prog X.w) X.A (f v u) Q X.xe s2) :
  ki (kf X.prog X.w) X.A (eval a X.env) (λv n=>ki (kf X.prog X.w) X.A (eval b X.env) (λu t=>ki (kf X.prog X.w) X.A (f v u) Q X.xe t) X.xe n) X.xe s:=by
 refine uN (ha z s σ H _ I h) λv G ⟨x,B,J,L,q1⟩=>?_
 refine uN (hb z G σ B _ J q1) λu s2 ⟨y,l,M,O,P⟩=>?_
 exact E v u s2 x y l M L O P
def rA(n:Ip X (lG l) r)(ha:PE X a ta)(hb:PE X b tb):PE X (.BinOp a l b pos) (tOp r ta tb):=by
 intro t s σ H Q I h;exact wpAny_BinOp (agC ha hb I h λv u z x y B E G J q=>n t z σ B x y v u Q E G J q)
def AZ(t:UnR X (unaryOp l) r)(ha:PE X a ta):PE X (.UnaryOp l a pos) (tUn r ta):=by
 intro n s σ H Q I h;exact UnaryOp_ (uN (ha n s σ H _ I h) λv u ⟨x,z,B,E,q1⟩=>t n u σ z x v Q B E q1)
def opI{g:Int->Int->Int}
  (rule:∀i j t u s Q E,C i j->Q (.int (g i j) s.toks) { s with toks:=s.toks+1 }->ki (kf X.prog X.w) X.A (f (.int i t) (.int j u)) Q E s) :
  Ip X f (rI C λi j=>.int (g i j)):=by
 intro G s σ H x y v u Q I l n h;obtain⟨i,j,rfl,rfl,z,q⟩:=h;obtain⟨t,rfl⟩:=l;obtain⟨B,rfl⟩:=n;exact rule i j t B s _ _ z ⟨.int (g i j),H,I.tok _,⟨_,rfl⟩,q⟩
def akm{g:Int->Int->Int}
  (rule:∀i j t u s Q E,Q (.int (g i j) s.toks) { s with toks:=s.toks+1 }->ki (kf X.prog X.w) X.A (f (.int i t) (.int j u)) Q E s) :
  Ip X f (Y0 λi j=>.int (g i j)):=by
 intro B s σ H x y v u Q I l n h;obtain⟨i,j,rfl,rfl,q⟩:=h;obtain⟨t,rfl⟩:=l;obtain⟨z,rfl⟩:=n;exact rule i j t z s _ _ ⟨.int (g i j),H,I.tok _,⟨_,rfl⟩,q⟩
def akq{g:Int->Int->Bool}
  (rule:∀i j t u s Q E,Q (.bool (g i j)) s->ki (kf X.prog X.w) X.A (f (.int i t) (.int j u)) Q E s) :
  Ip X f (Y0 λi j=>.bl (g i j)):=by
 intro B s σ H x y v u Q I l n h;obtain⟨i,j,rfl,rfl,q⟩:=h;obtain⟨t,rfl⟩:=l;obtain⟨z,rfl⟩:=n;exact rule i j t z s _ _ ⟨.bl (g i j),H,I,rfl,q⟩
def agj(i j:Int):Prop:=0<j/\j<1073741824
def agB(i j:Int):Prop:=0<=j/\j<=1000000/\i.natAbs<2 ^ 64
def Yp(i j:Int):Prop:=(-(2 ^ 64)<i/\i<2 ^ 64)∨(-(2 ^ 64)<j/\j<2 ^ 64)
def Yp.ok(h:Yp i j):IntMulOk i j:=by
 rcases h with⟨l,n⟩|⟨l,n⟩
 .exact .of_left (intBits_le_64 l n)
 .exact .of_right (intBits_le_64 l n)
def xV:Ip X (lG .Add) (Y0 λi j=>.int (i+j)):=akm λ_ _ _ _ _ _ _ q=>add_int q
def ahw:Ip X (lG .Sub) (Y0 λi j=>.int (i-j)):=akm λ_ _ _ _ _ _ _ q=>sub_int q
def SG:Ip X (lG .Mult) (rI Yp λi j=>.int (i*j)):=opI λ_ _ _ _ _ _ _ l q=>mul_int q l.ok
def Cp:Ip X (lG .FloorDiv) (rI agj λi j=>.int (i / j)):=opI λi j _ _ _ _ _ l q=>by
 have n:(0:Int)<j:=l.1;have s:j<1073741824:=l.2;exact floordiv_int ∅ (by rw[gI i ∅];exact q) (.inl (PyProof.noPylong_small ∅))
def wo:Ip X (lG .Mod) (rI (λ_ j=>0<j) λi j=>.int (i % j)):=opI λi j _ _ _ _ _ l q=>by
 have n:(0:Int)<j:=l;exact mod_int' ∅ (by rw[Int.fmod_eq_emod_of_nonneg i ∅];exact q)
def Kw:Ip X (lG .Pow) (rI agB λi j=>.int (i ^ j.toNat)):=opI λ_ _ _ _ _ _ _ l q=>pow_int_small l.1 l.2.1 l.2.2 q
def unI{g:Int->Int}
  (rule:∀i t s Q E,Q (.int (g i) s.toks) { s with toks:=s.toks+1 }->ki (kf X.prog X.w) X.A (f (.int i t)) Q E s) :
  UnR X f (rU λi=>.int (g i)):=by
 intro n s σ H x v Q I l h;obtain⟨i,rfl,q⟩:=h;obtain⟨t,rfl⟩:=l;exact rule i t s _ _ ⟨.int (g i),H,I.tok _,⟨_,rfl⟩,q⟩
def yi:UnR X (unaryOp .USub) (rU λi=>.int (-i)):=unI λ_ _ _ _ _ q=>neg_int q
noncomputable def scal:V->V->Bool
 | .non,.non=>true|.non,.int _=>true|.int _,.non=>true|.non,.bl _=>true|.bl _,.non=>true|.non,.str _=>true|.str _,.non=>true
 | .int _,.int _=>true|.bl _,.bl _=>true|.str _,.str _=>true|.byt _,.byt _=>true
 | .int _,.str _=>true|.str _,.int _=>true|.bl _,.str _=>true|.str _,.bl _=>true
 |_,_=>false
def rEq:R2:=λx y H Q=>scal x y=true/\Q (.bl (decide (x=y))) H
def rNe:R2:=λx y H Q=>scal x y=true/\Q (.bl (!decide (x=y))) H
def Uc:decide (V.int i=V.int j)=(i == j):=by
 rw[cL];simp
def aaE:decide (V.bl i=V.bl j)=(i == j):=by
 rw[cL];simp
def Ve:decide (V.str i=V.str j)=(i == j):=by
 rw[cL];simp
def Up:decide (V.byt i=V.byt j)=(i.toList == j.toList):=by
 rw[cL];cases i;cases j;simp
def sD{σ:St}(I:qb X l σ H s)(q:Q (.bl k) H)(e:k=n):EP X l σ Q (.bool n) s:=by
 subst e;exact⟨.bl k,H,I,rfl,q⟩
def op_eq:Ip X (kU .Eq) rEq:=by
 intro E s σ H x y v u Q I B l h;obtain⟨z,q⟩:=h;cases x with
 |non=>
  cases B;cases y with
  |non=>cases l;exact PySem.EqNone.eq_none_none (sD I q ⋯)
  |bl j=>cases l;exact PySem.EqNone.eq_none_bool (sD I q ⋯)
  |int j=>obtain⟨n,rfl⟩:=l;exact PySem.EqNone.eq_none_int (sD I q ⋯)
  |str j=>obtain⟨n,rfl⟩:=l;exact PySem.EqNone.eq_none_str (sD I q ⋯)
  |_=>exact absurd (show false=true from z) aD
 |bl i=>
  cases B;cases y with
  |non=>cases l;exact PySem.EqNone.eq_bool_none (sD I q ⋯)
  |bl j=>cases l;exact eq_bool (sD I q aaE)
  |str j=>obtain⟨n,rfl⟩:=l;exact PySem.EqMixed.eq_bool_str (sD I q ⋯)
  |_=>exact absurd (show false=true from z) aD
 |int i=>
  obtain⟨t,rfl⟩:=B;cases y with
  |non=>cases l;exact PySem.EqNone.eq_int_none (sD I q ⋯)
  |int j=>obtain⟨n,rfl⟩:=l;exact eq_int (sD I q Uc)
  |str j=>obtain⟨n,rfl⟩:=l;exact PySem.EqMixed.eq_int_str (sD I q ⋯)
  |_=>exact absurd (show false=true from z) aD
 |str i=>
  obtain⟨t,rfl⟩:=B;cases y with
  |non=>cases l;exact PySem.EqNone.eq_str_none (sD I q ⋯)
  |bl j=>cases l;exact PySem.EqMixed.eq_str_bool (sD I q ⋯)
  |int j=>obtain⟨n,rfl⟩:=l;exact PySem.EqMixed.eq_str_int (sD I q ⋯)
  |str j=>obtain⟨n,rfl⟩:=l;exact eq_str (sD I q Ve)
  |_=>exact absurd (show false=true from z) aD
 |byt i=>
  obtain⟨t,rfl⟩:=B;cases y with
  |byt j=>obtain⟨n,rfl⟩:=l;exact W.eq_bytes (sD I q Up)
  |_=>exact absurd (show false=true from z) aD
 |_=>cases y <;> exact absurd (show false=true from z) aD
def LF:Ip X (kU .NotEq) rNe:=by
 intro E s σ H x y v u Q I B l h;obtain⟨z,q⟩:=h;cases x with
 |non=>
  cases B;cases y with
  |non=>cases l;exact PySem.EqNone.ne_none_none (sD I q ⋯)
  |bl j=>cases l;exact PySem.EqNone.ne_none_bool (sD I q ⋯)
  |int j=>obtain⟨n,rfl⟩:=l;exact PySem.EqNone.ne_none_int (sD I q ⋯)
  |str j=>obtain⟨n,rfl⟩:=l;exact PySem.EqNone.ne_none_str (sD I q ⋯)
  |_=>exact absurd (show false=true from z) aD
 |bl i=>
  cases B;cases y with
  |non=>cases l;exact PySem.EqNone.ne_bool_none (sD I q ⋯)
  |bl j=>cases l;exact ne_bool (sD I q (congrArg not aaE))
  |str j=>obtain⟨n,rfl⟩:=l;exact PySem.EqMixed.ne_bool_str (sD I q ⋯)
  |_=>exact absurd (show false=true from z) aD
 |int i=>
  obtain⟨t,rfl⟩:=B;cases y with
  |non=>cases l;exact PySem.EqNone.ne_int_none (sD I q ⋯)
  |int j=>obtain⟨n,rfl⟩:=l;exact ne_int (sD I q (congrArg not Uc))
  |str j=>obtain⟨n,rfl⟩:=l;exact PySem.EqMixed.ne_int_str (sD I q ⋯)
  |_=>exact absurd (show false=true from z) aD
 |str i=>
  obtain⟨t,rfl⟩:=B;cases y with
  |non=>cases l;exact PySem.EqNone.ne_str_none (sD I q ⋯)
  |bl j=>cases l;exact PySem.EqMixed.ne_str_bool (sD I q ⋯)
  |int j=>obtain⟨n,rfl⟩:=l;exact PySem.EqMixed.ne_str_int (sD I q ⋯)
  |str j=>obtain⟨n,rfl⟩:=l;exact ne_str (sD I q (congrArg not Ve))
  |_=>exact absurd (show false=true from z) aD
 |byt i=>
  obtain⟨t,rfl⟩:=B;cases y with
  |byt j=>obtain⟨n,rfl⟩:=l;exact W.ne_bytes (sD I q (congrArg not Up))
  |_=>exact absurd (show false=true from z) aD
 |_=>cases y <;> exact absurd (show false=true from z) aD
def Pe:Ip X (kU .Lt) (Y0 λi j=>.bl (decide (i<j))):=akq λ_ _ _ _ _ _ _ q=>lt_int q
def PZ:Ip X (kU .Gt) (Y0 λi j=>.bl (decide (j<i))):=akq λ_ _ _ _ _ _ _ q=>gt_int q
def KG:Ip X (kU .Is) (λx y H Q=>y = .non/\Q (.bl (decide (x = .non))) H):=by
 intro z s σ H x y v u Q I l n h;obtain⟨rfl,q⟩:=h;cases n;refine is_none_gen (sD I q ?_);cases x <;> first
  | (cases l;rfl)
  | (obtain⟨t,rfl⟩:=l;rfl)
def sA b(h:l ≠ .In:=by decide)(n:l ≠ .NotIn:=by decide):lS l b=false:=by
 have s:(l == CmpOp.In)=false:=by cases l <;> first|rfl|exact absurd rfl h
 have t:(l == CmpOp.NotIn)=false:=by cases l <;> first|rfl|exact absurd rfl n
 cases b <;> simp[lS,s,t]
def Gb(n:Ip X (kU l) r)(ha:PE X a ta)(hb:PE X b tb)(hm:lS l b=false):PE X (.Compare a [l] [b] pos) (tOp r ta tb):=by
 intro t s σ H Q I h;exact wpAny_Compare1 (agC ha hb I h λv u z x y B E G J q=>n t z σ B x y v u Q E G J q) hm
def afu(t:TE):TT:=λσ H Q=>t σ H λx l=>∃k,x = .bl k/\Q k l
def qK(t:Ip X (kU l) r)(ha:PE X a ta)(hb:PE X b tb)(hm:lS l b=false):PT X (.Compare a [l] [b] pos) (afu (tOp r ta tb)):=by
 intro n s σ H Q I h;refine nO (uN (ha n s σ H _ I h) λv B ⟨x,E,G,J,q1⟩=>uN (hb n B σ E _ G q1) λu L ⟨y,M,O,P,R⟩=>
  uN (t n L σ M x y v u _ O J P R) λc s3 ⟨z,S,T,U,k,e,Y⟩=>?_) hm
 subst e;cases U;exact kS ⟨S,T,Y⟩
def agP(K:Ζ)(x:V)(H:Hp)(k:Bool):Prop:=
 match x with
 | .non=>k=false
 | .bl b=>k=b
 | .int i=>k=(i != 0)
 | .str y=>y.length<=ku/\k=((y.length:Int) != 0)
 | .byt y=>y.size<=ku/\k=((y.size:Int) != 0)
 | .ref p=>(∃xs,uO K H p xs/\k = !xs.isEmpty)∨(∃xs,GW K H p xs/\k = !xs.isEmpty)∨∃l,H p=some (.dK l)/\k = !l.isEmpty
 |_=>False
def SU{l:List (κ×V)}{vs}(r:KV l vs):(!vs.isEmpty) = !l.isEmpty:=by
 cases r <;> rfl
def Jl(r:qI xs l):(!l.toArray.isEmpty) = !xs.isEmpty:=by
 cases r <;> simp
def Os:(ku:Nat)<2 ^ 63:=by rw[kL];decide
def ahf:amu X (λx H Q=>∃k,agP X.K x H k/\Q k H):=by
 intro R s σ H x v Q I z h;obtain⟨k,e,q⟩:=h;have hl:=Os;have S:ku=16777216:=kL;cases x with
 |non=>
  cases z;have l:k=false:=e;subst l;exact truthy_none ⟨H,I,q⟩
 |bl b=>
  cases z;have l:k=b:=e;subst l;exact kS ⟨H,I,q⟩
 |int i=>
  obtain⟨t,rfl⟩:=z;have l:k=(i != 0):=e;subst l;exact PySem.P.truthy_int ⟨H,I,q⟩
 |str y=>
  obtain⟨t,rfl⟩:=z;obtain⟨O,l⟩:y.length<=ku/\k=((y.length:Int) != 0):=e;subst l;exact PySem.P.truthy_str ∅ ⟨H,I.tok _,q⟩
 |byt y=>
  obtain⟨t,rfl⟩:=z;obtain⟨O,l⟩:y.size<=ku/\k=((y.size:Int) != 0):=e;subst l;exact W.truthy_bytes ∅ ⟨H,I.tok _,q⟩
 |ref p=>
  cases z;have l:(∃u,uO X.K H p u/\k = !u.isEmpty)∨(∃u,GW X.K H p u/\k = !u.isEmpty)∨∃B,H p=some (.dK B)/\k = !B.isEmpty:=e;rcases l with⟨u,E,l⟩|⟨u,E,l⟩|⟨B,E,l⟩
  .subst l;obtain⟨J,r,L,M⟩:=I.list E;have n:=r.length;exact wpAny_truthy_list L.isList (by simp only[aB];lia) ⟨H,I.tok _,by rw[Jl r];exact q⟩
  .subst l;obtain⟨J,r,L,M⟩:=I.tuple E;have n:=r.length;exact truthy_tuple L (by simp only[aB];lia) ⟨H,I.tok _,by rw[Jl r];exact q⟩
  .subst l;obtain⟨M,P,G,r,m⟩:B.length<=ku/\(p == lg)=false/\∃G,KV B G/\s.heap.DictOf (uj X.prog X.w) p G:=I.hok p _ E;have n:B.length=G.length:=Paired.length r;exact wpAny_truthy_dict P m ∅ ⟨H,I.tok _,by rw[SU r];exact q⟩
 |_=>exact(show False from e).elim
def IS(ha:PE X a ta)(u:∀l,isTrue a X.env l=(do let v ←l;mH a.pos;mI [v] (truthy v))) :
  PT X a (λσ H Q=>ta σ H λx n=>∃k,agP X.K x n k/\Q k n):=by
 intro t s σ H Q I h;exact isTrue_plain (uN (ha t s σ H _ I h) λv z ⟨x,B,E,G,q1⟩=>ahf t z σ B x v Q E G q1) (u _)
def HA(r:qI [x] us):∃u,us=[u]/\rK x u:=by
 cases r with
 |cons l n=>cases n;exact⟨_,rfl,l⟩
def TB(r:qI [x,y] us):∃u l,us=[u,l]/\rK x u/\rK y l:=by
 cases r with
 |cons n s=>
  cases s with
  |cons t z=>cases z;exact⟨_,_,rfl,n,t⟩
def aj0(K:Ζ)(x:V)(H:Hp)(n:Nat):Prop:=
 match x with
 | .str y=>y.length<=ku/\n=y.length
 | .byt y=>y.size<=ku/\n=y.size
 | .ref p=>(∃xs,uO K H p xs/\n=xs.length)∨∃xs,GW K H p xs/\n=xs.length
 |_=>False
def vp:uX X (.builtin "len") (λxs H Q=>∃x n,xs=[x]/\aj0 X.K x H n/\Q (.int n) H):=by
 intro P s σ H xs us Q I r h;obtain⟨x,n,rfl,e,q⟩:=h;obtain⟨u,rfl,B⟩:=HA r;have hl:=Os;have R:ku=16777216:=kL;cases x with
 |str y=>
  obtain⟨t,rfl⟩:=B;obtain⟨M,z⟩:y.length<=ku/\n=y.length:=e;subst z;exact len_str ∅ ⟨.int _,H,I.tok _,⟨_,rfl⟩,q⟩
 |byt y=>
  obtain⟨t,rfl⟩:=B;obtain⟨M,z⟩:y.size<=ku/\n=y.size:=e;subst z;exact W.len_bytes ∅ ⟨.int _,H,I.tok _,⟨_,rfl⟩,q⟩
 |ref p=>
  cases B;have z:(∃xs,uO X.K H p xs/\n=xs.length)∨∃xs,GW X.K H p xs/\n=xs.length:=e;rcases z with⟨xs,E,z⟩|⟨xs,E,z⟩
  .subst z;obtain⟨G,J,L,O⟩:=I.list E;have l:=J.length;exact Calls.call_len_list L.isList (by simp only[aB];lia) ⟨.int xs.length,H,I.tok _,⟨_,by simp only[aB];rw[l]⟩,q⟩
  .subst z;obtain⟨G,J,L,O⟩:=I.tuple E;have l:=J.length;exact len_tuple L (by simp only[aB];lia) ⟨.int xs.length,H,I.tok _,⟨_,by simp only[aB];rw[l]⟩,q⟩
 |_=>exact(show False from e).elim
structure SY (h:Heap)(x dx C:Addr)(mA:Str->Υ):Prop where
 obj:h.get? x=some (W.instObj C dx)
 ns:h.Ns1 dx mA
 ne:dx≠x
def VO{h:Heap}{x:Str->Υ}(n:h.Ns1 u x):∃od,h.get? u=some od/\∀l,W.lookIn l od=some (x l):=by
 obtain⟨o,B,I,E,hd,hk,_,hm⟩:=n;refine⟨o,E,λl=>?_⟩
 have e:=hm l;unfold nsFind findBy at e;rw[←Array.find?_toList]at e;unfold W.lookIn;rw[hd];dsimp only;split
 .rename_i y q;rw[q]at e;exact congrArg some e
 .rename_i q;rw[q]at e;have a:B.toList.any (·.refKey)=false:=by
   rw[List.any_eq_false];intro y G;obtain⟨z,t,s⟩:=hk y (fY.mp G);simp[DictEntry.refKey,s]
  have H:¬ B.toList.any (·.refKey)=true:=by rw[a];exact aD
  rw[qj H];exact congrArg some e
def SY.look(I:SY h x n C s):∃od,W.InstAt h x (W.instObj C n) C (some od)/\∀l,W.lookIn l od=some (s l):=
 let ⟨od,t,hl⟩:=VO I.ns
 ⟨od,⟨I.obj,rfl,rfl,t⟩,hl⟩
section
variable {K:Ζ}
def aej(X:K.In s.heap)(I:SY s.heap x dx C mA)(t:W.plainGet K C name=true)(hh:W.hasDictIn K C=true)
  (ha:W.findIn K (.ref C) name=some none) (u:mA name=some v) (n:W.handedIn v=true) (h:Q v { s with toks:=s.toks+1 }) :
  ki (kf prog w) A (ou (.ref x) name l) Q E s:=by
 obtain⟨z,J,hl⟩:=I.look;exact W.get_value X J (W.plainGet_of t).1 (W.findObj_own hh ha rfl (by rw[hl,u])) n h
def aaN{Q:Value×Ξ->kc->Prop}(X:K.In s.heap)(I:SY s.heap x dx C mA)(l:W.plainGet K C name=true)
  (n:W.findIn K (.ref C) name=some (some (.ref f))) (ht:W.isFn K (.ref f)=true) (t:mA name=none) (h:Q (.ref f,[.ref x]) s) :
  ki (kf prog w) A (mh (.ref x) name pl) Q E s:=by
 obtain⟨u,J,hl⟩:=I.look;exact W.method_fn X J (W.plainGet_of l).1 (W.plainGet_of l).2 n (beq_iff_eq.mp ht) (by show(W.lookIn name u).map (·.isSome)=some false;rw[hl,t];rfl) h
def aeA(X:K.In s.heap)(I:SY s.heap x dx C mA)
  (G:W.findIn K (.ref C) "__setattr__" = some (some (.builtin "object.__setattr__"))) (H:W.plainOver K C=true) (ht:W.takerIn K C name=some none) (hh:W.hasDictIn K C=true)
  (hw:PySem.Within mA ns) (hsz:ns.length<=ku)
  (h:∀h',SY h' x dx C (λy=>if y=name then some v else mA y)->eM dx s.heap h'->Q () { s with heap:=h',toks:=s.toks+2 }) :
  ki (kf prog w) A (setAttr (.ref x) name v) Q E s:=by
 obtain⟨R,J,hl⟩:=I.look;refine W.set_plain X J G (W.osa_open (s:={ s with toks:=s.toks+1 }) (r:=none) X J H ht λb=>?_)
 obtain⟨S,L,t⟩:=W.any_some hh;have M:s.heap.get? x=some ⟨.ref C,some dx,.plain,#[]⟩:=I.obj;refine kj (kC (kj (kj (wpAny_loadPart M (kj (W.Looks.here (s:={ s with toks:=s.toks+1 }) (W.looks_clsIn X L) ?_))))))
 rw[t];refine kC (a:=some dx) (kj (kC (kj ?_)));refine wpAny_nsSet1 (s:={ s with toks:=s.toks+1 }) I.ns λh' l n=>?_
 obtain⟨T,O,P,u,z,B⟩:=l.count (PySem.Within.cons name v hw);refine kj (wpAny_lookBehind u (by rw[z];exact pastItsLine_dict (aZ B (by rw[lCq];lia))) ?_)
 exact kC (h _ ⟨(n.2 _ (Ne.symm I.ne)).trans I.obj,l,I.ne⟩ n)
def aai{vs:Ξ}(X:K.In s.heap)(hm:W.makesIn K C=true)
  (hi:W.findIn K (.ref C) "__init__" = some (some (.ref f))) (n:W.typeIn K (.ref f)=some (.type "function"))
  (h:lK (kf prog w) (A.under (.builtin "type.__call__" ⟨.ref C::vs,l⟩)) (.call (.ref f) ⟨.ref (s.heap.objs.size+1)::vs,l⟩) (W.InitBack (s.heap.objs.size+1) R)
   { s with heap:=(s.heap.push W.emptyDict).push (W.instObj C s.heap.objs.size) }) :
  lK (kf prog w) A (.call (.ref C) ⟨vs,l⟩) R s:=by
 obtain⟨hh,g,d,t,os⟩:=s;exact W.make_core (W.makes_of X hm) (W.looks_findIn X hi) (λself=>W.bind_fn X self n) (.inl rfl) h
end
noncomputable def zL(f:Str)(v:V):List (Str×V)->List (Str×V)
 | []=>[(f,v)]
 | (g,x)::r=>if g=f then (g,v)::r else (g,x)::zL f v r
theorem HS(f g)v:∀fs:List (Str×V),(zL f v fs).lookup g=if g=f then some v else fs.lookup g
 | []=>by
  show cm g [(f,v)]=_
  by_cases h:g=f
  .have hb:(g == f)=true:=beq_iff_eq.mpr h;simp only[cm,hb,qf h]
  .have hb:(g == f)=false:=beq_eq_false_iff_ne.mpr h;simp only[cm,hb,qj h]
 | (k,x)::r=>by
  have l:=HS f g v r;rw[show zL f v ((k,x)::r)=(if k=f then (k,v)::r else (k,x)::zL f v r)from rfl]
  by_cases hk:k=f
  .rw[qf hk]
   by_cases h:g=k
   .have hb:(g == k)=true:=beq_iff_eq.mpr h;simp only[cm,hb,qf (h.trans hk)]
   .have hb:(g == k)=false:=beq_eq_false_iff_ne.mpr h;simp only[cm,hb,qj (λe:g=f=>h (e.trans hk.symm))]
  .rw[qj hk]
   by_cases h:g=k
   .have hb:(g == k)=true:=beq_iff_eq.mpr h;simp only[cm,hb,qj (λe:g=f=>hk (h.symm.trans e))]
   .have hb:(g == k)=false:=beq_eq_false_iff_ne.mpr h;simp only[cm,hb];exact l
theorem G0(f)v:∀fs:List (Str×V),f∈(zL f v fs).map (·.1)/\∀g,g∈fs.map (·.1)->g∈(zL f v fs).map (·.1)
 | []=>⟨by simp[zL],λg h=>by simp at h⟩
 | (k,x)::r=>by
  obtain⟨i1,l⟩:=G0 f v r;rw[show zL f v ((k,x)::r)=(if k=f then (k,v)::r else (k,x)::zL f v r)from rfl]
  by_cases hk:k=f
  .rw[qf hk];subst hk;exact⟨by simp,λg h=>by simpa using h⟩
  .rw[qj hk];refine⟨?_,λg h=>?_⟩
   .rw[aw];exact mCo _ i1
   .rw[aw]at h ⊢;rcases ah.mp h with e|e
    .exact ah.mpr (.inl e)
    .exact mCo _ (l g e)
theorem HJ(f)v:∀fs:List (Str×V),(zL f v fs).length<=fs.length+1
 | []=>by simp[zL]
 | (k,x)::r=>by
  have l:=HJ f v r;rw[show zL f v ((k,x)::r)=(if k=f then (k,v)::r else (k,x)::zL f v r)from rfl]
  by_cases hk:k=f
  .rw[qf hk,lCq,lCq];lia
  .rw[qj hk,lCq,lCq];lia
def CG.some_of(r:CG (some v) o):∃u,o=some u/\rK v u:=by
 cases o with
 |none=>exact(show False from r).elim
 |some u=>exact⟨u,rfl,r⟩
def CG.none_of(r:CG none o):o=none:=by
 cases o with
 |none=>rfl
 |some u=>exact(show False from r).elim
def VG(r:rK v u):W.handedIn u=true:=by
 cases v with
 |non=>cases(show u=cU from r);rfl
 |bl b=>cases(show u=iW b from r);rfl
 |int i=>obtain⟨t,e⟩:=(show ∃t,u=gO i t from r);cases e;rfl
 |str x=>obtain⟨t,e⟩:=(show ∃t,u=iD x t from r);cases e;rfl
 |byt b=>obtain⟨t,e⟩:=(show ∃t,u=jW b t from r);cases e;rfl
 |flt b=>obtain⟨t,e⟩:=(show ∃t,u=ju b t from r);cases e;rfl
 |ref a=>cases(show u=ag a from r);rfl
 |ty n=>cases(show u=dQ n from r);rfl
def IL(hok:CH P w H h)(e:H a=some (.ins C dx fs)):∃l,SY h a dx C l/\(∀f,CG (fs.lookup f) (l f))/\PySem.Within l (fs.map (·.1))/\fs.length<=1000/\H dx=some (.own a):=by
 obtain⟨d,z,ne,s,l,n,r,q⟩:=(show sI P w H h a (.ins C dx fs)from hok a _ e)
 exact⟨l,⟨s,n,ne⟩,r,q,z,d⟩
structure Lq (K:Ζ)(C:Addr):Prop where
 pg:W.plainGet K C Str.empty=true
 hd:W.hasDictIn K C=true
 po:W.plainOver K C=true
 sa:W.findIn K (.ref C) "__setattr__" = some (some (.builtin "object.__setattr__"))
def Lq.get{K}(c:Lq K C)f:W.plainGet K C f=true:=c.pg
def oS(K:Ζ)(C:Addr)(f:Str):Prop:=W.findIn K (.ref C) f=some none
def oS.taker{K}(n:oS K C f):W.takerIn K C f=some none:=by
 unfold W.takerIn;rw[show W.findIn K (.ref C) f=some none from n]
 rfl
structure yj (K:Ζ)(C:Addr)(m:Str)(f:Addr):Prop where
 at_:W.findIn K (.ref C) m=some (some (.ref f))
 fn:W.isFn K (.ref f)=true
 kp:W.keepIn K (.ref f)=true
section
variable {σ:St}
def SN(I:qb X oA σ H s)(e:H a=some (.ins C dx fs))(c:Lq X.K C)(n:oS X.K C f)(l:fs.lookup f=some v)
  (h:∀u s',qb X oA σ H s'->rK v u->Q u s'):ki (kf X.prog X.w) A (ou (.ref a) f b) Q E s:=by
 obtain⟨x,O,r,_,_,_⟩:=IL I.hok e;obtain⟨u,z,t⟩:=CG.some_of (v:=v) (o:=x f) (by rw[←l];exact r f)
 exact aej I.kIn O (c.get f) c.hd n z (VG t) (h u _ (I.tok _) t)
def EG{Q:Value×Ξ->kc->Prop}(I:qb X oA σ H s)(e:H a=some (.ins C dx fs))(c:Lq X.K C)(k:yj X.K C m g)(l:fs.lookup m=none)
  (h:Q (.ref g,[.ref a]) s):ki (kf X.prog X.w) A (mh (.ref a) m pl) Q E s:=by
 obtain⟨n,O,r,_,_,_⟩:=IL I.hok e;have hn:n m=none:=CG.none_of (by rw[←l];exact r m)
 exact aaN I.kIn O (c.get m) k.at_ k.fn hn h
def RT(I:qb X oA σ H s)(e:H a=some (.ins C dx fs))(c:Lq X.K C)(n:oS X.K C f)(hl:fs.length<1000)(J:rK y u)
  (h:∀s',qb X oA σ (ri H a (.ins C dx (zL f y fs))) s'->Q () s'):ki (kf X.prog X.w) A (setAttr (.ref a) f u) Q E s:=by
 obtain⟨t,O,r,B,_,G⟩:=IL I.hok e;have L:(fs.map (·.1)).length<=ku:=by rw[lMq,kL];lia
 refine aeA I.kIn O c.sa c.po n.taker c.hd B L λM l sb=>h _ ?_
 have hd:∃o,M.get? dx=some o:=let ⟨o,_,_,P,_⟩:=l.ns;⟨o,P⟩
 refine I.write (x:=a) (e:=dx) (by rw[e];exact True.intro) (.inr G) (λb q hb z=>(sb.2 b hb).trans z) hd ?_
 refine⟨by rw[pe O.ne];exact G,?_,O.ne,l.obj,_,l.ns,λg=>?_,λg R=>?_⟩
 .have:=HJ f y fs;lia
 .show CG ((zL f y fs).lookup g) (if g=f then some u else t g)
  rw[HS]
  by_cases q:g=f
  .rw[qf q,qf q];exact J
  .rw[qj q,qj q];exact r g
 .by_cases q:g=f
  .rw[q];exact(G0 f y fs).1
  .refine(G0 f y fs).2 g (B g λz=>R ?_)
   show(if g=f then some u else t g)=none
   rw[qj q];exact z
def qb.made(I:qb X oA σ H s):qb X oA σ (ri (ri H s.heap.objs.size (.own (s.heap.objs.size+1))) (s.heap.objs.size+1) (.ins C s.heap.objs.size []))
  { s with heap:=(s.heap.push W.emptyDict).push (W.instObj C s.heap.objs.size) }:=by
 have l:(s.heap.push W.emptyDict).get? s.heap.objs.size=some W.emptyDict:=bf s.heap rfl;have n:((s.heap.push W.emptyDict).push (W.instObj C s.heap.objs.size)).get? (s.heap.objs.size+1)=some (W.instObj C s.heap.objs.size):=by
  have:=bf (s.heap.push W.emptyDict) (o:=W.instObj C s.heap.objs.size) rfl
  rwa [eJ]at this
 have t:(s.heap.push W.emptyDict).Ns s.heap.objs.size (λ_=>none):=⟨W.emptyDict,#[],_,l,rfl,(λe x=>absurd x ⋯),λ_=>rfl⟩
 have z:=I.laid (a:=s.heap.objs.size) (o:=.own (s.heap.objs.size+1)) (h':=s.heap.push W.emptyDict) (t':=s.toks) (λb u q=>aa _ q) (ae _) ⟨_,l⟩
 refine z.laid (a:=s.heap.objs.size+1) (o:=.ins C s.heap.objs.size []) (t':=s.toks) (λb u q=>aa _ q) (ff (eJ _ _)) ?_
 have ne:s.heap.objs.size≠s.heap.objs.size+1:=aF (cZ _);refine⟨by rw[pe ne,pE],bb _,ne,n,λ_=>none,(Heap.Ns1.of_empty t).at λo q=>aa _ q,λ_=>True.intro,λy B=>absurd rfl B⟩
def Tu(hb:lU e f env (eval e env)=eval e env)
  (h:ki (kf prog w) A (eval e env) (λo l=>ki (kf prog w) A (ou o f true) Q E l) E s):ki (kf prog w) A (eval (.Attribute e f pos) env) Q E s:=
 Attribute_any_ h (by rw[arm_eval_Attribute,hb])
end
def aj6(K:Ζ)(n:TE)(f:Str):TE:=λσ H Q=>n σ H λx l=>∃a C s fs v,x = .ref a/\l a=some (.ins C s fs)/\Lq K C/\oS K C f/\fs.lookup f=some v/\Q v l
def Ya(K:Ζ)(s t:TE)(f:Str):TS:=λD σ H=>t σ H λy u=>s σ u λx l=>∃a C n fs,x = .ref a/\l a=some (.ins C n fs)/\Lq K C/\oS K C f/\fs.length<1000 /\
 D.nx σ (ri l a (.ins C n (zL f y fs)))
def tS(t:PE X e ta)(hb:lU e f X.env (eval e X.env)=eval e X.env):PE X (.Attribute e f pos) (aj6 X.K ta f):=by
 intro z s σ H Q I h;refine Tu hb (uN (t z s σ H _ I h) λu O ⟨x,B,E,G,a,C,P,fs,v,ex,J,c,n,l,q⟩=>?_)
 subst ex;obtain rfl:u=ag a:=G;exact SN E J c n l λR S L M=>⟨v,B,L,M,q⟩
def Dx(ha:PE X o ta)(z:PE X value tv)(B:lZ value (some (.Attribute o f pos')) pos.line X.env=pure false):PS X (.Assign [.Attribute o f pos'] value pos) (Ya X.K ta tv f):=by
 intro t s σ H D I h;refine mv (uN (z t s σ H _ I h) λu E ⟨y,G,J,L,q⟩=>uN (ha t E σ G _ J q) λM T ⟨x,U,O,P,a,C,Y,fs,ex,Q,c,n,l,R⟩=>?_) B
 subst ex;obtain rfl:M=ag a:=P;exact RT O Q c n l L λs3 S=>⟨σ,_,S,R⟩
section
variable {σ:St}
inductive Ib (K:Ζ)(H:Hp):V->Value->Prop where
 |non:Ib K H .non (.type "NoneType")
 |bl (x:Bool):Ib K H (.bl x) (.type "bool")
 |int (i:Int):Ib K H (.int i) (.type "int")
 |str (x:Str):Ib K H (.str x) (.type "str")
 |flt (x:UInt64):Ib K H (.flt x) (.type "float")
 |lst {a:Addr}{xs:List V}(e:H a=some (.lst xs)):Ib K H (.ref a) (.type "list")
 |frz {a:Addr}{o:Obj}{xs:List V}(e:H a=some (.frz o (.lst xs))):Ib K H (.ref a) (.type "list")
 |tup {a:Addr}{xs:List V}(e:H a=some (.tup xs)):Ib K H (.ref a) (.type "tuple")
 |dK {a:Addr}{oX:List (qM×V)}(e:H a=some (.dK oX)):Ib K H (.ref a) (.type "dict")
 |dT {a:Addr}{oX:List (List qM×V)}(e:H a=some (.dT oX)):Ib K H (.ref a) (.type "dict")
 |ins {a C dx:Addr}{fs:List (Str×V)}(e:H a=some (.ins C dx fs)) (cl:Lq K C) (ha:W.findIn K (.ref C) "__class__" = some (some (.builtin "object.__class__")))
   (hn:W.specialIn K (.builtin "object.__class__") "__get__" = some (some (.builtin "getset_descriptor.__get__"))) (htk:W.takesIn K (.builtin "object.__class__")=some true)
   (hm:W.mroIn K C (.type "object")=some true):Ib K H (.ref a) (.ref C)
def W4(I:qb X oA σ H s)(l:rK x u)(ty:Ib X.K H x t)(e:W.kitOne X.K t c=some b)(h:∀R,Q (.bool b) { s with toks:=R }) :
  ki (kf X.prog X.w) A (call (.builtin "isinstance") [u,c]) Q E s:=by
 cases ty with
 |non=>cases(show u=cU from l);exact W.kia_one W.kitx_none I.kIn True.intro e (λz=>nomatch z) h
 |bl y=>cases(show u=iW y from l);exact W.kia_one W.kitx_bool I.kIn True.intro e (λz=>nomatch z) h
 |int i=>obtain⟨t,q⟩:=(show ∃t,u=gO i t from l);cases q;exact W.kia_one W.kitx_int I.kIn True.intro e (λz=>nomatch z) h
 |str y=>obtain⟨t,q⟩:=(show ∃t,u=iD y t from l);cases q;exact W.kia_one W.kitx_str I.kIn True.intro e (λz=>nomatch z) h
 |flt y=>obtain⟨t,q⟩:=(show ∃t,u=ju y t from l);cases q;exact W.kia_one W.kitx_float I.kIn True.intro e (λz=>nomatch z) h
 | @lst a L B=>
  cases(show u=ag a from l)
  obtain⟨_,_,n,_,G⟩:=(show sI X.prog X.w H s.heap a (.lst L)from I.hok a _ B)
  exact W.kia_one W.kitx_list I.kIn ⟨_,G,rfl⟩ e (λz=>nomatch z) h
 | @frz a S L B=>
  cases(show u=ag a from l)
  obtain⟨_,_,_,n,_,G⟩:=(show sI X.prog X.w H s.heap a (.frz S (.lst L))from I.hok a _ B)
  exact W.kia_one W.kitx_list I.kIn ⟨_,G,rfl⟩ e (λz=>nomatch z) h
 | @tup a L B=>
  cases(show u=ag a from l)
  obtain⟨_,_,_,p⟩:=(show sI X.prog X.w H s.heap a (.tup L)from I.hok a _ B)
  obtain⟨o,G,M,_⟩:=p;exact W.kia_one W.kitx_tuple I.kIn ⟨o,G,M⟩ e (λz=>nomatch z) h
 | @dK a P B=>
  cases(show u=ag a from l)
  obtain⟨_,_,Y,_,p⟩:=(show sI X.prog X.w H s.heap a (.dK P)from I.hok a _ B)
  obtain⟨o,T,U,G,M,_⟩:=p;exact W.kia_one W.kitx_dict I.kIn ⟨o,G,M.1⟩ e (λz=>nomatch z) h
 | @dT a P B=>
  cases(show u=ag a from l)
  obtain⟨_,_,L,_,o,T,U,G,M,_⟩:=(show sI X.prog X.w H s.heap a (.dT P)from I.hok a _ B)
  exact W.kia_one W.kitx_dict I.kIn ⟨o,G,M.1⟩ e (λz=>nomatch z) h
 | @ins a C dx fs B cl ha hn htk hm=>
  cases(show u=ag a from l)
  obtain⟨mA,O,_⟩:=IL I.hok B;obtain⟨od,J,_⟩:=O.look;exact W.kia_one (W.kitx_own (cl.get _) cl.hd ha hn htk hm) I.kIn J e (λz=>nomatch z) h
end
structure tY (k:Nat)(A:Around):Prop where
 hd:A.handled=none
 dp:A.depth+3*k+5<mE
 un:A.units+16*k+200<kN
def tY.mono(r:tY k A)(h:j<=k):tY j A:=⟨r.hd,by have:=r.dp;lia,by have:=r.un;lia⟩
theorem tY.deeper(r:tY (k+1) A)env:tY k (A.deeper env):=
 ⟨r.hd,by have:=r.dp;show A.depth+1+3*k+5<_;lia,by have:=r.un;show A.units+3+16*k+200<_;lia⟩
def Sj{A:Around}{us:Ξ}:(A.under (.builtin "type.__call__" ⟨.ref C::us,l⟩)).depth=A.depth+1:=by
 first|rfl|simp[Around.under,Code.weight,Code.isCreation,Code.isGuard,Code.isCaller,Code.frames,Code.isFrame,guardIds]
def R7{A:Around}{us:Ξ}:(A.under (.builtin "type.__call__" ⟨.ref C::us,l⟩)).units=A.units+1:=by
 first|rfl|simp[Around.under,Code.cUnits,Code.frames,Code.isFrame]
def tY.make(r:tY (k+1) A)C(us:Ξ)l:tY k (A.under (.builtin "type.__call__" ⟨.ref C::us,l⟩)):=
 ⟨r.hd,by have:=r.dp;rw[Sj];lia,by have:=r.un;rw[R7];lia⟩
theorem tY.depth(r:tY k A):A.depth<mE:=by have:=r.dp;lia
theorem tY.units(r:tY k A):A.units+64<kN:=by have:=r.un;lia
def xY:TA:=λ_ H Q=>Q [] H
def vG(l:TE)(n:TA):TA:=λσ H Q=>l σ H λx s=>n σ s λxs t=>Q (x::xs) t
def oB:PA X [] xY:=λ_ _ _ _ H Q I h=>Calls.spliced_nil ⟨[],H,I,.nil,h⟩
def oz(ha:PE X e te)(hr:PA X es t)(n:kx (e::es) X.env=(false,eval e X.env)::kx es X.env:=by rfl):PA X (e::es) (vG te t):=by
 intro pos l s σ H Q I h;rw[n];show ki _ _ (spliced ((false,eval e X.env)::kM pos (kx es X.env))) _ _ s;refine Calls.spliced_cons (uN (ha l s σ H _ I h) λu z ⟨x,B,E,G,q1⟩=>?_)
 exact uN (hr pos l z σ B _ E q1) λus R ⟨J,L,M,O,P⟩=>⟨x::J,L,M,.cons G O,P⟩
def ajE(t:TA):TE:=λσ H Q=>t σ H λxs l=>xs.length<=ku/\∀p,l p=none->Q (.ref p) (ri l p (.tup xs))
def Zy(t:TA):TE:=λσ H Q=>t σ H λxs l=>xs.length<=ku/\∀p,l p=none->Q (.ref p) (ri l p (.lst xs))
def xB(h:PA X es t):PE X (.Tuple es x1 pos) (ajE t):=by
 intro B s σ H Q I E;refine wpAny_Tuple_spliced (uN (h pos B s σ H _ I E) λus l ⟨G,n,x,r,z,q⟩=>⟨by rw[←r.length];exact z,?_⟩)
 have J:n l.heap.objs.size=none:=x.hok.fresh (ae _);refine⟨.ref l.heap.objs.size,ri n l.heap.objs.size (.tup G),x.laid (t':=l.toks) (λb u e=>aa _ e) (ae _) ?_,rfl,q _ J⟩
 exact⟨z,us,r,⟨_,bf _ rfl,rfl,_,rfl⟩⟩
def si(h:PA X es t):PE X (.List es pos) (Zy t):=by
 intro B s σ H Q I E;refine wpAny_List_spliced (uN (h pos B s σ H _ I E) λus l ⟨G,n,x,r,z,q⟩=>⟨by rw[←r.length];exact z,?_⟩)
 have J:n l.heap.objs.size=none:=x.hok.fresh (ae _);refine⟨.ref l.heap.objs.size,ri n l.heap.objs.size (.lst G),x.laid (t':=l.toks) (λb u e=>aa _ e) (ae _) ?_,rfl,q _ J⟩
 exact⟨z,us,0,r,bf _ rfl⟩
abbrev Sp:=List V->Hp->VK->XK->Prop
abbrev PQ:=List Env->Hp->kc->XK->Value->kc->Prop
structure Nw (P:kr)(w:kz)(K:Ζ)(mg:Str->Υ)(base:Heap)(A:Around)(outer:List Env)(s:kc)(H:Hp):Prop where
 frames:A.frames=some outer
 mod:Mod K mg base
 bs:∀b o,base.get? b=some o->s.heap.get? b=some o/\H b=none
 bsz:base.objs.size<=s.heap.objs.size
 funs:s.heap.FunFrames base outer
 frf:∀b∈Rm outer,H b=none
 hok:CH P w H s.heap
 bare:mi s.gens
def CE(outer:List Env)(P:kr)(w:kz)(H:Hp)(s:kc)(Q:VK)(u:Value)(s':kc):Prop:=
 ∃v l,s'.os=s.os/\mi s'.gens/\Un (Rm outer) [] H l s.heap s'.heap/\CH P w l s'.heap/\rK v u/\Q v l
def CR(CX:PQ)(outer:List Env)(P:kr)(w:kz)(H:Hp)(s:kc)(Q:VK)(E:XK)(r:Result)(s':kc):Prop:=
 match r with
 | .ok (.ret u)=>CE outer P w H s Q u s'
 | .ok _=>False
 | .error e=>CX outer H s E e s'
structure yT (P:kr)(w:kz)(K:Ζ)(mg:Str->Υ)(base:Heap)(CX:PQ)(k:Nat)(f:Addr)(fd:ky)(ps:List Str)(sp:Sp):Prop where
 len:∀vs H Q E,sp vs H Q E->vs.length=ps.length
 run:∀(A:Around) (outer:List Env) (s:kc) (H:Hp) (args:Args) (us:Ξ) (vs:List V) (Q:VK) (E:XK),tY k A->Nw P w K mg base A outer s H->mY s fd args (ps.zip us)->qI vs us->sp vs H Q E ->
  lK (kf P w) A (.call (.ref f) args) (CR CX outer P w H s Q E) s
def yT.imp{K}(F:yT P w K mg base CX k f fd ps sp)
  (h:∀vs H Q E,l vs H Q E->sp vs H Q E):yT P w K mg base CX k f fd ps l:=
 ⟨λvs H Q E q=>F.len vs H Q E (h _ _ _ _ q),λA outer s H n us vs Q E hr t hb u x=>F.run A outer s H n us vs Q E hr t hb u (h _ _ _ _ x)⟩
def Nw.make{K}(e:Nw P w K mg base A outer s H)C(us:Ξ)l :
  Nw P w K mg base (A.under (.builtin "type.__call__" ⟨.ref C::us,l⟩)) outer s H:=⟨by first|exact e.frames|(simpa[Around.under,Code.envs,Code.isFrame,pushEnvs]using e.frames),e.mod,e.bs,e.bsz,e.funs,e.frf,e.hok,e.bare⟩
section
variable {σ:St}
def qb.env0(I:qb X oA σ H s):Nw X.prog X.w X.K X.mg X.base X.A X.stack s H:=
 ⟨I.ok.frames,I.ok.mod,I.bs,aZ I.ok.bsz I.sz,I.stack,I.stkFree,I.hok,I.bare⟩
def qb.after(I:qb X oA σ H s)(h:CE X.stack X.prog X.w H s Q u s'):EP X oA σ Q u s':=by
 obtain⟨v,n,os,bare,un,hok,r,q⟩:=h;obtain⟨hh,g,d,t,l⟩:=s';obtain rfl:l=s.os:=os;exact⟨v,n,I.call (h':=hh) (g':=g) (d':=d) (t':=t) (ch:=[]) un hok bare (λb z=>absurd z ⋯),r,q⟩
end
def xX(sp:Sp)(l:List V)(E:XK)(t:TA):TE:=λσ H Q=>t σ H λvs n=>sp (vs++l) n Q E
def afb(C:Addr)(m:Str)(sp:Sp)(l:List V)(E:XK)(s:TE)(t:TA):TE:=λσ H Q=>s σ H λx n=>∃a u fs,x = .ref a/\n a=some (.ins C u fs)/\fs.lookup m=none /\
 t σ n λvs z=>sp (x::(vs++l)) z Q E
def Yr(C:Addr)(sp:Sp)(n:List V)(E:XK)(t:TA):TE:=λσ H Q=>t σ H λvs s=>∀x l,s x=none->s l=none->l≠x ->
 sp (.ref x::(vs++n)) (ri (ri s l (.own x)) x (.ins C l [])) (λv u=>v = .non/\Q (.ref x) u) E
def qY(K:Ζ)(fd:ky)(ps:List Str)(ds:Ξ):Prop:=
 ∀s us,K.In s.heap->(us++ds).length=ps.length->mY s fd ⟨us,[]⟩ (ps.zip (us++ds))
def qY.all{K}(h:∀us:Ξ,us.length=ps.length->bindArgs fd ⟨us,[]⟩=pure (ps.zip us)):qY K fd ps []:=λs us _ hl=>by
 rw[aNq]at hl ⊢;exact .of_eq (h us hl)
def yR(CX:PQ)(X:Cx)(E:XK):Prop:=∀l (σ:St) H s e s',qb X l σ H s->CX X.stack H s E e s'->X.xe e s'
def Rq{σ:St}(F:yT X.prog X.w X.K X.mg X.base CX k f fd ps sp)(hr:tY k X.A)(hb:qY X.K fd ps ds)(hd:qI dvs ds)(B:yR CX X E)
  (I:qb X n σ H s) (r:qI vs us) (h:sp (vs++dvs) H Q E):ki (kf X.prog X.w) X.A (call (.ref f) us) (EP X n σ Q) X.xe s:=by
 have z:qI (vs++dvs) (us++ds):=r.append hd;have hl:(us++ds).length=ps.length:=by rw[←z.length];exact F.len _ _ _ _ h
 refine lB (lH (F.run X.A X.stack s H ⟨us,[]⟩ (us++ds) (vs++dvs) Q E hr I.env0 (hb s us I.kIn hl) z h) λr G l=>?_)
 cases r with
 |error e=>exact B n σ H s e G I l
 |ok fl=>
  cases fl with
  |ret u=>exact I.after l
  |next=>exact False.elim l
  |brk=>exact False.elim l
  |cont=>exact False.elim l
def Vg(F:yT X.prog X.w X.K X.mg X.base CX k f fd ps sp)(hr:tY k X.A)(z:Gl X x)(hm:X.mg x=some (.ref f))(hk:W.keepIn X.K (.ref f)=true)(hb:qY X.K fd ps ds)(hd:qI dvs ds)(B:yR CX X E)
  (ha:PA X (e::es) t) (l:(x == ("__debug__" : Str))=false:=by decide) (G:kx (e::es) X.env=(false,eval e X.env)::kx es X.env:=by rfl) (n:(kM pos (kx es X.env)).any (·.1)=false:=by rfl) :
  PE X (.Call (.Name x p) (e::es) [] pos) (xX sp dvs E t):=by
 intro J s σ H Q I h;refine kO (zg I z hm ?_ l);refine W.callWith_K (h₀:=X.base) I.ok.mod.kin hk (uN (ha pos J s σ H _ I h) λus L ⟨M,O,u,r,q⟩=>⟨u.kIn,?_⟩) G n
 exact Rq F hr hb hd B u r q
def aee(M:PE X o ta)(c:Lq X.K C)(hm:yj X.K C m f)(F:yT X.prog X.w X.K X.mg X.base CX k f fd ps sp)(hr:tY k X.A)(hb:qY X.K fd ps ds)(hd:qI dvs ds)(O:yR CX X E)(ha:PA X (e::es) t)
  (n:kx (e::es) X.env=(false,eval e X.env)::kx es X.env:=by rfl) (z:(kM pos (kx es X.env)).any (·.1)=false:=by rfl)
  (ht:eval (.Call (.Attribute o m apos) (e::es) [] pos) X.env=(do
   let B ←eval o X.env
   mH apos.atName
   let (f,first) ←mI [B] (mh B m pl)
   nj pos f first (kM pos (kx (e::es) X.env)) (mF pos (lW [] X.env))):=by rfl) :
  PE X (.Call (.Attribute o m apos) (e::es) [] pos) (afb C m sp dvs E ta t):=by
 intro G s σ H Q I h;refine W.methodCall_KW (pl:=pl) (uN (M G s σ H _ I h) λu P ⟨x,R,J,S,a,dx,fs,ex,T,l,q⟩=>?_) ht
 subst ex;obtain rfl:u=ag a:=S;refine EG J T c hm l ?_;refine W.callWith_K (first:=[.ref a]) (h₀:=X.base) I.ok.mod.kin hm.kp (uN (ha pos G P σ R _ J q) λus s2 ⟨U,H2,L,r,Y⟩=>⟨L.kIn,?_⟩) n z
 exact Rq (us:=.ref a::us) (vs:=.ref a::U) F hr hb hd O L (.cons rfl r) Y
def aah(B:PE X o ta)(c:Lq X.K C)(hm:yj X.K C m f)(F:yT X.prog X.w X.K X.mg X.base CX k f fd ps sp)(hr:tY k X.A)(hb:qY X.K fd ps ds)(hd:qI dvs ds)(G:yR CX X E)
  (ht:eval (.Call (.Attribute o m apos) [] [] pos) X.env=(do
   let z ←eval o X.env
   mH apos.atName
   let (f,first) ←mI [z] (mh z m pl)
   nj pos f first (kM pos (kx [] X.env)) (mF pos (lW [] X.env))):=by rfl) :
  PE X (.Call (.Attribute o m apos) [] [] pos) (afb C m sp dvs E ta xY):=by
 intro J s σ H Q I h;refine W.methodCall_KW (pl:=pl) (uN (B J s σ H _ I h) λu O ⟨x,P,n,L,a,R,fs,ex,M,l,q⟩=>?_) ht
 subst ex;obtain rfl:u=ag a:=L;refine EG n M c hm l ?_;exact W.callWith_K0 (first:=[.ref a]) n.kIn hm.kp (Rq (us:=[.ref a]) (vs:=[.ref a]) F hr hb hd G n (.cons rfl .nil) q)
structure Mk (K:Ζ)(C f:Addr):Prop where
 makes:W.makesIn K C=true
 init:W.findIn K (.ref C) "__init__" = some (some (.ref f))
 fn:W.isFn K (.ref f)=true
 kp:W.keepIn K (.ref C)=true
def XQ{σ:St}(M:Mk X.K C f)(F:yT X.prog X.w X.K X.mg X.base CX k f fd ps sp)(hr:tY (k+1) X.A)(hb:qY X.K fd ps ds)(hd:qI dvs ds)
  (L:yR CX X E) (I:qb X B σ H s) (r:qI vs us)
  (h:∀x n,H x=none->H n=none->n≠x->sp (.ref x::(vs++dvs)) (ri (ri H n (.own x)) x (.ins C n [])) (λv O=>v = .non/\Q (.ref x) O) E) :
  ki (kf X.prog X.w) X.A (call (.ref C) us) (EP X B σ Q) X.xe s:=by
 have G:=h (s.heap.objs.size+1) s.heap.objs.size (I.hok.fresh (bP _)) (I.hok.fresh (ae _)) (aF (cZ _));have z:=qb.made (C:=C) I;have J:qI (V.ref (s.heap.objs.size+1)::(vs++dvs)) (ag (s.heap.objs.size+1)::(us++ds)):=.cons rfl (r.append hd);have hl:(ag (s.heap.objs.size+1)::us++ds).length=ps.length:=by
  have e:=J.length;rw[F.len _ _ _ _ G]at e;exact e.symm
 refine lB (aai (f:=f) I.kIn M.makes M.init (beq_iff_eq.mp M.fn) (lH (F.run _ X.stack _ _ ⟨ag (s.heap.objs.size+1)::us,[]⟩ (ag (s.heap.objs.size+1)::(us++ds)) _ _ E (hr.make C us [])
  (z.env0.make C us []) (hb _ (ag (s.heap.objs.size+1)::us) z.kIn hl) J G) λr P l=>?_))
 cases r with
 |error e=>exact L B σ _ _ e P z l
 |ok fl=>
  cases fl with
  |ret u=>
   obtain⟨v,R,S,T,U,Y⟩:=z.after l;subst U;exact⟨T,⟨V.ref (s.heap.objs.size+1),R,S,rfl,Y⟩⟩
  |next=>exact False.elim l
  |brk=>exact False.elim l
  |cont=>exact False.elim l
def aet(M:Mk X.K C f)(F:yT X.prog X.w X.K X.mg X.base CX k f fd ps sp)(hr:tY (k+1) X.A)(z:Gl X x)(hm:X.mg x=some (.ref C))(hb:qY X.K fd ps ds)(hd:qI dvs ds)(B:yR CX X E)
  (ha:PA X (e::es) t) (l:(x == ("__debug__" : Str))=false:=by decide) (G:kx (e::es) X.env=(false,eval e X.env)::kx es X.env:=by rfl) (n:(kM pos (kx es X.env)).any (·.1)=false:=by rfl) :
  PE X (.Call (.Name x p) (e::es) [] pos) (Yr C sp dvs E t):=by
 intro J s σ H Q I h;refine kO (zg I z hm ?_ l);refine W.callWith_K (h₀:=X.base) I.ok.mod.kin M.kp (uN (ha pos J s σ H _ I h) λus L ⟨O,P,u,r,q⟩=>⟨u.kIn,?_⟩) G n
 exact XQ M F hr hb hd B u r q
structure oU (N P:List Str)(sc:lu):Prop where
 kind:sc.kind = .function
 co:sc.isCoroutine=false
 gen:sc.isGenerator=false
 nd:N.Nodup
 pre:N.take P.length=P
 par:∀x∈P,sc.names.lookup x=some .local∨sc.names.lookup x=some .cell
 nofree:∀y∈sc.names,y.2 ≠ .free
theorem Md{kindOf}:∀{binds}{m:Str->Υ},(∀v,(x,v)∉binds)->nD kindOf binds m x=m x
 | [],_,_=>rfl
 | (n,v)::r,m,h=>by
  unfold nD;rw[Md λw hw=>h w (mCo _ hw)]
  split
  .have:x≠n:=by rintro rfl;exact h v aq
   simp[this]
  .rfl
theorem LO{kindOf}:∀{binds}{m:Str->Υ},(∀v,(x,v)∉binds)->nF kindOf binds m x=m x
 | [],_,_=>rfl
 | (n,v)::r,m,h=>by
  unfold nF;rw[LO λw hw=>h w (mCo _ hw)]
  split
  .rfl
  .have:x≠n:=by rintro rfl;exact h v aq
   simp[this]
theorem Ho{kindOf}:∀{P:List Str}{vs:Ξ}{i:Nat}{m:Str->Υ},P.Nodup->P[i]?=some x->vs[i]?=some v->kindOf x=some .local ->
  nD kindOf (P.zip vs) m x=some v
 | [],_,_,_,_,h,_,_=>by simp at h
 |_::_,[],_,_,_,_,h,_=>by simp at h
 |p::P,w::vs,0,m,nd,h1,h2,hk=>by
  simp at h1 h2;subst h1;subst h2;show nD kindOf ((p,w)::P.zip vs) m p=_;unfold nD;rw[Md λv l=>(ak.mp nd).1 (gc l).1,qf hk]
  simp
 |p::P,w::vs,i+1,m,nd,h1,h2,hk=>by
  show nD kindOf ((p,w)::P.zip vs) m x=_;unfold nD;exact Ho (i:=i) (ak.mp nd).2 (by simpa using h1) (by simpa using h2) hk
theorem GY{kindOf}:∀{P:List Str}{vs:Ξ}{i:Nat}{m:Str->Υ},P.Nodup->P[i]?=some x->vs[i]?=some v->kindOf x≠some .local ->
  nF kindOf (P.zip vs) m x=some v
 | [],_,_,_,_,h,_,_=>by simp at h
 |_::_,[],_,_,_,_,h,_=>by simp at h
 |p::P,w::vs,0,m,nd,h1,h2,hk=>by
  simp at h1 h2;subst h1;subst h2;show nF kindOf ((p,w)::P.zip vs) m p=_;unfold nF;rw[LO λv l=>(ak.mp nd).1 (gc l).1,qj hk]
  simp
 |p::P,w::vs,i+1,m,nd,h1,h2,hk=>by
  show nF kindOf ((p,w)::P.zip vs) m x=_;unfold nF;exact GY (i:=i) (ak.mp nd).2 (by simpa using h1) (by simpa using h2) hk
noncomputable def vm(N:List Str)(vs:List V):St:=vs.map some++aE (N.length-vs.length) none
noncomputable def Hm(CX:PQ)(P:kr)(w:kz)(K:Ζ)(mg:Str->Υ)(base:Heap)(N:List Str)(l:Str)(scope:lu)(f:Addr)(t:Value)(A:Around)(outer:List Env)(s:kc)(H:Hp)(E:XK):Cx where
 prog:=P
 w:=w
 K:=K
 mg:=mg
 base:=base
 A:=A.deeper (kH l scope s.heap.objs.size f t)
 N:=N
 s₀:=s
 H₀:=H
 env:=kH l scope s.heap.objs.size f t
 outer:=outer
 stack:=kH l scope s.heap.objs.size f t::outer
 ex:=[]
 calm:=true
 fn:=λ_=>true
 pn:=[]
 xe:=λe s'=>ki (kf P w) (A.deeper (kH l scope s.heap.objs.size f t)) (ot (kH l scope s.heap.objs.size f t) e) (λ_ n=>CX outer H s E e n) (λu n=>CX outer H s E u n) s'
def Gc{sc:lu}(h:sc.names.lookup x=some .cell):∃c,(nC n sc.names []).lookup x=some c:=by
 have q:=W.cellsFrom_some sc.names n [] (.inl h);exact Option.isSome_iff_exists.mp q
def WS{K}
  (S:oU N ps scope) (hd:A.handled=none) (B:Nw P w K mg base A outer s H) (hl:vs.length=ps.length) (r:qI vs us)
  (x:InCallC s s.heap.objs.size (nD (kH l scope s.heap.objs.size f M).kindOf (ps.zip us) λ_=>none) (nC (s.heap.objs.size+1) scope.names []) (nF (kH l scope s.heap.objs.size f M).kindOf (ps.zip us) λ_=>none) s1) :
  qb (Hm CX P w K mg base N l scope f M A outer s H E) [] (vm N vs) H s1:=by
 have R:ps.length<=N.length:=by have:=congrArg bU S.pre;rw[lTq]at this;lia
 obtain⟨O,U,rfl,hk⟩:=x.done;have G:∀b:Addr,b∉(Hm CX P w K mg base N l scope f M A outer s H E).ex:=λb z=>absurd (show b∈([]:Δ)from z) ⋯
 refine⟨⟨B.mod,S.kind,rfl,rfl,ae _,λy z c O t=>?_,λy I=>?_,λy c _ h=>?_,λ_=>hd,Around.frames_deeper B.frames,.inr ⟨rfl,rfl⟩,λb z=>absurd z (G b),B.bs,B.bsz,λb _ _=>G b,λb z=>absurd z (G b),B.funs,B.frf⟩,
  rfl,B.bare,Un.kept hk,⟨_,x.toInCall.ns,λi y v O t X=>?_⟩,λy c h=>⟨_,x.cell y c h⟩,B.hok.fresh (ae _),λy c h=>?_,λp J=>absurd (show p∈([]:Φ)from J) ⋯,B.hok.kept hk,?_⟩
 .exact name_of_addr x.apart (PySem.mem_of_lookup O) (PySem.mem_of_lookup t)
 .have I:scope.names.lookup y=some .cell∨scope.names.lookup y=some .free:=I;rcases I with I|I
  .exact Gc I
  .exact absurd rfl (S.nofree _ (PySem.mem_of_lookup I))
 .exact bZ (x.above y c (PySem.mem_of_lookup h))
 .have hi:i<vs.length:=by
   unfold vm at t
   by_cases hi:i<vs.length
   .exact hi
   .rw[gYq (by simpa using hi)]at t
    rw[bR]at t;split at t <;> cases t
  have ha:vs[i]?=some v:=by
   unfold vm at t;rw[gZq (by simpa using hi),gMq]at t
   cases e:vs[i]? with
   |none=>rw[e]at t;cases t
   |some a=>rw[e]at t;cases t;rfl
  obtain⟨u,Q,T⟩:=r.get ha;have J:ps[i]?=some y:=by
   rw[←S.pre,cG ∅];exact O
  have L:ps.Nodup:=by rw[←S.pre];exact S.nd.sublist (bj _ _)
  refine⟨u,T,?_⟩;rcases S.par y (mGq J)with k|k
  .exact .inl ⟨k,Ho L J Q k⟩
  .obtain⟨c,e⟩:=Gc (n:=s.heap.objs.size+1) k;refine .inr ⟨.inl k,c,e,?_⟩;have q:=x.cell y c e;rw[GY L J Q (by show scope.names.lookup y≠_;rw[k];decide)]at q
   exact q
 .exact B.hok.fresh (bZ (x.above y c (PySem.mem_of_lookup h)))
 .unfold vm;show _=N.length;rw[lAq,lMq,bG];lia
def af1{K:Ζ}{kV}
  {osl:Array Υ}(lk:K.lookup f=some ⟨oc,od,.func (W.fnOf G l z body scope dV kV U pm an M ct),osl⟩) (hcd:W.codeIn K M l=true) (S:oU N ps scope)
  (len:∀vs H Q E,sp vs H Q E->vs.length=ps.length)
  (O:∀A outer s H vs Q E,tY k (A.deeper (kH l scope s.heap.objs.size f M))->sp vs H Q E ->
   ∃t,KJ (Hm CX P w K mg base N l scope f M A outer s H E) body t/\t { nx:=λ_ L=>Q .non L,rt:=Q } (vm N vs) H) :
  yT P w K mg base CX (k+1) f (W.fnOf G l z body scope dV kV U pm an M ct) ps sp:=by
 refine⟨len,λA outer s H args us vs Q E hr X hb r Y=>?_⟩
 have hl:=len _ _ _ _ Y;have KX:K.In s.heap:=X.mod.kin.keeps λb o e=>(X.bs b o e).1
 have lim:s.heap.NoLimit:=X.mod.nolimit.keeps λb o e=>(X.bs b o e).1
 have R:∀y∈ps.zip us,scope.names.lookup y.1=some .local∨(scope.names.lookup y.1=some .cell/\((nC (s.heap.objs.size+1) scope.names []).lookup y.1).isSome=true):=λ⟨n,v⟩ hy=>by
  rcases S.par n (gc hy).1 with q|q
  .exact .inl q
  .exact .inr ⟨q,W.cellsFrom_some _ _ _ (.inl q)⟩
 refine nT hr.depth (KX _ _ lk) rfl S.co S.gen rfl (W.codeRec_of KX hcd) (hb _ _ _ _ ?_);refine mL S.kind R λenv he s1 x=>?_
 subst he;refine⟨lim.keeps x.toInCall.keep,codeAny_func ?_⟩;obtain⟨t,ht,hq⟩:=O A outer s H vs Q E (hr.deeper _) Y;have I:qb (Hm CX P w K mg base N l scope f M A outer s H E) [] (vm N vs) H s1:=WS S hr.hd X hl r x;refine kG (ht [] s1 (vm N vs) H _ I hq) (λfl s' T=>?_) λe s' T=>T
 have fin:∀{B:St}{L:Hp}{v:V}{u:Value},qb (Hm CX P w K mg base N l scope f M A outer s H E) [] B L s'->rK v u->Q v L->CE outer P w H s Q u s':=
  λ{B L v u} J rv q=>⟨v,L,J.os,J.bare,J.base,J.hok,rv,q⟩
 cases fl with
 |ret u=>
  obtain⟨v,B,L,J,rv,q⟩:=T;exact fin J rv q
 |next=>
  obtain⟨B,L,J,q⟩:=T;exact fin (v:=V.non) (u:=cU) J rfl q
 |brk=>
  obtain⟨_,_,_,q⟩:=T;exact False.elim q
 |cont=>
  obtain⟨_,_,_,q⟩:=T;exact False.elim q
section
variable {id:String}
def tCB(r:List V->Hp->VK->Prop)(t:TA):TE:=λσ H Q=>t σ H λvs l=>r vs l Q
def qr(z:uX X (.builtin id) r)(B:Gl X x)(hm:X.mg x=none)(E:lI x=some (.builtin id))(ha:PA X (e::es) t)(hn:x ≠ "__name__" := by decide)(l:(x == ("__debug__" : Str))=false:=by decide)
  (G:kx (e::es) X.env=(false,eval e X.env)::kx es X.env:=by rfl) (n:(kM pos (kx es X.env)).any (·.1)=false:=by rfl):PE X (.Call (.Name x p) (e::es) [] pos) (tCB r t):=by
 intro u s σ H Q I h;refine kO (JO I B hm E ?_ hn l);exact fX (uN (ha pos u s σ H _ I h) λus J ⟨L,M,O,P,q1⟩=>z u J σ M L us Q O P q1) G n
def Mm(z:uX X (.type T) r)(B:Gl X x)(hm:X.mg x=none)(E:lI x=some (.type T))(ha:PA X (e::es) t)(hn:x ≠ "__name__" := by decide)(l:(x == ("__debug__" : Str))=false:=by decide)
  (G:kx (e::es) X.env=(false,eval e X.env)::kx es X.env:=by rfl) (n:(kM pos (kx es X.env)).any (·.1)=false:=by rfl):PE X (.Call (.Name x p) (e::es) [] pos) (tCB r t):=by
 intro u s σ H Q I h;refine kO (JO I B hm E ?_ hn l);exact eI (uN (ha pos u s σ H _ I h) λus J ⟨L,M,O,P,q1⟩=>z u J σ M L us Q O P q1) G n
end
end L2
namespace HT
open PySem PyProof.Rows
noncomputable def vn:Ϝ->Ϝ->Bool
 | [],[]=>false
 | [],_::_=>true
 |_::_,[]=>false
 |x::xs,y::l=>if x=y then vn xs l else decide (x<y)
def Br x y(xs l:Ϝ):vn (x::xs) (y::l)=if x=y then vn xs l else decide (x<y):=rfl
def KP:vn [] []=false:=rfl
def Jg y(l:Ϝ):vn [] (y::l)=true:=rfl
def IM x(xs:Ϝ):vn (x::xs) []=false:=rfl
def ZS(A)s a t c u:∃e,SeqAt.EqAt A s (.int a t) (.int c u) e/\(e=true↔a=c):=
 ⟨(a == c),SeqAt.EqAt.int_int a t c u,by simp⟩
def XG(A)s a t c u prog w E Q(h:Q (.bool (decide (a<c))) s) :
  ki (kf prog w) A (richCompare .Lt (.int a t) (.int c u)) Q E s:=
 (ka h:ki (kf prog w) A (kU .Lt (.int a t) (.int c u)) Q E s)
def ae0{vs l:Ξ}(ht:IsTup s.heap t vs.toArray)(hb:IsTup s.heap b l.toArray)(I:vs≠[])
  (R:l=[]->Q (.ref t) s) (S:l≠[]->Q (.ref s.heap.objs.size) { s with heap:=s.heap.push { cls:=.type "tuple", data:=.seq (vs++l).toArray } })
  (hsz:vs.length+l.length<=ku):ki (kf prog w) A (lG .Add (.ref t) (.ref b)) Q E s:=by
 obtain⟨⟨cls,J,data,L⟩,H,M,n,hd⟩:=id ht;obtain⟨⟨O,x,data2,z⟩,u,B,P,G⟩:=id hb;simp only at M hd B G;subst M hd B G;have e:vs.toArray++l.toArray=(vs++l).toArray:=by simp
 by_cases hw:l=[]
 .exact concat_meets ⟨_,H,rfl⟩ ⟨_,u,rfl⟩ noFill_tuple_add seq_tuple_add iw ie (hV _ _)
   (tuple_addW1 t b vs.toArray l.toArray n P J x L z (by simpa using I) (by simp[hw])) ⟨H,u,R hw⟩
 .refine concat_meets ⟨_,H,rfl⟩ ⟨_,u,rfl⟩ noFill_tuple_add seq_tuple_add iw ie (hV _ _)
   (tuple_addW2 t b vs.toArray l.toArray n P J x L z (by simpa using I) (by simpa using hw) (by rw[aB,aB];exact hsz)) ⟨H,u,?_⟩
  rw[e];exact S hw
noncomputable def L9(n d:Nat):Option Int->Nat
 |none=>d
 |some v=>if v<0 then (v+(n:Int)).toNat else min v.toNat n
def Js n d:L9 n d none=d:=rfl
def DI(n d k:Nat):L9 n d (some (k:Int))=min k n:=by
 show(if (k:Int)<0 then ((k:Int)+(n:Int)).toNat else min (k:Int).toNat n)=min k n
 rw[qj ∅,fq]
end HT
namespace L2
open PySem PySem.Spec PyProof.Rows
abbrev TO:=St->Hp->(Option Int->Hp->Prop)->Prop
def PO(X:Cx)(e:Option Expr)(t:TO):Prop:=
 ∀l s (σ:St) H Q,qb X l σ H s->t σ H Q ->
  ki (kf X.prog X.w) X.A (evalPart e X.env) (λu s'=>∃o n,qb X l σ n s'/\IsPart u o/\Q o n) X.xe s
def T8:TO:=λ_ H Q=>Q none H
def afP(t:TE):TO:=λσ H Q=>t σ H λx l=>∃i,x = .int i/\Q (some i) l
def EB{ns:Ϝ}:∀{us},qI (ns.map V.int) us->kZ us ns:=by
 induction ns with
 |nil=>intro us r;rw[fg]at r;cases r;exact .nil
 |cons n ns l=>
  intro us r;rw[aw]at r;cases r with
  |cons s u=>
   obtain⟨t,e⟩:=s;subst e;exact .cons n t (l u)
section
variable {lo:Option Expr}
def GB:PO X none T8:=by
 intro l s σ H Q I h;rw[evalPart_none];exact kC ⟨none,H,I,.none,h⟩
def B0(h:PE X e te):PO X (some e) (afP te):=by
 intro l s σ H Q I hw;rw[evalPart_some];refine uN (h l s σ H _ I hw) λu E ⟨x,n,z,B,q1⟩=>?_
 obtain⟨i,rfl,q⟩:=q1;obtain⟨t,rfl⟩:=B;exact⟨some i,n,z,.int i t,q⟩
def SlR(X:Cx)(r:V->Option Int->Option Int->Hp->VK->Prop):Prop:=
 ∀l s (σ:St) H x v n t lo hi u Q,qb X l σ H s->rK x v->s.heap.IsSliceOf u n t .none->IsPart n lo->IsPart t hi->r x lo hi H Q ->
  ∃T id,kE (.type T) "__getitem__" = pure (some (.builtin id))/\s.TypeIs v T/\ki (kf X.prog X.w) X.A (nV v (.ref u)) (EP X l σ Q) X.xe s
def tSl(r:V->Option Int->Option Int->Hp->VK->Prop)(te:TE)(tl th:TO):TE:=λσ H Q=>te σ H λx n=>tl σ n λl s=>th σ s λu t=>r x l u t Q
def Bc(hr:SlR X r)(G:PE X e te)(hl:PO X lo tl)(J:PO X hi th):PE X (.Subscript e (.Slice lo hi none p2) pos) (tSl r te tl th):=by
 intro t s σ H Q I h;refine Subscript_ (uN (G t s σ H _ I h) λv L ⟨x,M,O,P,q1⟩=>?_)
 refine wpAny_Slice (uN (hl t L σ M _ O q1) λz R ⟨l,S,U,Y,q2⟩=>uN (J t R σ S _ U q2) λB n ⟨u,E,I3,pu,q3⟩=>?_)
 rw[evalPart_none];refine kC ?_;have I4:qb X t σ E { n with heap:=n.heap.push { cls:=.type "slice", data:=.fields #[z,B,.none] } }:=I3.kept (t':=n.toks) λb ob q=>aa _ q
 obtain⟨T,id,hT,ht,hg⟩:=hr t { n with heap:=n.heap.push { cls:=.type "slice", data:=.fields #[z,B,.none] } } σ E x v z B l u n.heap.objs.size Q I4 P (Heap.IsSliceOf.new ..) Y pu q3
 show ki (kf X.prog X.w) X.A (oh e (.Slice lo hi none p2) v (.ref n.heap.objs.size)) (EP X t σ Q) X.xe { n with heap:=n.heap.push { cls:=.type "slice", data:=.fields #[z,B,.none] } }
 exact tail_any (ops:=[.ref n.heap.objs.size,v]) ht hT hg (by with_unfolding_all rfl)
def Wl(xs:List V)(lo hi:Option Int):List V:=(xs.drop (HT.L9 xs.length 0 lo)).take (HT.L9 xs.length xs.length hi-HT.L9 xs.length 0 lo)
def O8(xs)lo hi:(Wl xs lo hi).length<=xs.length:=by
 unfold Wl;rw[lTq,aC];lia
def afA(K:Ζ):R2:=λx y H Q=>∃a b xs l,x = .ref a/\y = .ref b/\GW K H a xs/\GW K H b l/\xs≠[]/\xs.length+l.length<=ku /\
 (l=[]->Q (.ref a) H)/\(l≠[]->∀p,H p=none->Q (.ref p) (ri H p (.tup (xs++l))))
def qI.nil_iff(r:qI xs us):us=[]↔xs=[]:=by
 cases r with
 |nil=>simp
 |cons _ _=>simp
def acp:Ip X (lG .Add) (afA X.K):=by
 intro S s σ H x y v u Q I E G h;obtain⟨a,b,J,L,rfl,rfl,ha,hb,M,t,q1,O⟩:=h;cases E;cases G;obtain⟨P,n,R,_⟩:=I.tuple ha;obtain⟨B,l,p2,_⟩:=I.tuple hb;refine HT.ae0 R p2 (λz=>M (n.nil_iff.mp z)) (λz=>⟨.ref a,H,I,rfl,q1 (l.nil_iff.mp z)⟩) (λz=>?_) (by rw[←n.length,←l.length];exact t)
 refine⟨.ref s.heap.objs.size,_,I.laid (t':=s.toks) (o:=.tup (J++L)) (λb T q=>aa _ q) (ae _) ?_,rfl,O (λw=>z (l.nil_iff.mpr w)) _ (I.hok.fresh (ae _))⟩
 exact⟨by rw[lAq];exact t,_,n.append l,IsTup.new _ _⟩
end
noncomputable def ON(n:Nat)(i:Int):Option Nat:=if 0<=i then (if i<n then some i.toNat else none)else if -(n:Int)<=i then some (i+n).toNat else none
def atI{α:Type}(xs:List α)(i:Int):Option α:=(ON xs.length i).bind λj=>xs[j]?
def Ux(h:ON n i=some j):om i n=some j/\j<n/\-(n:Int)<=i/\i<n:=by
 unfold ON at h
 by_cases s:0<=i
 .rw[qf s]at h
  by_cases l:i<n
  .rw[qf l]at h;have e:i.toNat=j:=aY.inj h;exact⟨by rw[seqIndex_of s l,e],by lia,by lia,l⟩
  .rw[qj l]at h;cases h
 .rw[qj s]at h
  by_cases l:-(n:Int)<=i
  .rw[qf l]at h;have e:(i+n).toNat=j:=aY.inj h;exact⟨by rw[seqIndex_neg ∅ l,e],by lia,l,by lia⟩
  .rw[qj l]at h;cases h
def UW{xs:List α}{v}(h:atI xs i=some v):∃j,om i xs.length=some j/\xs[j]?=some v/\j<xs.length/\-(xs.length:Int)<=i/\i<xs.length:=by
 unfold atI at h;cases e:ON xs.length i with
 |none=>rw[e]at h;cases h
 |some j=>
  rw[e]at h;obtain⟨l,n,s,t⟩:=Ux e;exact⟨j,l,h,n,s,t⟩
def yr{xs:List α}{j:Nat}{v}(h:xs[j]?=some v):atI xs (j:Int)=some v:=by
 have l:j<xs.length:=(gSq.mp h).1;have e:ON xs.length (j:Int)=some j:=by
  unfold ON;rw[qf ∅,qf ∅];simp
 unfold atI;rw[e];exact h
def E9(xs:List α)v:atI (xs++[v]) (-1)=some v:=by
 have hl:(xs++[v]).length=xs.length+1:=by simp
 have e:ON (xs++[v]).length (-1)=some xs.length:=by
  unfold ON;rw[hl,qj ⋯,qf ∅]
  congr 1;lia
 unfold atI;rw[e];show(xs++[v])[xs.length]?=some v;simp
def adl(b:Expr):Prop:=∀o i,nK b false o i=operate [o,i] (nV o i)
def KF(X:Cx)(r:R2):Prop:=
 ∀n l t s (σ:St) H x y v u Q,qb X t σ H s->rK x v->rK y u->r x y H Q ->
  nK l false v u=operate [v,u] (nV v u)->ki (kf X.prog X.w) X.A (oh n l v u) (EP X t σ Q) X.xe s
def MtR(X:Cx)(id:String)(r:V->List V->Hp->VK->Prop):Prop:=
 ∀l s (σ:St) H x xs v us Q,qb X l σ H s->rK x v->qI xs us->r x xs H Q ->
  ki (kf X.prog X.w) X.A (call (.builtin id) (v::us)) (EP X l σ Q) X.xe s
section
def KF.or(h:KF X r)(h':KF X r'):KF X (λx y H Q=>r x y H Q∨r' x y H Q):=by
 intro l n t s σ H x y v u Q I z B q E;rcases q with q|q
 .exact h l n t s σ H x y v u Q I z B q E
 .exact h' l n t s σ H x y v u Q I z B q E
def tG(hr:KF X r)(ha:PE X a ta)(hb:PE X b tb)(l:adl b):PE X (.Subscript a b pos) (tOp r ta tb):=by
 intro n s σ H Q I h;exact Subscript_ (agC ha hb I h λv u t x y z B E G q=>hr a b n t σ z x y v u Q B E G q (l _ _))
def X1(K:Ζ):R2:=λx y H Q=>∃p xs i v,x = .ref p/\y = .int i/\uO K H p xs/\atI xs i=some v/\Q v H
def agW(K:Ζ):R2:=λx y H Q=>∃p xs i v,x = .ref p/\y = .int i/\GW K H p xs/\atI xs i=some v/\Q v H
def qm:KF X (X1 X.K):=by
 intro n B M s σ H x y v u Q I S T h O;obtain⟨p,xs,i,z,rfl,rfl,U,Y,q⟩:=h;cases S;obtain⟨t,rfl⟩:=T;obtain⟨E,r,G,hz⟩:=I.list U;obtain⟨j,l,h2,h3,h4,h5⟩:=UW Y;obtain⟨w,P,J⟩:=r.get h2;have hl:=r.length;have hn:=Os;have fin:EP X M σ Q w s:=⟨z,H,I,J,q⟩
 by_cases R:0<=i
 .have L:i.toNat=j:=by
   rw[seqIndex_of R h5]at l;exact aY.inj l
  exact item_listR G.isList R ∅ (by rw[L];simpa using P) fin O
 .have L:(i+(E.toArray.size:Int)).toNat=j:=by
   rw[seqIndex_neg ∅ h4]at l
   rw[aB,←hl];exact aY.inj l
  exact nI (x:=w) G.isList.typeIs slot_list_getitem.lookup
   (wpAny_getItem_list_neg (Q:=λr s'=>r=w/\EP X M σ Q r s') G.isList ∅ (by rw[aB] <;> lia) ∅ (by rw[L];simpa using P) ⟨rfl,fin⟩) O
def wk:KF X (agW X.K):=by
 intro l n E s σ H x y v u Q I J L h M;obtain⟨p,xs,i,z,rfl,rfl,O,P,q⟩:=h;cases J;obtain⟨t,rfl⟩:=L;obtain⟨R,r,G,hz⟩:=I.tuple O;obtain⟨j,S,T,h3,h4,h5⟩:=UW P;obtain⟨w,U,B⟩:=r.get T;have hl:=r.length;have hn:=Os;have fin:EP X E σ Q w s:=⟨z,H,I,B,q⟩;exact nI (x:=w) G.typeIs slot_tuple_getitem.lookup
  (getItem_tuple (j:=j) (Q:=λr Y=>r=w/\EP X E σ Q r Y) G ∅ ∅ (by rw[aB,←hl];exact S) (by simpa using U) ⟨rfl,fin⟩) M
def OG(lo hi)n:(lV lo hi none n).1=((HT.L9 n 0 lo:Nat):Int)/\(lV lo hi none n).2.1=((HT.L9 n n hi:Nat):Int)/\(lV lo hi none n).2.2=1:=by
 refine⟨?_,?_,rfl⟩
 .cases lo with
  |none=>simp[lV,HT.L9]
  |some i=>
   simp only[lV,HT.L9,jv,show(1:Int)>0 by decide,if_true]
   by_cases h:i<0
   .simp only[h,if_true] <;> lia
   .simp only[h,if_false] <;> lia
 .cases hi with
  |none=>simp[lV,HT.L9]
  |some i=>
   simp only[lV,HT.L9,jv,show(1:Int)>0 by decide,if_true]
   by_cases h:i<0
   .simp only[h,if_true] <;> lia
   .simp only[h,if_false] <;> lia
def Le(l:Ξ)lo hi:slicePick l.toArray lo hi none=((l.drop (HT.L9 l.length 0 lo)).take (HT.L9 l.length l.length hi-HT.L9 l.length 0 lo)).toArray:=by
 obtain⟨n,s,t⟩:=OG lo hi l.toArray.size;unfold slicePick;rw[n,s,t];simp only[sliceRange_one,pick_run,aB] <;> rfl
def akg(K:Ζ):V->Option Int->Option Int->Hp->VK->Prop:=λx lo hi H Q=>∃a xs,x = .ref a/\uO K H a xs/\∀p,H p=none->Q (.ref p) (ri H p (.lst (Wl xs lo hi)))
def DC:SlR X (akg X.K):=by
 intro L s σ H x v M O lo hi P Q I t u z B h;obtain⟨a,l,rfl,E,q⟩:=h;cases t;obtain⟨G,r,ht,J⟩:=I.list E;have n:=r.length;refine⟨"list", _,slot_list_getitem.lookup,ht.isList.typeIs,?_⟩;refine wpAny_getItem_list_slice ht.isList u z B .none ⋯ ?_ (by rw[aB] <;> lia)
 rw[Le,←n];refine⟨.ref s.heap.objs.size,_,I.laid (t':=s.toks) (o:=.lst (Wl l lo hi)) (λb R q=>aa _ q) (ae _) ?_,rfl,q _ (I.hok.fresh (ae _))⟩
 exact⟨aZ (O8 l lo hi) J,_,0,(r.drop (HT.L9 l.length 0 lo)).take (HT.L9 l.length l.length hi-HT.L9 l.length 0 lo),bf _ rfl⟩
noncomputable def Eb:V->Bool
 | .non=>true
 | .bl _=>true
 | .int _=>true
 | .str _=>true
 |_=>false
noncomputable def eqV:V->V->Bool
 | .non,.non=>true
 | .bl a,.bl b=>a == b
 | .bl a,.int b=>(if a then 1 else 0) == b
 | .int a,.bl b=>a == (if b then 1 else 0)
 | .int a,.int b=>a == b
 | .str a,.str b=>a == b
 |_,_=>false
def ahM(z:rK y u)(l:rK x v)(E:Eb y=true)(B:Eb x=true):SeqAt.EqAt A s u v (eqV y x):=by
 cases y with
 |non=>
  cases z;cases x with
  |non=>cases l;exact SeqAt.EqAt.same _
  |bl b=>cases l;exact SeqAt.EqAt.none_bool b
  |int b=>obtain⟨t,rfl⟩:=l;exact SeqAt.EqAt.none_int b t
  |str b=>obtain⟨t,rfl⟩:=l;exact SeqAt.EqAt.none_str b t
  |_=>exact absurd (show false=true from B) aD
 |bl a=>
  cases z;cases x with
  |non=>cases l;exact SeqAt.EqAt.bool_none a
  |bl b=>cases l;exact SeqAt.EqAt.bool_bool a b
  |int b=>obtain⟨t,rfl⟩:=l;exact SeqAt.EqAt.bool_int a b t
  |str b=>obtain⟨t,rfl⟩:=l;exact SeqAt.EqAt.bool_str a b t
  |_=>exact absurd (show false=true from B) aD
 |int a=>
  obtain⟨n,rfl⟩:=z;cases x with
  |non=>cases l;exact SeqAt.EqAt.int_none a n
  |bl b=>cases l;exact SeqAt.EqAt.int_bool a n b
  |int b=>obtain⟨t,rfl⟩:=l;exact SeqAt.EqAt.int_int a n b t
  |str b=>obtain⟨t,rfl⟩:=l;exact SeqAt.EqAt.int_str a n b t
  |_=>exact absurd (show false=true from B) aD
 |str a=>
  obtain⟨n,rfl⟩:=z;cases x with
  |non=>cases l;exact SeqAt.EqAt.str_none a n
  |bl b=>cases l;exact SeqAt.EqAt.str_bool a n b
  |int b=>obtain⟨t,rfl⟩:=l;exact SeqAt.EqAt.str_int a n b t
  |str b=>obtain⟨t,rfl⟩:=l;exact SeqAt.EqAt.str_str a n b t
  |_=>exact absurd (show false=true from B) aD
 |_=>exact absurd (show false=true from E) aD
def R5(x:V)(u:Value):Bool:=match u with
 | .none=>eqV .non x
 | .bool b=>eqV (.bl b) x
 | .int i _=>eqV (.int i) x
 | .str z _=>eqV (.str z) x
 |_=>false
def Y8(r:rK y u)(f:Eb y=true):R5 x u=eqV y x:=by
 cases y with
 |non=>cases r;rfl
 |bl b=>cases r;rfl
 |int i=>obtain⟨t,rfl⟩:=r;rfl
 |str z=>obtain⟨t,rfl⟩:=r;rfl
 |_=>exact absurd (show false=true from f) aD
theorem Fb:∀{xs}{us},qI xs us->xs.all Eb=true->us.any (R5 x)=xs.any λy=>eqV y x
 |_,_,.nil,_=>rfl
 |y::xs,u::us,.cons r t,f=>by
  rw[eS,dU]at f;rw[dF,dF,Y8 r f.1,Fb t f.2]
theorem Da(n:rK x v)(z:Eb x=true):∀{xs}{us},qI xs us->xs.all Eb=true->∀u∈us,SeqAt.EqAt A s u v (R5 x u)
 |_,_,.nil,_=>λu l=>by cases l
 |y::xs,u::us,.cons r t,f=>λB l=>by
  rw[eS,dU]at f;rcases ah.mp l with rfl|l
  .rw[Y8 r f.1];exact ahM r n f.1 z
  .exact Da n z t f.2 B l
def inV(x:V)(xs:List V):Bool:=xs.any λy=>eqV y x
def rIn(K:Ζ)(neg:Bool):R2:=λx y H Q=>∃p xs,y = .ref p/\(uO K H p xs∨GW K H p xs)/\Eb x=true/\xs.all Eb=true/\Q (.bl (if neg then !inV x xs else inV x xs)) H
def Mf:Ip X (kU .In) (rIn X.K false):=by
 intro J s σ H x y v u Q I z E h;obtain⟨p,L,rfl,n,B,fs,q⟩:=h;cases E;rcases n with n|n
 .obtain⟨l,r,t,G⟩:=I.list n;refine SeqAt.in_listAt (R5 x) t.isList (λw hw=>Da z B r fs w (by simpa using hw)) ⟨.bl _,H,I,rfl,?_⟩
  rw[show l.toArray.any (R5 x)=l.any (R5 x) by simp,Fb r fs]
  exact q
 .obtain⟨l,r,t,G⟩:=I.tuple n;refine SeqAt.in_tupleAt (R5 x) t (λw hw=>Da z B r fs w (by simpa using hw)) ⟨.bl _,H,I,rfl,?_⟩
  rw[show l.toArray.any (R5 x)=l.any (R5 x) by simp,Fb r fs]
  exact q
def zc:Ip X (kU .NotIn) (rIn X.K true):=by
 intro J s σ H x y v u Q I z E h;obtain⟨p,L,rfl,n,B,fs,q⟩:=h;cases E;rcases n with n|n
 .obtain⟨l,r,t,G⟩:=I.list n;refine SeqAt.notIn_listAt (R5 x) t.isList (λw hw=>Da z B r fs w (by simpa using hw)) ⟨.bl _,H,I,rfl,?_⟩
  rw[show l.toArray.any (R5 x)=l.any (R5 x) by simp,Fb r fs]
  exact q
 .obtain⟨l,r,t,G⟩:=I.tuple n;refine SeqAt.notIn_tupleAt (R5 x) t (λw hw=>Da z B r fs w (by simpa using hw)) ⟨.bl _,H,I,rfl,?_⟩
  rw[show l.toArray.any (R5 x)=l.any (R5 x) by simp,Fb r fs]
  exact q
def uX.or(h:uX X f r)(h':uX X f r'):uX X f (λxs H Q=>r xs H Q∨r' xs H Q):=by
 intro l s σ H xs us Q I n q;rcases q with q|q
 .exact h l s σ H xs us Q I n q
 .exact h' l s σ H xs us Q I n q
def GN:uX X (.type "list") (λxs H Q=>∃p z,xs=[.ref p]/\(uO X.K H p z∨GW X.K H p z)/\∀l,H l=none->Q (.ref l) (ri H l (.lst z))):=by
 intro S s σ H xs us Q I r h;obtain⟨p,z,rfl,G,q⟩:=h;obtain⟨u,rfl,T⟩:=HA r;cases T;have fin:∀(t:Ξ),qI z t->z.length<=ku->∀(x:Heap) (B:Nat),(∀b R,s.heap.get? b=some R->x.get? b=some R) ->
   x.get? s.heap.objs.size=some { cls:=.type "list", dict:=none,data:=.seq t.toArray B,slots:=#[] }->EP X S σ Q (.ref s.heap.objs.size) { s with heap:=x }:=λt E J x B kp e=>
  ⟨.ref s.heap.objs.size,_,I.laid (t':=s.toks) kp (ae _) (show sI X.prog X.w _ x _ (.lst z)from ⟨J,t,B,E,e⟩),rfl,q _ (I.hok.fresh (ae _))⟩
 rcases G with G|G
 .obtain⟨t,E,M,J⟩:=I.list G;have L:=E.length;obtain⟨o,O,P,n,hd⟩:=M.isList;exact call_list_seq p (.inl rfl) O P hd (λx B kp e=>fin t E J x B kp e) (by simp only[aB] <;> lia)
 .obtain⟨t,E,M,J⟩:=I.tuple G;have L:=E.length;obtain⟨o,O,P,n,hd⟩:=M;exact call_list_seq p (.inr rfl) O P hd (λx B kp e=>fin t E J x B kp e) (by simp only[aB] <;> lia)
def tyV(K:Ζ)(T:String)(x:V)(H:Hp):Prop:=match x with
 | .str _=>T = "str"
 | .int _=>T = "int"
 | .ref p=>(T = "list" /\ ∃xs,uO K H p xs)∨(T = "tuple" /\ ∃o,K.lookup p=some o/\o.cls = .type "tuple" /\ o.dict=none) ∨
   (T = "dict" /\ ((∃l,H p=some (.dK l))∨∃l,H p=some (.dT l)))∨(T = "set" /\ ∃S n,H p=some (.set S n))
 |_=>False
def Y2{σ:St}(I:qb X E σ H s)(r:rK x v)(ty:tyV X.K T x H) :
  s.TypeIs v T/\∀a,v = .ref a->∃u,s.heap.get? a=some u/\u.dict=none:=by
 cases x with
 |str z=>
  obtain⟨t,rfl⟩:=r;cases(show T = "str" from ty)
  exact⟨typeIs_str s z t,λ_ e=>nomatch e⟩
 |int i=>
  obtain⟨t,rfl⟩:=r;cases(show T = "int" from ty)
  exact⟨typeIs_int s i t,λ_ e=>nomatch e⟩
 |ref p=>
  cases r;rcases ty with⟨rfl,O,G⟩|⟨rfl,o,hk,J,hd⟩|⟨rfl,hk⟩|⟨rfl,S,n,hk⟩
  .obtain⟨L,_,B,_⟩:=I.list G;refine⟨B.isList.typeIs,λa e=>?_⟩
   cases e;obtain⟨o,n,e,c,hd,_⟩:=B;exact⟨o,e,hd⟩
  .refine⟨⟨o,I.kIn p o hk,J⟩,λa e=>?_⟩
   cases e;exact⟨o,I.kIn _ o hk,hd⟩
  .have z:∃o,s.heap.get? p=some o/\o.ExactDict:=by
    rcases hk with⟨M,hk⟩|⟨M,hk⟩
    .obtain⟨_,_,_,_,o,_,_,e,ex,_⟩:=I.hok p _ hk;exact⟨o,e,ex⟩
    .obtain⟨_,_,_,_,o,_,_,e,ex,_⟩:=I.hok p _ hk;exact⟨o,e,ex⟩
   obtain⟨o,e,ex⟩:=z;refine⟨⟨o,e,ex.1⟩,λa l=>?_⟩
   cases l;exact⟨o,e,ex.2.1⟩
  .obtain⟨o,_,_,_,e,ex,_⟩:=I.hok p _ hk;refine⟨⟨o,e,ex.1⟩,λa l=>?_⟩
   cases l;exact⟨o,e,ex.2.1⟩
 |_=>exact False.elim ty
def ajh(K:Ζ)(T:String)(r:V->List V->Hp->VK->Prop)(to:TE):TE:=λσ H Q=>to σ H λx l=>tyV K T x l/\r x [] l Q
def W0(K:Ζ)(T:String)(r:V->List V->Hp->VK->Prop)(to:TE)(t:TA):TE:=λσ H Q=>to σ H λx l=>tyV K T x l/\t σ l λxs n=>r x xs n Q
variable {id:String}
def aiL(G:PlainAttrs T)(slot:Slot T name id)(u:typeOf (.builtin id)=pure (.type "method_descriptor"))(hm:MtR X id r)(J:PE X o to)
  (l:lU o name X.env (eval o X.env)=eval o X.env:=by rfl) (n:(apos.endLine == cpos.line)=true:=by rfl):PE X (.Call (.Attribute o name apos) [] [] cpos) (ajh X.K T r to):=by
 intro z s σ H Q I h;refine nq l n (uN (J z s σ H _ I h) λv L ⟨x,M,B,E,ty,q1⟩=>?_)
 obtain⟨O,P⟩:=Y2 B E ty;exact⟨T,id,G,slot,u,O,P,Calls.callWith_builtin rfl (PySem.evalArgs_none (hm z L σ M x [] v [] Q B E .nil q1))⟩
def vN(M:PlainAttrs T)(slot:Slot T name id)(B:typeOf (.builtin id)=pure (.type "method_descriptor"))(hm:MtR X id r)(O:PE X o to)(ha:PA X (e::es) t)
  (n:lU o name X.env (eval o X.env)=eval o X.env:=by rfl)
  (z:((kM cpos (kx (e::es) X.env)).all (λx=>!x.1) && (mF cpos (lW [] X.env)).all (λx=>x.1.isSome)
   && decide ((e::es).length+([]:List Keyword).length+(if ([]:List Keyword).isEmpty then 0 else 1)<30))=true:=by rfl)
  (u:(apos.endLine == cpos.line)=true:=by rfl) (P:kx (e::es) X.env=(false,eval e X.env)::kx es X.env:=by rfl) (l:(kM cpos (kx es X.env)).any (·.1)=false:=by rfl) :
  PE X (.Call (.Attribute o name apos) (e::es) [] cpos) (W0 X.K T r to t):=by
 intro E s σ H Q I h;refine wpAny_Call_method_late n z u rfl (uN (O E s σ H _ I h) λv R ⟨x,S,G,J,ty,q1⟩=>?_)
 obtain⟨U,Y⟩:=Y2 G J ty;refine⟨T,id,M,slot,B,U,Y,?_⟩;have L:=ha cpos E R σ S _ G q1;rw[P]at L ⊢;refine Calls.callWith_builtin (by show(false || (kM cpos (kx es X.env)).any (·.1))=false;rw[l] <;> rfl) (Calls.evalArgs_plain ?_)
 exact uN L λus s2 ⟨vs,H2,I2,r2,q2⟩=>hm E s2 σ H2 x vs v us Q I2 J r2 q2
/- xs.append(e),list.index on a module's tuple .. are MtR facts of 06m -/
end
def MtM(X:Cx)(id:String)(r:V->List V->Hp->VK->Prop):Prop:=
 ∀l s (σ:St) H x xs v us Q,qb X l σ H s->rK x v->qI xs us->r x xs H Q ->
  ki (kf X.prog X.w) X.A (call (.builtin id) (v::us)) (EP X l σ Q) X.xe s
def qI.one:∀{x}{us},qI [x] us->∃u,us=[u]/\rK x u
 |_,_,.cons r .nil=>⟨_,rfl,r⟩
def qI.zero:∀{us},qI [] us->us=[]
 |_,.nil=>rfl
theorem qI.dropLast(h:qI xs us):qI xs.dropLast us.dropLast:=by
 induction h with
 |nil=>exact .nil
 |cons r t l=>
  cases t with
  |nil=>exact .nil
  |cons q n=>exact .cons r l
theorem qI.eraseIdx:∀{xs}{us}i,qI xs us->qI (xs.eraseIdx i) (us.eraseIdx i)
 |_,_,_,.nil=>.nil
 |_,_,0,.cons _ t=>t
 |_,_,i+1,.cons r t=>.cons r (qI.eraseIdx i t)
def EL{α:Type}(l:List α):l.eraseIdx (l.length-1)=l.dropLast:=by
 induction l with
 |nil=>rfl
 |cons a r n=>
  cases r with
  |nil=>rfl
  |cons b r=>
   have e:(a::b::r).length-1=((b::r).length-1)+1:=by
    have s:(a::b::r).length=r.length+2:=rfl;have t:(b::r).length=r.length+1:=rfl;lia
   rw[e,bS,n]
   all_goals rfl
theorem Mw{α:Type}:∀(l:List α) i,(l.eraseIdx i).length<=l.length
 | [],_=>ae _
 |_::_,0=>bP _
 |_::r,i+1=>Nat.succ_le_succ (Mw r i)
section
variable {σ:St}
def qb.lset{t:Ξ}{f:Ω->Ω}(I:qb X oA σ H s)(z:H l=some (.lst xs))
  (e:s.heap.get? l=some { cls:=.type "list", data:=.seq t.toArray n }) (B:f t.toArray=its'.toArray) (E:qI ys its') (G:ys.length<=ku) :
  qb X oA σ (ri H l (.lst ys)) { s with heap:=s.heap.update l (Obj.mapSeq f),toks:=t' }:=by
 have q:=PySem.IsL.update e f;rw[B]at q;refine I.write (x:=l) (e:=l) (by rw[z];exact trivial) (.inl rfl) (λL u hb J=>(bO s.heap (Obj.mapSeq f) (Ne.symm hb)).trans J) ⟨_,q⟩ ?_
 exact⟨G,its',_,E,q⟩
def qb.lnew(I:qb X oA σ H s)(t:qI ys n)(u:ys.length<=ku) :
  qb X oA σ (ri H s.heap.objs.size (.lst ys)) { s with heap:=s.heap.push { cls:=.type "list", data:=.seq n.toArray },toks:=t' }:=
 I.laid (λ_ _ q=>aa _ q) (ae _) ⟨u,n,0,t,bf _ rfl⟩
theorem qb.fresh(I:qb X oA σ H s):H s.heap.objs.size=none:=I.hok.fresh (ae _)
def qb.lstM(I:qb X oA σ H s)(u:H l=some (.lst xs)):xs.length<=ku/\∃t n,qI xs t/\xs.length=t.length/\s.heap.get? l=some { cls:=.type "list", data:=.seq t.toArray n }:=by
 obtain⟨z,t,n,r,e⟩:=I.hok l _ u;exact⟨z,t,n,r,r.length,e⟩
def Yc(h:n<=ku):Builtin.List.listTooLong n=false:=by
 unfold Builtin.List.listTooLong;exact d4 ∅
end
def Fl:V->List V->Hp->VK->Prop:=λx vs H Q=>∃l xs y,x = .ref l/\vs=[y]/\H l=some (.lst xs)/\xs.length<ku/\Q .non (ri H l (.lst (xs++[y])))
def sY:MtM X "list.append" Fl:=by
 intro L s σ H x M v us Q I E G h;obtain⟨l,O,y,rfl,rfl,B,P,q⟩:=h;cases E;obtain⟨u,rfl,J⟩:=G.one;obtain⟨z,t,n,r,hl,e⟩:=I.lstM B;refine lO F.slot_list_append ⟨_,e,rfl⟩ F.entry_list_append (F.args_list_append_2 _ _) (PySem.list_append l t.toArray n u (by rw[aB];lia)) ⟨e,?_⟩
 refine⟨.non,_,I.lset (its':=t++[u]) B e ⋯ (r.append (.cons J .nil)) ?_,rfl,q⟩
 rw[lAq,lSq];lia
def ID:V->List V->Hp->VK->Prop:=λx vs H Q=>∃l b xs n,x = .ref l/\vs=[.ref b]/\H l=some (.lst xs)/\H b=some (.lst n)/\xs.length+n.length<=ku/\Q .non (ri H l (.lst (xs++n)))
def DV:MtM X "list.extend" ID:=by
 intro Y s σ H x vs v us Q I L M h;obtain⟨l,b,xs,zs,rfl,rfl,J,O,hz,q⟩:=h;cases L;obtain⟨u,rfl,P⟩:=M.one;cases P;obtain⟨z,B,n,r,hl,e⟩:=I.lstM J;obtain⟨z2,t,R,S,T,U⟩:=I.lstM O;have G:B.toArray.size+t.toArray.size<=ku:=by rw[aB,aB];lia
 have E:¬ (!B.toArray.isEmpty && Builtin.List.listTooLong (B.toArray.size+t.toArray.size))=true:=by
  rw[Yc G,Bool.and_false];exact aD
 refine lO F.slot_list_extend ⟨_,e,rfl⟩ F.entry_list_extend (F.args_list_extend_2 _ _)
  (AutoSeq1.list_extend_list_list_0 l B.toArray n b t.toArray R E (by rw[aB];lia) ∅) ⟨e,U,?_⟩
 refine⟨.non,_,I.lset (its':=B++t) J e ⋯ (r.append S) ?_,rfl,q⟩
 rw[lAq];lia
def agT:V->List V->Hp->VK->Prop:=λx vs H Q=>∃l xs y,x = .ref l/\vs=[]/\H l=some (.lst xs)/\xs[xs.length-1]?=some y/\Q y (ri H l (.lst xs.dropLast))
def aia:MtM X "list.pop" agT:=by
 intro R s σ H x S v us Q I J L h;obtain⟨l,T,y,rfl,rfl,G,M,q⟩:=h;cases J;have B:=L.zero;subst B;obtain⟨z,t,n,r,hl,e⟩:=I.lstM G;obtain⟨u,O,P⟩:=r.get M;have E:t.toArray[t.toArray.size-1]?=some u:=by
  show t.toArray[t.length-1]?=some u;rw[←aO,←hl];exact O
 refine lO F.slot_list_pop ⟨_,e,rfl⟩ F.entry_list_pop (F.args_list_pop_1 _) (MeetsSeq.list_pop_last l t.toArray n u E (by rw[aB];lia)) ⟨e,?_⟩
 refine⟨y,_,I.lset (its':=t.dropLast) G e ?_ r.dropLast ?_,P,q⟩
 .show t.toArray.eraseIdxIfInBounds (t.toArray.size-1)=t.dropLast.toArray;rw[aB,fE,EL]
 .rw[iQ];lia
def abp:V->List V->Hp->VK->Prop:=λx vs H Q=>∃l xs i k y,x = .ref l/\vs=[.int i]/\H l=some (.lst xs)/\-(2 ^ 63)<=i/\i<2 ^ 63/\om i xs.length=some k/\xs[k]?=some y/\Q y (ri H l (.lst (xs.eraseIdx k)))
def Qp:MtM X "list.pop" abp:=by
 intro T s σ H x U v us Q I J L h;obtain⟨l,M,i,k,y,rfl,rfl,G,O,P,hk,R,q⟩:=h;cases J;obtain⟨u,rfl,S⟩:=L.one;obtain⟨t,rfl⟩:=S;obtain⟨z,B,n,r,hl,e⟩:=I.lstM G;obtain⟨w,hw,E⟩:=r.get R;refine lO F.slot_list_pop ⟨_,e,rfl⟩ F.entry_list_pop (F.args_list_pop_2 _ _)
  (MeetsSeq.list_pop_at l B.toArray n i t k w (fitsIndex_both O P) (by rw[aB,←hl];exact hk) (by rw[←aO];exact hw) (by rw[aB];lia)) ⟨e,?_⟩
 refine⟨y,_,I.lset (its':=B.eraseIdx k) G e ?_ (r.eraseIdx k) ?_,E,q⟩
 .show B.toArray.eraseIdxIfInBounds k=(B.eraseIdx k).toArray;rw[fE]
 .have:=Mw M k;lia
def akU:R2:=λx y H Q=>∃l b xs n,x = .ref l/\y = .ref b/\H l=some (.lst xs)/\H b=some (.lst n)/\xs.length+n.length<=ku/\∀p,H p=none->Q (.ref p) (ri H p (.lst (xs++n)))
def Hv:Ip X (lG .Add) akU:=by
 intro S s σ H x y v u Q I E G h;obtain⟨l,b,T,U,rfl,rfl,J,L,Y,q⟩:=h;cases E;cases G;obtain⟨z,B,n,r,hl,e⟩:=I.lstM J;obtain⟨z2,t,n2,M,O,P⟩:=I.lstM L;refine PySem.P.add_list e P ?_ (by rw[aB,aB];lia)
 have R:B.toArray++t.toArray=(B++t).toArray:=by simp
 rw[R];exact⟨.ref _,_,I.lnew (t':=s.toks) (r.append M) (by rw[lAq];lia),rfl,q _ I.fresh⟩
section
variable {κ:Type}[DecidableEq κ]
noncomputable def Fx(l:List (κ×V))(k:κ):Option V:=(l.find? λn=>decide (n.1=k)).map (·.2)
noncomputable def Ha(n:List (κ×V))(k:κ)(v:V):List (κ×V):=
 if (n.any λl=>decide (l.1=k))=true then n.map (λl=>if l.1=k then (l.1,v)else l)else n++[(k,v)]
def J9{p:κ×V}(e:p.1=k):Fx (p::r) k=some p.2:=by simp[Fx,eC,e]
def Jy{p:κ×V}(e:¬ p.1=k):Fx (p::r) k=Fx r k:=by simp[Fx,eC,e]
theorem Q8 k:∀l:List (κ×V),(l.any λn=>decide (n.1=k))=(Fx l k).isSome
 | []=>rfl
 |p::r=>by
  rw[dF]
  by_cases e:p.1=k
  .simp only[J9 e,d0 e,Bool.true_or,Option.isSome_some]
  .rw[Jy e,d4 e,jJ];exact Q8 k r
def HV(l:List (κ×V))k v:(Ha l k v).length<=l.length+1:=by
 unfold Ha;split
 .rw[lMq];lia
 .rw[lAq,lCq,cO];lia
def CG.isSome_eq(r:CG o u):o.isSome=u.isSome:=by
 cases o with
 |none=>cases u with
  |none=>rfl
  |some _=>exact(show False from r).elim
 |some _=>cases u with
  |none=>exact(show False from r).elim
  |some _=>rfl
def KV.val{n:List (κ×V)}(r:KV n vs)k:CG (Fx n k) (mW vs k):=by
 unfold KV at r
 induction r with
 |nil=>exact True.intro
 | @cons p q B qs h t u=>
  obtain⟨s,x⟩:=h
  by_cases e:p.1=k
  .have l:q.1=k:=s.symm.trans e;have b:mW (q::qs) k=some q.2:=by simp[mW,eC,l]
   rw[J9 e,b];exact x
  .have l:¬ q.1=k:=λz=>e (s.trans z)
   have b:mW (q::qs) k=mW qs k:=by simp[mW,eC,l]
   rw[Jy e,b];exact u
theorem KV.any{n:List (κ×V)}(r:KV n vs)k:(n.any λl=>decide (l.1=k))=vs.any λl=>decide (l.1=k):=by
 unfold KV at r
 induction r with
 |nil=>rfl
 |cons h t s=>rw[dF,dF,s,h.1]
def KV.repl{s:List (κ×V)}(r:KV s vs)k(x:rK y u) :
  KV (s.map λl=>if l.1=k then (l.1,y)else l) (vs.map λl=>if l.1=k then (l.1,u)else l):=by
 unfold KV at r ⊢
 induction r with
 |nil=>exact .nil
 | @cons p q G qs h t B=>
  rw[aw,aw];refine .cons ?_ B;obtain⟨n,E⟩:=h
  by_cases e:p.1=k
  .rw[qf e,qf (n.symm.trans e)];exact⟨n,x⟩
  .rw[qj e,qj (λz=>e (n.trans z))];exact⟨n,E⟩
def KV.put{l:List (κ×V)}(r:KV l vs)k(n:rK y u):KV (Ha l k y) (stored vs k u):=by
 unfold Ha stored;rw[r.any k]
 by_cases e:(vs.any λs=>decide (s.1=k))=true
 .rw[qf e,qf e];exact r.repl k n
 .rw[qj e,qj e];exact Paired.snoc r ⟨rfl,n⟩
theorem KV.length{l:List (κ×V)}(r:KV l vs):l.length=vs.length:=Paired.length r
end
def UQ(r:rK (kV k) u):(uj P w).is k u=true:=by
 cases k with
 |inl i=>obtain⟨t,e⟩:=(show ∃t,u=gO i t from r);subst e;exact Qa P w i t
 |inr x=>obtain⟨t,e⟩:=(show ∃t,u=iD x t from r);subst e;exact QA P w x t
theorem Mu:∀{l}{us},qI (l.map kV) us->ItemsAre (uj P w) l us
 | [],_,r=>by rw[fg]at r;cases r;exact .nil
 |k::l,_,r=>by
  rw[aw]at r;cases r with
  |cons h t=>exact .cons (UQ h) (Mu t)
abbrev KT(H:Hp):List (List qM×V)->List (List qM×Addr×Value)->Prop:=Paired λp q=>p.1=q.1/\H q.2.1=some (.tup (p.1.map kV))/\rK p.2 q.2.2
def KT.val(r:KT H n xs)k:CG (Fx n k) ((nH xs k).map (·.2)):=by
 induction r with
 |nil=>exact True.intro
 | @cons p q B qs h t u=>
  obtain⟨s,_,x⟩:=h
  by_cases e:p.1=k
  .have l:q.1=k:=s.symm.trans e;have b:nH (q::qs) k=some q.2:=by simp[nH,eC,l]
   rw[J9 e,b];exact x
  .have l:¬ q.1=k:=λz=>e (s.trans z)
   have b:nH (q::qs) k=nH qs k:=by simp[nH,eC,l]
   rw[Jy e,b];exact u
def KT.repl(r:KT H s xs)k(B:rK y u) :
  KT H (s.map λn=>if n.1=k then (n.1,y)else n) (xs.map (putAt k u)):=by
 induction r with
 |nil=>exact .nil
 | @cons p q I qs h t E=>
  rw[aw,aw];refine .cons ?_ E;obtain⟨l,x,G⟩:=h;unfold putAt
  by_cases e:p.1=k
  .rw[qf e,qf (l.symm.trans e)];exact⟨l,x,B⟩
  .rw[qj e,qj (λz=>e (l.trans z))];exact⟨l,x,G⟩
def KT.put(r:KT H l xs)k(hb:H b=some (.tup (k.map kV)))(n:rK y u) :
  KT H (Ha l k y) (storedH xs k b u):=by
 have e:(l.any λs=>decide (s.1=k))=(nH xs k).isSome:=by
  rw[Q8,(r.val k).isSome_eq,gS]
 unfold Ha storedH;rw[e]
 by_cases q:(nH xs k).isSome=true
 .rw[qf q,qf q];exact r.repl k n
 .rw[qj q,qj q];exact Paired.snoc r ⟨rfl,hb,n⟩
def KT.keeps(r:KT H n xs)(ht:∀b s,H b=some (.tup s)->l b=some (.tup s)):KT l n xs:=
 Paired.mapP r λ_ _ z=>⟨z.1,ht _ _ z.2.1,z.2.2⟩
def af5(ok:CH P w H h)(e:Rd H a u):sI P w H h a u:=e.ok ok
def O5(ok:CH P w H h)(e:Rd H a (.dK l)):l.length<=ku/\(a == lg)=false/\∃vs,KV l vs/\h.DictOf (uj P w) a vs:=
 show sI P w H h a (.dK l)from af5 ok e
def ajM(ok:CH P w H h)(e:H a=some (.dK l)):l.length<=ku/\(a == lg)=false/\∃vs,KV l vs/\h.DictOf (uj P w) a vs:=O5 ok (.inl e)
def OA(ok:CH P w H h)(e:H a=some (.tup (l.map kV))):(nB (uj P w)).is h l a:=by
 obtain⟨_,s,r,o,t,u,n,x⟩:=(show sI P w H h a (.tup (l.map kV))from ok a _ e)
 exact⟨o,s.toArray,n,t,u,x,by simpa using Mu r⟩
def Qm(ok:CH P w H h)(e:Rd H a (.dT s)):s.length<=ku/\(a == lg)=false /\
  ∃xs,KT H s xs/\h.DictOfH (nB (uj P w)) a xs:=by
 obtain⟨z,y,xs,r,o,B,E,G,I,J,L,M⟩:=(show sI P w H h a (.dT s)from af5 ok e)
 refine⟨z,y,xs,r,o,B,E,G,I,J,L,λx n=>?_,M⟩
 have all:∀{l:List (List qM×V)}{m:List (List qM×Addr×Value)},KT H l m->∀x∈m,(nB (uj P w)).is h x.1 x.2.1:=by
  intro l m q
  induction q with
  |nil=>intro x n;exact nomatch n
  | @cons p q Q qs u t O=>
   intro x n;rcases ah.mp n with e|n
   .subst e;exact OA ok (by rw[←u.1];exact u.2.1)
   .exact O x n
 exact all r x n
def ajm(ok:CH P w H h)(e:H a=some (.dT l)):l.length<=ku/\(a == lg)=false /\
  ∃xs,KT H l xs/\h.DictOfH (nB (uj P w)) a xs:=Qm ok (.inl e)
def IU(H:Hp)(a:Addr)(y:V)(r:Option V):Prop:=
 (∃l k,Rd H a (.dK l)/\y=kV k/\r=Fx l k)∨∃l k b,Rd H a (.dT l)/\y = .ref b/\H b=some (.tup (k.map kV))/\r=Fx l k
def Wi(H:Hp)(a:Addr)(y v:V)(n:Hp):Prop:=
 (∃l k,H a=some (.dK l)/\y=kV k/\l.length<ku/\n=ri H a (.dK (Ha l k v))) ∨
 ∃l k b,H a=some (.dT l)/\y = .ref b/\H b=some (.tup (k.map kV))/\l.length<ku/\n=ri H a (.dT (Ha l k v))
theorem IU.k{k}(e:H a=some (.dK l)):IU H a (kV k) (Fx l k):=.inl ⟨l,k,.inl e,rfl,rfl⟩
theorem Wi.k{k}(e:H a=some (.dK l))(hl:l.length<ku):Wi H a (kV k) v (ri H a (.dK (Ha l k v))):=.inl ⟨l,k,e,rfl,hl,rfl⟩
section
variable {σ:St}
def qb.big(I:qb X oA σ H s):lg<s.heap.objs.size:=by
 have h:ko<s.heap.objs.size:=(I.mod.glob.keeps I.bk).lt;exact Nat.lt_trans ⋯ h
def Wc(M:A.units+1<kN)(I:qb X oA σ H s)(g:IU H a y (some v))(L:rK y u)(h:∀x s',qb X oA σ H s'->rK v x->Q x s') :
  ki (kf X.prog X.w) A (nV (.ref a) u) Q E s:=by
 rcases g with⟨O,k,e,B,l⟩|⟨O,k,b,e,B,P,l⟩
 .subst B;obtain⟨z,hd,R,n,G⟩:=O5 I.hok e;obtain⟨x,hw,t⟩:=CG.some_of (v:=v) (o:=mW R k) (by rw[l];exact n.val k)
  exact wpAny_getItem_of (UQ L) G.mapOf hw (h x _ (I.tok _) t)
 .subst B;cases(show u=ag b from L)
  obtain⟨z,hd,S,n,G⟩:=Qm I.hok e;obtain⟨x,hw,t⟩:=CG.some_of (v:=v) (o:=(nH S k).map (·.2)) (by rw[l];exact n.val k)
  obtain⟨p,T,J⟩:=oMq.mp hw;refine wpAny_getItem_heap (mJ M) (OA I.hok P) G T ?_;rw[J];exact h x _ (I.tok _) t
def ae2(G:A.units+1<kN)(I:qb X oA σ H s)(g:IU H a y o)(B:rK y u)(h:∀s',qb X oA σ H s'->Q (.bool (!o.isSome)) s') :
  ki (kf X.prog X.w) A (kU .NotIn u (.ref a)) Q E s:=by
 rcases g with⟨J,k,e,t,l⟩|⟨J,k,b,e,t,L,l⟩
 .subst t;obtain⟨z,hd,M,n,x⟩:=O5 I.hok e;refine wpAny_notIn_of (UQ B) hd x.mapOf ?_;rw[← (n.val k).isSome_eq,←l];exact h _ (I.tok _)
 .subst t;cases(show u=ag b from B)
  obtain⟨z,hd,O,n,x⟩:=Qm I.hok e;refine wpAny_notIn_heap (mJ G) (OA I.hok L) hd x ?_;have q:=(n.val k).isSome_eq;rw[gS]at q;rw[←q,←l];exact h _ (I.tok _)
def UX(I:qb X oA σ H s)(mu:Mut (H a))(n:eM a s.heap h')(t:∃q,h'.get? a=some q)(new:sI X.prog X.w (ri H a l) h' a l) :
  qb X oA σ (ri H a l) { s with heap:=h',toks:=t' }:=
 I.write (x:=a) (e:=a) mu (.inl rfl) (λb q hb z=>(n.2 b hb).trans z) t new
def agG(z:l.length<=ku)(hd:(a == lg)=false)(n:KV l vs)(dd:h'.DictOf (uj P w) a vs) :
  sI P w t h' a (.dK l):=⟨z,hd,vs,n,dd⟩
def WX(hu:A.units+1<kN)(I:qb X oA σ H s)(g:Wi H a y v P)(R:rK y u)(S:rK v r)(h:∀s',qb X oA σ P s'->Q () s') :
  ki (kf X.prog X.w) A (setItem (.ref a) u r) Q E s:=by
 rcases g with⟨x,k,e,G,l,J⟩|⟨x,k,b,e,G,T,l,J⟩
 .subst G J;obtain⟨z,hd,vs,n,L⟩:=ajM I.hok e;have M:vs.length<=ku:=by rw[←n.length];exact z
  have hl:(Ha x k v).length<=ku:=by have:=HV x k v;lia
  refine wpAny_setItem_pairs (hsz:=M) (UQ R) L λU t O=>h _ ?_
  have he:∃q,U.get? a=some q:=let ⟨q,_,_,B,_⟩:=t;⟨q,B⟩
  exact UX I (by rw[e];exact True.intro) O he (agG hl hd (n.put k S) t)
 .subst G J;cases(show u=ag b from R)
  obtain⟨z,hd,xs,n,L⟩:=ajm I.hok e;have M:xs.length<=ku:=by rw[←Paired.length n];exact z
  have hl:(Ha x k v).length<=ku:=by have:=HV x k v;lia
  refine wpAny_setItem_heap (hsz:=M) (mJ hu) (OA I.hok T) L λU t O=>h _ ?_
  obtain⟨q,es,ep,B,h2,h3,h4,_,h5⟩:=t;refine UX I (by rw[e];exact True.intro) O ⟨q,B⟩ ⟨hl,hd,_,(n.put k T S).keeps λc ys Y=>?_,q,es,ep,B,h2,h3,h4,h5⟩
  rw[pe (akv Y e (λz=>nomatch z))]
  exact Y
end
def aj7(i:Expr):Prop:=∀l n,nK i false l n=operate [l,n] (nV l n)
def aew{id}
  (hl:kE (.type T) "__getitem__" = pure (some (.builtin id))) (J:aj7 l)
  (h:ki (kf prog w) A (eval n env) (λo z=>ki (kf prog w) A (eval l env) (λi t=>t.TypeIs o T/\ki (kf prog w) A (nV o i) Q E t) E z) E s) :
  ki (kf prog w) A (eval (.Subscript n l pos) env) Q E s:=by
 refine Subscript_ (kG h (λo z G=>kG G (λi t u=>?_) λ_ _ x=>x) λ_ _ x=>x)
 obtain⟨I,u⟩:=u;unfold oh;refine kj ?_;rw[getitemInPython_of_ne I.not_modules];refine kj (wpAny_specialOf I hl ?_);have fin:ki (kf prog w) A (nK l false o i) (λr B=>ki (kf prog w) A (letTemporaryGo n o r >>= λ_=>pure r) Q E B) E t:=by
  rw[J o i];exact wpAny_operating (kG u (λr B H=>kj (wpAny_letTemporaryGo (kC H))) λ_ _ x=>x)
 first
  |exact kC (kj fin)
  |exact kj (kC (kj fin))
  |exact kj fin
def PV{σ:St}(I:qb X n σ H s)(g:IU H a y o):s.TypeIs (.ref a) "dict" := by
 rcases g with⟨t,k,e,_,_⟩|⟨t,k,b,e,_,_,_⟩
 .obtain⟨_,_,u,_,l⟩:=O5 I.hok e;exact l.typeIs
 .obtain⟨_,_,x,_,l⟩:=Qm I.hok e;exact l.typeIs
def Zm(n ty:TE):TE:=λσ H Q=>n σ H λx s=>ty σ s λy l=>∃a v,x = .ref a/\IU l a y (some v)/\Q v l
def MU(ty n:TE):TE:=λσ H Q=>ty σ H λy s=>n σ s λx l=>∃a o,x = .ref a/\IU l a y o/\Q (.bl (!o.isSome)) l
def aau(l ty n:TE):TS:=λD σ H=>n σ H λv s=>l σ s λx t=>ty σ t λy u=>∃a H4,x = .ref a/\Wi u a y v H4/\D.nx σ H4
def UA(z:X.A.units+1<kN)(B:PE X o td)(hi:PE X i ty)(E:aj7 i):PE X (.Subscript o i pos) (Zm td ty):=by
 intro n s σ H Q I h;refine aew PySem.F.slot_dict_getitem.lookup E (uN (B n s σ H _ I h) λu G ⟨x,J,L,M,q1⟩=>uN (hi n G σ J _ L q1) λT U ⟨y,O,t,P,a,v,ex,g,R⟩=>?_)
 subst ex;obtain rfl:u=ag a:=M;exact⟨PV t g,Wc z t g P λY s3 S l=>⟨v,O,S,l,R⟩⟩
def Hx(n:X.A.units+1<kN)(hi:PE X i ty)(t:PE X o td):PC X .NotIn i o (MU ty td):=by
 intro l s σ H Q I h;refine uN (hi l s σ H _ I h) λS z ⟨y,B,E,G,q1⟩=>uN (t l z σ B _ E q1) λu T ⟨x,J,L,M,a,O,ex,g,P⟩=>?_
 subst ex;obtain rfl:u=ag a:=M;exact ae2 n L g G λU R=>⟨.bl (!O.isSome),J,R,rfl,P⟩
def Oy(n:X.A.units+1<kN)(t:PE X o td)(hi:PE X i ty)(z:PE X value tv)(B:lZ value (some (.Subscript o i pos')) pos.line X.env=pure false) :
  PS X (.Assign [.Subscript o i pos'] value pos) (aau td ty tv):=by
 intro l s σ H D I h;refine wpAny_Assign_Subscript (uN (z l s σ H _ I h) λr E ⟨v,G,J,L,q1⟩=>uN (t l E σ G _ J q1) λu M ⟨x,O,P,Q,R⟩=>uN (hi l M σ O _ P R) λiv s3 ⟨y,H3,S,T,a,H4,ex,g,U⟩=>?_) B
 subst ex;obtain rfl:u=ag a:=Q;exact WX n S g T L λs4 Y=>⟨σ,H4,Y,U⟩
def Z7(h:Heap)(hb:lg<h.objs.size):sI P w H (h.push { cls:=.type "dict", data:=.dict #[] }) h.objs.size (.dK []):=
 ⟨bb _,beq_eq_false_iff_ne.mpr (Ne.symm (aF hb)),[],.nil,Heap.DictOf.new h⟩
def ZY:TE:=λ_ H Q=>∀p,H p=none->Q (.ref p) (ri H p (.dK []))
def JU:PE X (.Dict [] [] pos) ZY:=λl s σ H Q I h=>
 wpAny_Dict_empty ⟨.ref s.heap.objs.size,_,I.laid (a:=s.heap.objs.size) (o:=.dK []) (t':=s.toks) (λ_ _ q=>aa _ q) (ae _) (Z7 s.heap I.big),rfl,h _ (I.hok.fresh (ae _))⟩
def IsD(H:Hp)(a:Addr):Prop:=(∃l,Rd H a (.dK l))∨∃l,Rd H a (.dT l)
def aii{σ:St}(I:qb X x σ H s)(d:IsD H a) :
  s.TypeIs (.ref a) "dict" /\ (∀b,ag a = .ref b->∃l,s.heap.get? b=some l/\l.dict=none)/\(a == lg)=false:=by
 rcases d with⟨z,e⟩|⟨z,e⟩
 .obtain⟨_,hd,B,_,n⟩:=O5 I.hok e;refine⟨n.typeIs,λb q=>?_,hd⟩
  cases q;obtain⟨l,_,_,t,u,_⟩:=n;exact⟨l,t,u.2.1⟩
 .obtain⟨_,hd,E,_,n⟩:=Qm I.hok e;refine⟨n.typeIs,λb q=>?_,hd⟩
  cases q;obtain⟨l,_,_,t,u,_⟩:=n;exact⟨l,t,u.2.1⟩
end L2
namespace Att
open PySem PySem.W PySem.Calls PyProof.Rows
def Il:∀(ns:Ϝ) (vs:Ξ),WellAll P h vs (ns.map WData.int)->kZ vs ns:=by
 intro ns
 induction ns with
 |nil=>
  intro vs w;rw[fg]at w;cases w;exact .nil
 |cons n ns l=>
  intro vs w;rw[aw]at w;cases w with
  |cons a b=>
   cases a;exact .cons _ _ (l _ b)
def VM{l:OpenLaw}(hn:l.most=some n){s:Ξ}
  (t:l.row.toRowW.claim.pre args=true) (E:WellAll P h s args) :
  ∃a vs ns,s=[ag a]/\args=[WData.list (ns.map WData.int)]/\h.get? a=some { cls:=.type "list", data:=.seq vs.toArray }/\kZ vs ns/\ns.length<=n:=by
 have G:WShape.hasAll [] args [.list .int]=true:=(pre_splitW t).1;have H:l.pre.holds [] { args:=args }=true:=(pre_splitW t).2;obtain⟨d,r,rfl,I,J⟩:=hasAllW_cons G;obtain rfl:=hasAllW_nil J;obtain⟨S,rfl,L⟩:=hasW_list I;obtain⟨ns,rfl⟩:=items_int L;have u:ns.length<=n:=by
  unfold OpenLaw.pre at H;have z:(WTm.not (.lt (.lit (.int (n:Int))) (.len (.arg 0)))).holds [] { args:=[.list (ns.map .int)] }=true:=by
   have z:=(holds_andW H).1;rw[hn]at z;exact z
  have B:=condW_of z (w_not (w_lt w_lit (w_len_list (w_arg rfl))));rw[lMq]at B;refine jw λq=>?_
  have M:(n:Int)<((ns.length:Nat):Int):=by lia
  first
   | (rw[d0 M]at B;exact absurd B ⋯)
   | (simp at B;lia)
 cases E with
 |cons O Q=>
  cases Q;cases O with
  |list R x=>exact⟨_,_,ns,rfl,rfl,R,Il ns _ x,u⟩
def Vx(l:OpenLaw)args:l.row.toRowW.claim.post args (.bool true) args=true:=
 postW_of (r:=l.row.toRowW) (X:=(true == true))
  (show WShape.has [] (.bool true) .bool=true by first|rfl|decide|simp[WShape.has,WShape.arms,WShape.armsAll])
  (show(WTm.eq .res (.lit (.bool true))).value [] { args:=args,res:=some (.bool true),after:=args }=some (.bool (true == true))from w_eq_bool (w_res rfl) w_lit) rfl
def QS{l:OpenLaw}{Q:(Str->Υ)->Heap->Prop}
  (hn:l.most=some n) (J:d.params.defaults=[])
  (call:∀w s₀ s (mg L:Str->Υ) z o pm I u a (vs:Ξ) (ns:Ϝ),
   Ground q t [] Q w s₀ mg L s.heap->R w s.heap ->
   s.heap.get? z=some o->o.data = .func (docDef d.name d.params d.body d.scope pm I u)->s.heap.CodeRec I d.name->mg d.name=some (.ref z) ->
   s.heap.get? a=some { cls:=.type "list", data:=.seq vs.toArray }->kZ vs ns->ns.length<=n->s.gens=#[] ->
   lK (kf l.prog w) mX (.call (.ref z) ⟨[.ref a],[]⟩) (λr s'=>r = .ok (.ret (.bool true))/\OldK s.heap s'.heap/\s'.os=s.os/\mi s'.gens) s) :
  WalkO q t Q R l.row.toRowW d [] (λf vs=>PySem.call f vs):=by
 intro w s₀ s mg L G Y z o pm I u dV kV ho hd M S O hg T U as B X hrd P hlo;obtain rfl:dV = .none:=Dflts.none S J;obtain rfl:kV = .none:=Dflts.noKw S;obtain⟨a,vs,ns,rfl,rfl,E,x,H⟩:=VM hn B P;refine enter_call (lH (call w s₀ s mg L z o pm I u a vs ns G Y ho (fd_plain hd) M O E x H hg) λr s' hq=>?_)
 obtain⟨rfl,h2,h3,h4⟩:=hq;exact⟨.inl ⟨.bool true,.bool true,[],rfl,λ_=>rfl,.bool true,Vx l _,λ_=>⟨bo.nil,λ_ hm=>(nomatch hm)⟩⟩,h2,h3,h4⟩
end Att
namespace L2
open PySem PySem.Spec PyProof.Rows
theorem vals_ints:∀{vs:Ξ}{ns:Ϝ},kZ vs ns->qI (ns.map V.int) vs
 |_,_,.nil=>.nil
 |_,_,.cons n t h=>.cons ⟨t,rfl⟩ (vals_ints h)
def aib(H:Hp):Prop:=∀b,H b=none∨∃o xs,H b=some (.frz o (.lst xs))
def aaw{K}{mg T:Str->Υ}{vs:Ξ}{ns:Ϝ}
  (KX:K.In l.heap) (I:l.heap.Ns ko mg) (hb:l.heap.Ns builtinsNs T) (X:∀x:Str,x ≠ "__name__" -> T x=lI x) (J:l.heap.NoLimit) (hg:l.gens=#[])
  (ha:l.heap.get? a=some { cls:=.type "list", data:=.seq vs.toArray }) (hi:kZ vs ns) (hl:ns.length<=ku) (hr:tY k mX)
  (F:∀base:Heap,K.In base->base.Ns ko mg->yT P w K mg base CX k U fd [x] sp) (G:∀s u,mY s fd ⟨[u],[]⟩ [(x,u)])
  (Y:∀H:Hp,aib H->uO K H a (ns.map V.int)->sp [.ref a] H (λv _=>v = .bl true) λ_ _ _=>False)
  (hCX:∀H e s',CX [] H l (λ_ _ _=>False) e s'->False) :
  lK (kf P w) mX (.call (.ref U) ⟨[.ref a],[]⟩) (λr s'=>r = .ok (.ret (.bool true))/\OldK l.heap s'.heap/\s'.os=l.os/\mi s'.gens) l:=by
 have rv:=vals_ints hi;have L:=hi.length;have E:∀H:Hp,aib H->uO K H a (ns.map V.int)->CH P w H l.heap->(∀b,H b≠none->b=a)->(H a≠none->K.lookup a=none) ->
   lK (kf P w) mX (.call (.ref U) ⟨[.ref a],[]⟩) (λr s'=>r = .ok (.ret (.bool true))/\OldK l.heap s'.heap/\s'.os=l.os/\mi s'.gens) l:=by
  intro H hO hS hok hA hK;have t:∀{b:Addr}{o:Obj},l.heap.get? b=some o->H b=none->(NM l.heap H).get? b=some o:=λe n=>YZ e n
  have noA:∀{b:Addr}{o:Obj}{M:Array DictEntry}{O:Nat},l.heap.get? b=some o->o.data = .dict M O->H b=none:=λ{b o M O} e d=>by
   cases q:H b with
   |none=>rfl
   |some u=>
    have e':b=a:=hA b (by rw[q];simp)
    subst e';rw[ha]at e;cases e;have d':Data.seq vs.toArray _=Data.dict M O:=d;cases d'
  have B:∀{b:Addr}{m:Str->Υ},l.heap.Ns b m->(NM l.heap H).Ns b m:=λ{b m} ⟨o,M,O,e,d,r⟩=>⟨o,M,O,t e (noA e d),d,r⟩
  have Q:K.In (NM l.heap H):=λb o e=>t (KX b o e) (by
   cases q:H b with
   |none=>rfl
   |some u=>
    have e':b=a:=hA b (by rw[q];simp)
    subst e';rw[hK (by rw[q];simp)]at e;cases e)
  have hM:Mod K mg (NM l.heap H):=⟨Q,B I,⟨T,B hb,X⟩,let ⟨mc,h1,h2⟩:=J;⟨mc,B h1,h2⟩⟩
  have e0:Nw P w K mg (NM l.heap H) mX [] l H:=⟨rfl,hM,λb o e=>abX e,ff (VD _ _),trivial,λb hb=>absurd (show b∈([]:Δ)from hb) ⋯,hok,.of_eq hg⟩
  refine lH ((F _ Q (B I)).run mX [] l H ⟨[.ref a],[]⟩ [.ref a] [.ref a] _ _ hr e0 (G l (.ref a)) (.cons rfl .nil) (Y H hO hS)) λr s' h=>?_
  cases r with
  |error e=>exact(hCX H e s' h).elim
  |ok fl=>
   cases fl with
   |next=>exact False.elim h
   |brk=>exact False.elim h
   |cont=>exact False.elim h
   |ret u=>
    obtain⟨v,H',os,bare,un,R,r',q⟩:=h;have q':v = .bl true:=q;subst q';obtain rfl:u=iW true:=r';refine⟨rfl,OldK.of_keep λb o e=>?_,os,bare⟩
    cases q:H b with
    |none=>exact un.keep b o e q (by intro z;exact absurd (show b∈([]:Δ)from z) ⋯) ⋯
    |some u=>
     rcases hO b with z|⟨ob,xs,z⟩
     .rw[q]at z;cases z
     .have z2:=un.frzs b ob _ z;obtain⟨e1,_⟩:=hok b _ z;obtain⟨e2,_⟩:=R b _ z2;rw[e]at e1;cases e1;exact e2
 cases hk:K.lookup a with
 |some o=>
  have e:=KX a o hk;rw[ha]at e;cases e;refine E (λ_=>none) (λ_=>.inl rfl) (.inr ⟨_,vs.toArray,_,hk,rfl,rfl,rfl,by rw[aB,L];exact hl,by simpa using rv⟩) (λb u z=>by have S:(none:Option HO)=some u:=z;cases S) (λb z=>absurd rfl z) λz=>absurd rfl z
 |none=>
  refine E (λb=>if b=a then some (.frz { cls:=.type "list", data:=.seq vs.toArray } (.lst (ns.map V.int)))else none) (λb=>?_) (.inl (.inr ⟨{ cls:=.type "list", data:=.seq vs.toArray },qf rfl⟩)) (λb u z=>?_) (λb z=>?_) λ_=>hk
  .by_cases hb:b=a
   .exact .inr ⟨_,_,qf hb⟩
   .exact .inl (qj hb)
  .by_cases hb:b=a
   .have S:=(qf hb).symm.trans z;cases S;subst hb;exact⟨ha,by rw[lMq];exact hl,vs,_,rv,ha⟩
   .have S:=(qj hb).symm.trans z;cases S
  .by_cases hb:b=a
   .exact hb
   .exact absurd (qj hb) z
def acP{l:W.OpenLaw}{T:(Str->Υ)->Heap->Prop}{K:Params->Ζ}{CX:kz->PQ}{sp:kz->Sp}
  (hn:l.most=some n) (L:n<=ku) (M:d.params.defaults=[]) (hr:tY k mX)
  (U:∀w h,R w h->(K w.params).In h)
  (F:∀w (mg:Str->Υ) J h,(K w.params).In h->h.Ns ko mg->mg d.name=some (.ref J) ->
   ∃fd:ky,(∀s u,mY s fd ⟨[u],[]⟩ [(x,u)]) /\
    ∀base:Heap,(K w.params).In base->base.Ns ko mg->yT l.prog w (K w.params) mg base (CX w) k J fd [x] (sp w))
  (O:∀w H a (ns:Ϝ),ns.length<=n->aib H->uO (K w.params) H a (ns.map V.int)->sp w [.ref a] H (λv _=>v = .bl true) λ_ _ _=>False)
  (P:∀w H s e s',CX w [] H s (λ_ _ _=>False) e s'->False) :
  W.WalkO q z T R l.row.toRowW d [] (λf vs=>PySem.call f vs):=by
 refine Att.QS hn M λw s₀ E mg mb J o pm cd X a vs ns G Y ho hd hcd Q I B t hg=>?_
 have S:=U w _ Y;obtain⟨fd,hb,hF⟩:=F w mg J _ S G.T.g Q;exact aaw S G.T.g G.T.b G.T.builtins G.T.nolimit hg I B (aZ t L) hr hF hb (λH hO hS=>O w H a ns t hO hS) λH e s'=>P w H E e s'
noncomputable def uv(s:Stmt):Arguments:=match s with
 | .FunctionDef _ a _ _ _ _ _ _ _ _=>a
 |_=>{ posonlyargs:=[],args:=[],vararg:=none,kwonlyargs:=[],kw_defaults:=[],kwarg:=none,defaults:=[] }
noncomputable def sS(s:Stmt):List Stmt:=match s with
 | .FunctionDef _ _ b _ _ _ _ _ _ _=>b
 |_=>[]
noncomputable def oI(s:Stmt):lu:=match s with
 | .FunctionDef _ _ _ _ _ _ sc _ _ _=>sc
 |_=>{ kind:=.function,names:=[],isGenerator:=false,isCoroutine:=false }
abbrev QC:PQ:=λ_ _ _ _ _ _=>False
abbrev E0:XK:=λ_ _ _=>False
def Uq:yR QC X E0:=λ_ _ _ _ _ _ _ h=>h.elim
structure AN (K:Ζ)(x qual:Str)(st:Stmt)(f:Addr)(fd:ky):Prop where
 ex:∃(oc:Value) (od:Option Addr) (kV doc pm:Value) (an:Option Addr) (uM ct:Value) (osl:Array Υ),
  fd=W.fnOf x qual (uv st) (sS st) (oI st) .none kV doc pm an uM ct/\K.lookup f=some ⟨oc,od,.func fd,osl⟩/\W.codeIn K uM qual=true
 kp:W.keepIn K (.ref f)=true
section
variable {K:Ζ}
def AN.ok{st}(F:AN K x l st f fd)(S:oU N ps (oI st))(len:∀vs H Q E,sp vs H Q E->vs.length=ps.length)
  (n:∀u A outer s H vs Q E,tY k (A.deeper (kH l (oI st) s.heap.objs.size f u))->sp vs H Q E ->
   ∃t,KJ (Hm QC P w K mg base N l (oI st) f u A outer s H E).nox (sS st) t/\t { nx:=λ_ G=>Q .non G,rt:=Q } (vm N vs) H):yT P w K mg base QC (k+1) f fd ps sp:=by
 obtain⟨L,M,kV,I,pm,O,u,ct,J,rfl,lk,z⟩:=F.ex;refine af1 lk z S len λA outer s H vs Q E hr B=>?_
 obtain⟨t,h,q⟩:=n u A outer s H vs Q E hr B;exact⟨t,h.nox,q⟩
def AN.binds{st}(F:AN K x l st f fd)
  (h:∀kV n pm s t ct (us:Ξ),us.length=ps.length->bindArgs (W.fnOf x l (uv st) (sS st) (oI st) .none kV n pm s t ct) ⟨us,[]⟩=pure (ps.zip us)):qY K fd ps []:=by
 obtain⟨B,E,kV,n,pm,s,t,ct,u,rfl,lk,z⟩:=F.ex;exact .all (h kV n pm s t ct)
def wm{st}{t:Array Υ}{kV}(l:K.lookup f=some ⟨B,od,.func (W.fnOf x n (uv st) (sS st) (oI st) .none kV s pm z u ct),t⟩)
  (c:W.codeIn K u n=true) (k:W.keepIn K (.ref f)=true):AN K x n st f (W.fnOf x n (uv st) (sS st) (oI st) .none kV s pm z u ct):=⟨⟨B,od,kV,s,pm,z,u,ct,t,rfl,l,c⟩,k⟩
end
def Me(hr:tY k A):A.units+1<kN:=Nat.lt_of_le_of_lt (iX (by decide:1<=64) _) hr.units
def pv i(n:X.N[i]?=some x:=by rfl)(s:Vis X.env.scope x:=by trivial)(hd:(x == ("__debug__" : Str))=false:=by decide)
  (l:(x == ("__classdict__" : Str))=false:=by decide):PE X (.Name x pos) (xq i):=ah4 n s hd l
def Se{A:Prop}(h:B):if false=true then A else B:=by
 rw[qj aD];exact h
def VZ{A:Prop}(h:A):if true=true then A else B:=by
 rw[qf rfl];exact h
def qO(H l:Hp):Prop:=∀b o,H b=some o->l b=some o
def qO.refl H:qO H H:=λ_ _ h=>h
def qO.trans(a:qO H l)(b:qO l n):qO H n:=λc o h=>b c o (a c o h)
def qO.free(e:qO H n)(h:n l=jX):H l=jX:=by
 cases q:H l with
 |none=>rfl
 |some o=>
  rw[e l o q]at h;cases h
def qO.seq{K}(e:qO H l)(h:uO K H a xs):uO K l a xs:=by
 rcases h with(h|⟨o,h⟩)|h
 .exact .inl (.inl (e _ _ h))
 .exact .inl (.inr ⟨o,e _ _ h⟩)
 .exact .inr h
end L2
namespace Mr
noncomputable def cell(ns:Ϝ)(k:Nat):Int:=ns.getD k 0
noncomputable def qv(ns:Ϝ):Nat->Nat
 |0=>0
 |k+1=>if ns.getD k 0<ns.getD (qv ns k) 0 then k else qv ns k
noncomputable def rot(ns:Ϝ)(i:Nat):Ϝ:=ns.drop i++ns.take i
def good(ns:Ϝ):Ϝ:=rot ns (qv ns ns.length)
theorem zl ns:∀n,(0<n->qv ns n<n)/\(∀j,j<n->ns.getD (qv ns n) 0<=ns.getD j 0)/\(∀j,j<qv ns n->ns.getD (qv ns n) 0<ns.getD j 0)
 |0=>⟨λh=>absurd h (cV _),λj h=>absurd h (dC _),λj h=>absurd h (dC _)⟩
 |n+1=>by
  obtain⟨t,s,u⟩:=zl ns n;simp only[qv]
  by_cases c:ns.getD n 0<ns.getD (qv ns n) 0
  .rw[qf c];refine⟨λ_=>cZ n,λj l=>?_,λj l=>?_⟩
   .rcases eX (jo l)with q|q
    .have:=s j q;lia
    .subst q;exact gJ _
   .have:=s j l;lia
  .rw[qj c];refine⟨λ_=>?_,λj l=>?_,u⟩
   .by_cases hn:0<n
    .exact bW (t hn)
    .have:n=0:=by lia
     subst this;exact cZ 0
   .rcases eX (jo l)with q|q
    .exact s j q
    .subst q;lia
def J0 ns:qv ns ns.length<=ns.length:=by
 by_cases h:0<ns.length
 .exact bZ ((zl ns ns.length).1 h)
 .have:ns.length=0:=by lia
  rw[this];exact ae 0
def Av{ns:Ϝ}h:ns.getD j 0=ns[j]:=by
 rw[gDq,gEg h];rfl
def C9(hm:M∈ns)(hl:∀a,a∈ns->M<=a):ns.idxOf M=qv ns ns.length:=by
 have s:=iy hm;obtain⟨l,t,u⟩:=zl ns ns.length;have l:=l s;have hi:=cH.mpr hm;have e:ns.getD (ns.idxOf M) 0=M:=by rw[Av hi];exact eY hi
 have n:ns.getD (qv ns ns.length) 0=M:=by
  have q1:=t _ hi;have x:=hl _ (by rw[Av l];exact gRq l:ns.getD (qv ns ns.length) 0∈ns)
  lia
 rcases jq (ns.idxOf M) (qv ns ns.length)with q|q|q
 .have:=u _ q;lia
 .exact q
 .have:=iz (p:=(· == M)) (by simpa[List.idxOf]using q)
  rw[Av l]at n;simp[n]at this
def good_nil:good []=[]:=rfl
def S0(ns)i:(rot ns i).length=ns.length:=by
 unfold rot;rw[lAq,aC,lTq];lia
def HI ns:(good ns).length=ns.length:=S0 _ _
def step(ns:Ϝ):Int:=if 0<cell ns 0 % 3 then cell ns 0 % 10 ^ 40+1 else 1
def ajD(ns:Ϝ):Int:=if 0<cell ns 1 % 3 then cell ns 1 % 10 ^ 40 else 0
def af0(ns:Ϝ)(k:Int):Int:=step ns*(((1+cell ns 1 / 3 % 66)*k+cell ns 0 / 3 % 67) % 67+1)+ajD ns
def anm(ns:Ϝ)(k:Int):Int:=if cell ns 1 % 5=4 then 10 ^ 60-af0 ns k else af0 ns k
def Ep{B:Ϝ}(h:∀x,x∈A->m<x)(l:∀x,x∈B->m<=x):good (A++m::B)=m::B++A:=by
 have hm:m∈A++m::B:=by simp
 have hl:∀a,a∈A++m::B->m<=a:=λa ha=>by
  rcases mAq.mp ha with q|q
  .exact gj (h a q)
  .rcases ah.mp q with rfl|q
   .exact gJ _
   .exact l a q
 have e:=C9 hm hl;have n:(A++m::B).idxOf m=A.length:=by
  rw[gU,qj (λq=>absurd (h m q) (Int.lt_irrefl m)),fZ,cA]
 unfold good rot;rw[←e,n,jE,iN]
def O1{t:Ϝ}(s:t≠[])(hn:t.Nodup):∃A m B,t=A++m::B/\(∀x,x∈A->m<x)/\∀x,x∈B->m<x:=by
 have hl:=eT.mpr s;obtain⟨l,u,z⟩:=zl t t.length;have l:=l hl;refine⟨t.take (qv t t.length),t[qv t t.length],t.drop (qv t t.length+1),?_,?_,?_⟩
 .rw[←aQ l,aT]
 .intro x n;obtain⟨j,E,rfl⟩:=List.mem_take_iff_getElem.mp n;have:=z j ∅
  rw[Av l,Av ∅]at this
  exact this
 .intro x n;obtain⟨j,E,rfl⟩:=List.mem_drop_iff_getElem.mp n;have a:=u (qv t t.length+1+j) ∅
  rw[Av l,Av ∅]at a
  have ne:t[qv t t.length]≠t[qv t t.length+1+j]:=cB.mp hn _ _ l ∅ ∅
  lia
def Kq(hn:t.Nodup)i:good (rot t i)=good t:=by
 by_cases s:t=[]
 .subst s;simp[rot]
 .obtain⟨A,m,B,rfl,l,n⟩:=O1 s hn;rw[Ep l (λx q=>gj (n x q))]
  by_cases c:i<=A.length
  .have e:rot (A++m::B) i=A.drop i++m::(B++A.take i):=by
    unfold rot;rw[List.drop_append_of_le_length c,List.take_append_of_le_length c];simp
   rw[e,Ep (λx q=>l x (bC q)) (λx q=>?_)]
   .simp
   .rcases mAq.mp q with q|q
    .exact gj (n x q)
    .exact gj (l x (bg q))
  .obtain⟨j,rfl⟩:∃j,i=A.length+(j+1):=⟨i-A.length-1,by lia⟩
   have e:rot (A++m::B) (A.length+(j+1))=(B.drop j++A)++m::B.take j:=by
    unfold rot;rw[List.take_append];simp[cu,bI]
   rw[e,Ep (λx q=>?_) (λx q=>gj (n x (bg q)))]
   .rw[dW,dW,←ao,aT]
   .rcases mAq.mp q with q|q
    .exact n x (bC q)
    .exact l x q
def rot_perm(t)i:(rot t i).Perm t:=by
 exact bQ.trans (by rw[aT])
def vt t:(good t).Perm t:=rot_perm t _
def Gz{rs n:Λ}(h:rs.Perm n):rs.flatten.Perm n.flatten:=by
 induction h with
 |nil=>exact .refl _
 |cons x _ s=>exact bX.append (.refl x) s
 |swap x y l=>
  rw[fCq,fCq,fCq,fCq,←ao,←ao];exact bX.append bQ (.refl _)
 |trans _ _ a b=>exact a.trans b
theorem yg{f:Ϝ->Ϝ}(l:∀r,(f r).Perm r):∀rs:Λ,(rs.map f).flatten.Perm rs.flatten
 | []=>.refl _
 |r::rs=>by
  exact bX.append (l r) (yg l rs)
def V8{rs:Λ}{r:Ϝ}(h:rs.flatten.Nodup)(hr:r∈rs):r.Nodup:=bo.sublist (ax hr) h
def Cf{rs:Λ}{r:Ϝ}(hr:r∈rs):r.length<=rs.flatten.length:=(ax hr).length_le
def Uz:∀t:Fin 66,∀d:Fin 67,0<d.val->(t.val+1)*d.val % 67≠0:=by trivial
end Mr
namespace MrS
open PySem PyProof.Rows
noncomputable def An:Bool->ke->Array ke->Nat->Nat->Nat->StateT SortSt Sem (Option Nat):=sortPriv% PySem.Builtin.gallop
structure Ea (prog:kr)(w:kz)(A:Around)(s:kc)(κ:kY)(P:ke->Prop)(lt:ke->ke->Bool):Prop where
 ask:∀x y,P x->P y->∀(E:Value->kc->Prop) (Q:Bool->kc->Prop),Q (lt x y) s->ki (kf prog w) A (keyLt' κ x.1 y.1) Q E s
 asym:∀x y,P x->P y->lt x y=true->lt y x=false
 trans:∀x y z,P x->P y->P z->lt y x=false->lt z y=false->lt z x=false
def Ea.refl(C:Ea prog w A s κ P lt)(l:P x):lt x x=false:=by
 cases e:lt x x with
 |false=>rfl
 |true=>rw[←C.asym x x l l e,e]
def Ea.cmp(C:Ea prog w A s κ P lt){st}(l:P x)(n:P y)(hk:kindOf st=κ)(h:Q (some (lt x y)) st) :
  wpS (kf prog w) A E s (lt' x y) Q st:=by
 rw[lt'_eq];refine kg (lX ?_);rw[hk];refine kg (wpS_lift (wpAny_attempt (C.ask x y l n _ _ ⟨rfl,?_⟩)));exact km h
def rF{st}(l:arr[i]?=some x)(h:Q x st):wpS (kf prog w) A E s (lj arr i) Q st:=by
 rw[elem'_eq,l];exact km h
def Ea.at(C:Ea prog w A s κ P lt){st}(hi:(kB st)[i]?=some x)(l:(kB st)[j]?=some y)(n:P x)(t:P y)(hk:kindOf st=κ)(h:Q (some (lt x y)) st) :
  wpS (kf prog w) A E s (ltAt' i j) Q st:=by
 refine kg (lX ?_);exact kg (rF hi (kg (rF l (C.cmp n t hk h))))
noncomputable def Cb(lt:ke->ke->Bool)(left:Bool)(key:ke)(arr:Array ke)(base i:Nat):Bool:=
 if left then lt (arr.getD (base+i) key) key else !lt key (arr.getD (base+i) key)
def SJ(left)key arr base n l:An left key arr base n l=(do
 let B i:StateT SortSt Sem (Option Bool):=do
  let x ←lj arr (base+i)
  if left then lt' x key else return (←lt' key x).map (!·)
 let mut t:=0
 let mut z:=1
 let mut lo:=0
 let mut hi:=0
 let some right ←B l|return none
 if right then
  let u:=n-l
  for _ in [0:n]do
   if z ≥ u then break
   let some more ←B (l+z)|return none
   if !more then break
   t:=z
   z:=2*z+1
  lo:=l+t+1
  hi:=l+min z u
 else
  let u:=l+1
  for _ in [0:n]do
   if z ≥ u then break
   let some found ←B (l-z)|return none
   if found then break
   t:=z
   z:=2*z+1
  lo:=l+1-min z u
  hi:=l-t
 for _ in [0:n]do
  if lo ≥ hi then break
  let m:=lo+(hi-lo) / 2
  let some more ←B m|return none
  if more then lo:=m+1 else hi:=m
 return some hi):=rfl
def zU(C:Ea prog w A s κ P lt){st}(hi:base+i<arr.size)(ha:∀x,x∈arr->P x)(l:P key)(hk:kindOf st=κ)
  (h:Q (some (Cb lt left key arr base i)) st):wpS (kf prog w) A E s (do
   let x ←lj arr (base+i)
   if left=true then lt' x key else do
    let n ←lt' key x
    pure (n.map (!·))) Q st:=by
 have e:=af hi;have u:arr.getD (base+i) key=arr[base+i]:=by simp[iY,hi]
 refine kg (rF e ?_);have t:=ha _ (bp hi);unfold Cb at h;rw[u]at h;cases left with
 |true=>
  exact C.cmp t l hk h
 |false=>
  exact kg (C.cmp l t hk (km h))
def HR{lo}{st:SortSt}
  (mono:∀i j,i<=j->j<n->Cb lt left key arr base j=true->Cb lt left key arr base i=true)
  (x:∀i j,i<=j->j<n->Cb lt left key arr base i=false->Cb lt left key arr base j=false)
  (M:∀i l u B,u<=n->(u<=l->B (.done (none,l,u)) st)->(l<u->Cb lt left key arr base (l+(u-l) / 2)=true->B (.yield (none,l+(u-l) / 2+1,u)) st) ->
   (l<u->Cb lt left key arr base (l+(u-l) / 2)=false->B (.yield (none,l,l+(u-l) / 2)) st)->wpS (kf prog w) A E s (f i (none,l,u)) B st)
  (O:lo<=hi) (Q:hi<=n) (R:∀j,j<lo->Cb lt left key arr base j=true) (S:∀j,hi<=j->j<n->Cb lt left key arr base j=false) :
  wpS (kf prog w) A E s (forIn [:n] ((none,lo,hi):Option (Option Nat)×Nat×Nat) f)
   (λc t=>∃k,c=(none,k,k)/\t=st/\k<=n/\(∀j,j<k->Cb lt left key arr base j=true)/\(∀j,k<=j->j<n->Cb lt left key arr base j=false)) st:=by
 refine kQ
  (I:=λi c t=>∃l u,c=(none,l,u)/\t=st/\l<=u/\u<=n/\(∀j,j<l->Cb lt left key arr base j=true)/\(∀j,u<=j->j<n->Cb lt left key arr base j=false)/\(u-l)+i<=n)
  ?step ?fin ⟨lo,hi,rfl,rfl,O,Q,R,S,by lia⟩
 case step=>
  rintro i c t _ T ⟨l,u,rfl,rfl,U,z,G,H,X⟩;refine M i l u _ z (λJ=>?_) (λJ e=>?_) (λJ e=>?_)
  .have e:l=u:=by lia
   subst e;exact⟨l,rfl,rfl,z,G,H⟩
  .exact⟨_,u,rfl,rfl,by lia,z,λj L=>mono j _ ∅ ∅ e,H,by lia⟩
  .exact⟨l,_,rfl,rfl,by lia,by lia,G,λj L hn=>x _ j L hn e,by lia⟩
 case fin=>
  rintro c t ⟨l,u,rfl,rfl,U,z,G,H,X⟩;have e:l=u:=by lia
  subst e;exact⟨l,rfl,rfl,z,G,H⟩
def yl(C:Ea prog w A s κ P lt){st}(hh:t<n)(hb:base+n<=arr.size)(ha:∀x,x∈arr->P x)(z:P key)(hk:kindOf st=κ)
  (mono:∀i j,i<=j->j<n->Cb lt left key arr base j=true->Cb lt left key arr base i=true)
  (h:∀k,k<=n->(∀j,j<k->Cb lt left key arr base j=true)->(∀j,k<=j->j<n->Cb lt left key arr base j=false)->Q (some k) st) :
  wpS (kf prog w) A E s (An left key arr base n t) Q st:=by
 have G:∀i j,i<=j->j<n->Cb lt left key arr base i=false->Cb lt left key arr base j=false:=λi j T R e=>by
  cases q:Cb lt left key arr base j with
  |false=>rfl
  |true=>rw[mono i j T R q]at e;cases e
 rw[SJ];dsimp only;refine kg (zU C (base:=base) (i:=t) ∅ ha z hk ?_)
 cases er:Cb lt left key arr base t with
 |true=>
  dsimp only;rw[qf rfl];refine kg (kR (kQ
   (I:=λi c u=>∃l o,c=(none,l,o)/\u=st/\l<o/\i+1<=o/\t+l<n/\Cb lt left key arr base (t+l)=true)
   (Q:=λc u=>∃l o,c=(none,l,o)/\u=st/\l<o/\t+l<n/\Cb lt left key arr base (t+l)=true/\(n-t<=o∨(t+o<n/\Cb lt left key arr base (t+o)=false)))
   ?step ?fin ⟨0,1,rfl,rfl,by lia,by lia,by lia,er⟩) ?post)
  case step=>
   rintro i c u _ U ⟨l,o,rfl,rfl,L,X,J,H⟩;dsimp only
   by_cases B:o ≥ n-t
   .rw[qf B];exact km ⟨l,o,rfl,rfl,L,J,H,.inl B⟩
   .rw[qj B];refine kg (zU C (base:=base) (i:=t+o) ∅ ha z hk ?_)
    cases e:Cb lt left key arr base (t+o)with
    |true=>
     dsimp only;rw[qj ⋯]
     exact km ⟨o,_,rfl,rfl,by lia,by lia,by lia,e⟩
    |false=>
     dsimp only;rw[qf ⋯]
     exact km ⟨l,o,rfl,rfl,L,J,H,.inr ⟨by lia,e⟩⟩
  case fin=>
   rintro c u ⟨l,o,rfl,rfl,L,X,J,H⟩;exact⟨l,o,rfl,rfl,L,J,H,.inl ∅⟩
  case post=>
   rintro c u ⟨l,o,rfl,rfl,L,J,H,O⟩;dsimp only;refine kg (kR (HR (lt:=lt) (left:=left) (key:=key) (arr:=arr) (base:=base) mono G (λi M S Q' hu q1 Y q3=>?_) ∅ ∅ (λj R=>mono j _ ∅ J H) ?_) ?_)
   .dsimp only
    by_cases B:M ≥ S
    .rw[qf B];exact km (q1 B)
    .rw[qj B];refine kg (zU C (base:=base) (i:=M+(S-M) / 2) ∅ ha z hk ?_)
     cases e:Cb lt left key arr base (M+(S-M) / 2)with
     |true=>
      dsimp only;rw[qf rfl];exact km (Y ∅ e)
     |false=>
      dsimp only;rw[qj ⋯]
      exact km (q3 ∅ e)
   .intro j R hn;rcases O with O|⟨O,a6⟩
    .lia
    .exact G (t+o) j ∅ hn a6
   .rintro c u ⟨k,rfl,rfl,k1,k2,k3⟩;exact km (h k k1 k2 k3)
 |false=>
  dsimp only;rw[qj ⋯]
  refine kg (kR (kQ
   (I:=λi c u=>∃l o,c=(none,l,o)/\u=st/\l<o/\i+1<=o/\l<=t/\Cb lt left key arr base (t-l)=false)
   (Q:=λc u=>∃l o,c=(none,l,o)/\u=st/\l<o/\l<=t/\Cb lt left key arr base (t-l)=false/\(t+1<=o∨(o<=t/\Cb lt left key arr base (t-o)=true)))
   ?step ?fin ⟨0,1,rfl,rfl,by lia,by lia,by lia,er⟩) ?post)
  case step=>
   rintro i c u _ U ⟨l,o,rfl,rfl,L,X,J,H⟩;dsimp only
   by_cases B:o ≥ t+1
   .rw[qf B];exact km ⟨l,o,rfl,rfl,L,J,H,.inl B⟩
   .rw[qj B];refine kg (zU C (base:=base) (i:=t-o) ∅ ha z hk ?_)
    cases e:Cb lt left key arr base (t-o)with
    |true=>
     dsimp only;rw[qf rfl];exact km ⟨l,o,rfl,rfl,L,J,H,.inr ⟨by lia,e⟩⟩
    |false=>
     dsimp only;rw[qj ⋯]
     exact km ⟨o,_,rfl,rfl,by lia,by lia,by lia,e⟩
  case fin=>
   rintro c u ⟨l,o,rfl,rfl,L,X,J,H⟩;exact⟨l,o,rfl,rfl,L,J,H,.inl ∅⟩
  case post=>
   rintro c u ⟨l,o,rfl,rfl,L,J,H,O⟩;dsimp only;refine kg (kR (HR (lt:=lt) (left:=left) (key:=key) (arr:=arr) (base:=base) mono G (λi M S Q' hu q1 Y q3=>?_) ∅ ∅ ?_ (λj R hn=>G _ j R hn H)) ?_)
   .dsimp only
    by_cases B:M ≥ S
    .rw[qf B];exact km (q1 B)
    .rw[qj B];refine kg (zU C (base:=base) ∅ ha z hk ?_)
     cases e:Cb lt left key arr base (M+(S-M) / 2)with
     |true=>
      exact km (Y ∅ e)
     |false=>
      exact km (q3 ∅ e)
   .intro j R;rcases O with O|⟨O,a6⟩
    .lia
    .exact mono j (t-o) ∅ ∅ a6
   .rintro c u ⟨k,rfl,rfl,k1,k2,k3⟩;exact km (h k k1 k2 k3)
abbrev BG(lt:ke->ke->Bool)(l:List ke):Prop:=l.Pairwise λx y=>lt y x=false
structure MI (lt:ke->ke->Bool)(a b out:Array ke)(ia ib:Nat):Prop where
 la:ia<=a.size
 lb:ib<=b.size
 pm:(out.toList++(a.toList.drop ia++b.toList.drop ib)).Perm (a.toList++b.toList)
 so:BG lt out.toList
 ua:∀x∈out.toList,∀y∈a.toList.drop ia,lt y x=false
 ub:∀x∈out.toList,∀y∈b.toList.drop ib,lt y x=false
def MI.congr(m:MI lt a b out ia ib)(e:out'.toList=out.toList):MI lt a b out' ia ib:=⟨m.la,m.lb,by rw[e];exact m.pm,by rw[e];exact m.so,by rw[e];exact m.ua,by rw[e];exact m.ub⟩
def Qv(l:List ke)i k:l.drop i=(l.drop i).take k++l.drop (i+k):=by
 rw[←List.drop_drop,aT]
def Cn(a:Array ke)i k:(a.extract i (i+k)).toList=(a.toList.drop i).take k:=by
 rw[gb,List.extract_eq_take_drop,ij]
def MI.moreA(m:MI lt a b out ia ib)(sa:BG lt a.toList)(hk:ia+k<=a.size)(h:∀x∈(a.toList.drop ia).take k,∀y∈b.toList.drop ib,lt y x=false):MI lt a b (out++a.extract ia (ia+k)) (ia+k) ib:=by
 have e:(out++a.extract ia (ia+k)).toList=out.toList++(a.toList.drop ia).take k:=by rw[aS,Cn]
 have t:BG lt (a.toList.drop ia):=sa.sublist (bY _ _);have c:=Qv a.toList ia k;have s:=t;rw[c]at s;obtain⟨q1,z,u⟩:=aU.mp s;refine⟨hk,m.lb,?_,?_,?_,?_⟩
 .rw[e,ao];refine(bX.append_left _ ?_).trans m.pm;rw[←ao,←c]
 .rw[e];exact aU.mpr ⟨m.so,q1,λx l y n=>m.ua x l y (bg n)⟩
 .rw[e];intro x l y n;rcases mAq.mp l with l|l
  .exact m.ua x l y (by rw[c];exact ay _ n)
  .exact u x l y n
 .rw[e];intro x l y n;rcases mAq.mp l with l|l
  .exact m.ub x l y n
  .exact h x l y n
def MI.moreB(m:MI lt a b out ia ib)(sb:BG lt b.toList)(hk:ib+k<=b.size)(h:∀x∈(b.toList.drop ib).take k,∀y∈a.toList.drop ia,lt y x=false):MI lt a b (out++b.extract ib (ib+k)) ia (ib+k):=by
 have e:(out++b.extract ib (ib+k)).toList=out.toList++(b.toList.drop ib).take k:=by rw[aS,Cn]
 have t:BG lt (b.toList.drop ib):=sb.sublist (bY _ _);have c:=Qv b.toList ib k;have s:=t;rw[c]at s;obtain⟨q1,z,u⟩:=aU.mp s;refine⟨m.la,hk,?_,?_,?_,?_⟩
 .rw[e,ao];refine(bX.append_left _ ?_).trans m.pm;refine((List.perm_append_comm_assoc _ _ _).trans ?_);rw[←c]
 .rw[e];exact aU.mpr ⟨m.so,q1,λx l y n=>m.ub x l y (bg n)⟩
 .rw[e];intro x l y n;rcases mAq.mp l with l|l
  .exact m.ua x l y n
  .exact h x l y n
 .rw[e];intro x l y n;rcases mAq.mp l with l|l
  .exact m.ub x l y (by rw[c];exact ay _ n)
  .exact u x l y n
def BJ{l:List ke}(h:l[i]?=some x):(l.drop i).take 1=[x]:=by
 obtain⟨hi,e⟩:=gSq.mp h;rw[aQ hi,e];rfl
def MI.pushA(m:MI lt a b out ia ib)(sa:BG lt a.toList)(n:a[ia]?=some x)(h:∀y∈b.toList.drop ib,lt y x=false):MI lt a b (out.push x) (ia+1) ib:=by
 have hi:=(aK.mp n).1;have l:a.toList[ia]?=some x:=by rw[aO];exact n
 refine(m.moreA sa hi λz s y t=>?_).congr ?_
 .rw[BJ l,mSq]at s;rw[s];exact h y t
 .rw[eF,aS,Cn,BJ l]
def MI.pushB(m:MI lt a b out ia ib)(sb:BG lt b.toList)(n:b[ib]?=some x)(h:∀y∈a.toList.drop ia,lt y x=false):MI lt a b (out.push x) ia (ib+1):=by
 have hi:=(aK.mp n).1;have l:b.toList[ib]?=some x:=by rw[aO];exact n
 refine(m.moreB sb hi λz s y t=>?_).congr ?_
 .rw[BJ l,mSq]at s;rw[s];exact h y t
 .rw[eF,aS,Cn,BJ l]
structure Mrg (lt:ke->ke->Bool)(a b r:Array ke):Prop where
 pm:r.toList.Perm (a.toList++b.toList)
 so:BG lt r.toList
def A2(a:Array ke)i:(a.extract i a.size).toList=a.toList.drop i:=by
 rw[gb];exact bI (by rw[aC];exact ae _)
def MI.endB(m:MI lt a b out ia ib)(sa:BG lt a.toList)(e:ib=b.size):Mrg lt a b (out++a.extract ia a.size++b.extract ib b.size):=by
 have l:b.toList.drop ib=[]:=by rw[e,←aH,de]
 have n:(out++a.extract ia a.size++b.extract ib b.size).toList=out.toList++a.toList.drop ia:=by
  rw[aS,aS,A2,A2,l,aNq]
 have pm:=m.pm;rw[l,aNq]at pm;exact⟨by rw[n];exact pm,by rw[n];exact aU.mpr ⟨m.so,sa.sublist (bY _ _),m.ua⟩⟩
def MI.endA(m:MI lt a b out ia ib)(sb:BG lt b.toList)(e:ia=a.size):Mrg lt a b (out++a.extract ia a.size++b.extract ib b.size):=by
 have l:a.toList.drop ia=[]:=by rw[e,←aH,de]
 have n:(out++a.extract ia a.size++b.extract ib b.size).toList=out.toList++b.toList.drop ib:=by
  rw[aS,aS,A2,A2,l,aNq]
 have pm:=m.pm;rw[l]at pm;exact⟨by rw[n];exact pm,by rw[n];exact aU.mpr ⟨m.so,sb.sublist (bY _ _),m.ub⟩⟩
def MI.lastA(m:MI lt a b out ia ib)(sa:BG lt a.toList)(sb:BG lt b.toList)(h:∀x∈b.toList.drop ib,∀y∈a.toList.drop ia,lt y x=false):Mrg lt a b (out++b.extract ib b.size++a.extract ia a.size):=by
 have n:(out++b.extract ib b.size++a.extract ia a.size).toList=out.toList++(b.toList.drop ib++a.toList.drop ia):=by
  rw[aS,aS,A2,A2,ao]
 refine⟨?_,?_⟩
 .rw[n];exact(bX.append_left _ bQ).trans m.pm
 .rw[n];refine aU.mpr ⟨m.so,aU.mpr ⟨sb.sublist (bY _ _),sa.sublist (bY _ _),h⟩,λx s y l=>?_⟩
  rcases mAq.mp l with l|l
  .exact m.ub x s y l
  .exact m.ua x s y l
def Ql:Array ke->Array ke->StateT SortSt Sem (Array ke):=sortPriv% PySem.Builtin.mergeLo
def wF:Nat->StateT SortSt Sem Unit:=sortPriv% PySem.Builtin.setMinGallop
noncomputable abbrev sg(st:SortSt)(g:Nat):SortSt:=SortSt.mk' (kindOf st) (kB st) (lF st) g (failedOf st)
section
variable (a b:Array ke)
noncomputable abbrev dn(o:Array ke)(i j:Nat):=o++a.extract i a.size++b.extract j b.size
noncomputable abbrev lA(o:Array ke)(i j:Nat):=o++b.extract j b.size++a.extract i a.size
abbrev SF(α:Type):=ForInStep (Option (Array ke)×Array ke×Nat×Nat×α)
noncomputable def loC(o:Array ke)(i j m k l:Nat):StateT SortSt Sem (SF (Nat×Nat×Nat)):=do
 let x ←lj a i
 if i+1+1 == a.size then pure (.done (some (lA a b (o.push x) (i+1) j),o.push x,i+1,j,m,k,l))
 else if decide (k<7) && decide (l<7)then pure (.done (none,o.push x,i+1,j,m,k,l))
 else pure (.yield (none,o.push x,i+1,j,m,k,l))
def loB(o:Array ke)(i j m k q:Nat):StateT SortSt Sem (SF (Nat×Nat×Nat)):=do
 let x ←lj b j
 if j+1 == b.size then pure (.done (some (dn a b (o.push x) i (j+1)),o.push x,i,j+1,m,k,q))
 else do
  let y ←lj a i
  match ←An true y b (j+1) (b.size-(j+1)) 0 with
  |some l=>
   if l>0 then
    if j+1+l == b.size then pure (.done (some (dn a b (o.push x++b.extract (j+1) (j+1+l)) i (j+1+l)),o.push x++b.extract (j+1) (j+1+l),i,j+1+l,m,k,l))
    else loC a b (o.push x++b.extract (j+1) (j+1+l)) i (j+1+l) m k l
   else loC a b (o.push x) i (j+1) m k l
  |_=>pure (.done (some (dn a b (o.push x) i (j+1)),o.push x,i,j+1,m,k,q))
def loA(o:Array ke)(i j m p q:Nat):StateT SortSt Sem (SF (Nat×Nat×Nat)):=do
 wF m
 let x ←lj b j
 match ←An false x a i (a.size-i) 0 with
 |some k=>
  if k>0 then
   if i+k+1 == a.size then pure (.done (some (lA a b (o++a.extract i (i+k)) (i+k) j),o++a.extract i (i+k),i+k,j,m,k,q))
   else if i+k == a.size then pure (.done (some (dn a b (o++a.extract i (i+k)) (i+k) j),o++a.extract i (i+k),i+k,j,m,k,q))
   else loB a b (o++a.extract i (i+k)) (i+k) j m k q
  else loB a b o i j m k q
 |_=>pure (.done (some (dn a b o i j),o,i,j,m,p,q))
noncomputable def lo1(m:Nat)(o:Array ke)(i j p q:Nat):StateT SortSt Sem (SF (Nat×Nat)):=do
 let y ←lj b j
 let x ←lj a i
 match ←lt' y x with
 |some c=>
  if c then do
   let z ←lj b j
   if j+1 == b.size then pure (.done (some (dn a b (o.push z) i (j+1)),o.push z,i,j+1,0,q+1))
   else if q+1 ≥ m then pure (.done (none,o.push z,i,j+1,0,q+1))
   else pure (.yield (none,o.push z,i,j+1,0,q+1))
  else do
   let z ←lj a i
   if i+1+1 == a.size then pure (.done (some (lA a b (o.push z) (i+1) j),o.push z,i+1,j,p+1,0))
   else if p+1 ≥ m then pure (.done (none,o.push z,i+1,j,p+1,0))
   else pure (.yield (none,o.push z,i+1,j,p+1,0))
 |_=>pure (.done (some (dn a b o i j),o,i,j,p,q))
noncomputable def lo0(o:Array ke)(i j m:Nat):StateT SortSt Sem (SF Nat):=do
 let r ←forIn [0:a.size+b.size] (none,o,i,j,0,0) λ_ s=>lo1 a b m s.2.1 s.2.2.1 s.2.2.2.1 s.2.2.2.2.1 s.2.2.2.2.2
 Break.runK.match_1 (λ_=>StateT SortSt Sem (SF Nat)) r.1 (λv=>pure (.done (some v,r.2.1,r.2.2.1,r.2.2.2.1,m))) λ_=>do
  rule "list.sort.gallop"
  let r ←forIn [0:a.size+b.size] (none,r.2.1,r.2.2.1,r.2.2.2.1,m+1,r.2.2.2.2.1,r.2.2.2.2.2) λ_ s=>if s.2.2.2.2.1>1 then loA a b s.2.1 s.2.2.1 s.2.2.2.1 (s.2.2.2.2.1-1) s.2.2.2.2.2.1 s.2.2.2.2.2.2 else loA a b s.2.1 s.2.2.1 s.2.2.2.1 s.2.2.2.2.1 s.2.2.2.2.2.1 s.2.2.2.2.2.2
  Break.runK.match_1 (λ_=>StateT SortSt Sem (SF Nat)) r.1 (λv=>pure (.done (some v,r.2.1,r.2.2.1,r.2.2.2.1,r.2.2.2.2.1))) λ_=>do
   wF (r.2.2.2.2.1+1)
   pure (.yield (none,r.2.1,r.2.2.1,r.2.2.2.1,r.2.2.2.2.1+1))
end
section
def B3{st}(h:Q () (sg st g)):wpS (kf prog w) A E s (wF g) Q st:=by
 exact lN h
def Bg{st}(h:Q () st):wpS (kf prog w) A E s (liftM (rule x):StateT SortSt Sem Unit) Q st:=wpS_lift (wpAny_rule ⟨rfl,h⟩)
def Iv(C:Ea prog w A s κ P lt){a:Array ke}(ha:∀x,x∈a->P x)(sa:BG lt a.toList)(u:a[i]?=some x):∀y∈a.toList.drop i,lt y x=false:=by
 obtain⟨hi,e⟩:=aK.mp u;have l:=by simpa using hi
 have z:a.toList[i]=x:=by simpa using e
 have t:BG lt (a.toList.drop i):=sa.sublist (bY _ _);rw[aQ l,z]at t ⊢;intro y n;rcases ah.mp n with rfl|n
 .exact C.refl (ha _ (by rw[←e];exact bp hi))
 .exact(cf.mp t).1 y n
def zM{a:Array ke}(h:y∈a.toList.drop i):y∈a:=by simpa using bC h
def GL(C:Ea prog w A s κ P lt)(hb:base+n<=arr.size)(ha:∀x,x∈arr->P x)(l:P key)(so:BG lt (arr.toList.drop base)) :
  ∀i j,i<=j->j<n->Cb lt left key arr base j=true->Cb lt left key arr base i=true:=by
 intro i j z L h;have t:base+i<arr.size:=by lia
 have u:base+j<arr.size:=by lia
 have H:arr.getD (base+i) key=arr[base+i]:=by simp[iY,t]
 have I:arr.getD (base+j) key=arr[base+j]:=by simp[iY,u]
 have B:=ha _ (bp t);have G:=ha _ (bp u);have le:lt arr[base+j] arr[base+i]=false:=by
  rcases eX z with q|q
  .have:=cB.mp so i j (by simp;lia) (by simp;lia) q
   simpa using this
  .subst q;exact C.refl B
 unfold Cb at h ⊢;rw[H];rw[I]at h;cases left with
 |true=>
  rw[qf rfl]at h ⊢;cases q:lt arr[base+i] key with
  |true=>rfl
  |false=>
   have:=C.trans key arr[base+i] arr[base+j] l B G q le;rw[h]at this;cases this
 |false=>
  have J:=by simpa using h
  have:=C.trans arr[base+i] arr[base+j] key B G l le J;simp[this]
def xF(l:arr[base+i]?=some x):Cb lt left key arr base i=if left then lt x key else !lt key x:=by
 obtain⟨hi,e⟩:=aK.mp l;unfold Cb;have n:arr.getD (base+i) key=x:=by simp[iY,hi,e]
 rw[n]
def AL{a:Array ke}(h:x∈(a.toList.drop i).take k):∃j,j<k/\a[i+j]?=some x:=by
 obtain⟨j,l,e⟩:=cJ.mp h;rw[lTq]at l;refine⟨j,by lia,?_⟩
 rw[aK];have n:i+j<a.size:=by
  rw[aC,aH]at l;lia
 exact⟨n,by simpa using e⟩
def Du{a:Array ke}(h:x∈a.toList.drop i):∃j,i+j<a.size/\a[i+j]?=some x:=by
 obtain⟨j,n,e⟩:=cJ.mp h;rw[aC,aH]at n;have l:i+j<a.size:=by lia
 refine⟨j,l,?_⟩;rw[aK];exact⟨l,by simpa using e⟩
inductive Lp {ρ τ ι σ:Type}(t:ι->τ)(v:ι->σ)(J K:ι->Prop)(R:ρ->σ->Prop):ForInStep (Option ρ×τ)->σ->Prop
 |y (x):J x->Lp t v J K R (.yield (none,t x)) (v x)
 |d (x):K x->Lp t v J K R (.done (none,t x)) (v x)
 |r (a y st):R a st->Lp t v J K R (.done (some a,y)) st
def Bo{M}t v(J:Nat->ι->Prop)K R{f}{k:Option ρ×τ->StateT σ Sem β}{Q}
  x (h:J 0 x) (step:∀i x,J i x->wpS M A E s (f i (none,t x)) (Lp t v (J (i+1)) K R) (v x)) (fin:∀x,J n x->K x) (pn:∀x,K x->wpS M A E s (k (none,t x)) Q (v x)) (ps:∀r y st,R r st->wpS M A E s (k (some r,y)) Q st) :
  wpS M A E s (forIn [0:n] (none,t x) f >>= k) Q (v x):=by
 refine kg (kR (kQ (I:=λi c st=>∃x,c=(none,t x)/\st=v x/\J i x) (Q:=λc st=>Lp t v K K R (.done c) st) ?_ ?_ ⟨x,rfl,rfl,h⟩) ?_)
 .rintro i c st _ _ ⟨x,rfl,rfl,h⟩;refine kR (step i x h) λr l hr=>?_
  cases hr with
  |y x h=>exact⟨x,rfl,rfl,h⟩
  |d x h=>exact .d x h
  |r a y st h=>exact .r a y _ h
 .rintro c st ⟨x,rfl,rfl,h⟩;exact .d x (fin x h)
 .rintro c st h;cases h with
  |d x h=>exact pn x h
  |r a y st h=>exact ps a y _ h
structure Ls where
 o:Array ke
 (i j m p q g:Nat)
structure ML (lt:ke->ke->Bool)(a b:Array ke)(n:Nat)(x:Ls):Prop where
 m:MI lt a b x.o x.i x.j
 p:x.i+1<a.size
 q:x.j<b.size
 r:n<=x.i+x.j
structure Lo (prog:kr)(w:kz)(A:Around)(s:kc)(κ:kY)(P:ke->Prop)(lt:ke->ke->Bool)(a b:Array ke)(st:SortSt)(Q:Array ke->SortSt->Prop):Prop where
 C:Ea prog w A s κ P lt
 ha:∀x,x∈a->P x
 hb:∀x,x∈b->P x
 hk:kindOf st=κ
 sa:BG lt a.toList
 sb:BG lt b.toList
 h:∀r g,Mrg lt a b r->Q r (sg st g)
noncomputable abbrev L6(x:Ls):=(x.o,x.i,x.j,x.m,x.p,x.q)
noncomputable abbrev L5(x:Ls):=(x.o,x.i,x.j,x.p,x.q)
noncomputable abbrev L4(x:Ls):=(x.o,x.i,x.j,x.m)
variable {st:SortSt}
abbrev Hl(lt:ke->ke->Bool)(a b:Array ke):=∀i,i+1=a.size->∀x∈b.toList,∀y∈a.toList.drop i,lt y x=false
def Zu(H:Lo prog w A s κ P lt a b st Q)(hl:Hl lt a b)(q:ML lt a b n x)(hi:∀z,a[x.i]?=some z->∀y∈b.toList.drop x.j,lt y z=false) :
  wpS (kf prog w) A E s (loC a b x.o x.i x.j x.m x.p x.q) (Lp L6 (λx=>sg st x.g) (ML lt a b n) (ML lt a b n) Q) (sg st x.g):=by
 have G:=q.p;have l:a[x.i]?=some a[x.i]:=af ∅
 refine kg (rF l ?_);have u:=q.m.pushA H.sa l (hi _ l)
 by_cases t:x.i+1+1=a.size
 .rw[qf (by simp[t])]
  exact km (.r _ _ _ (H.h _ _ (u.lastA H.sa H.sb λy B=>hl _ t y (bC B))))
 rw[qj (by simpa using t)]
 have R:ML lt a b n ⟨_,_,_,x.m,x.p,x.q,x.g⟩:=⟨u,by lia,q.q,by have:=q.r;dsimp only;lia⟩
 split
 .exact km (.d _ R)
 .exact km (.y _ R)
def Yf(H:Lo prog w A s κ P lt a b st Q)(hl:Hl lt a b)(q:ML lt a b n x)(hi:∀z,b[x.j]?=some z->∀y∈a.toList.drop x.i,lt y z=false) :
  wpS (kf prog w) A E s (loB a b x.o x.i x.j x.m x.p x.q) (Lp L6 (λx=>sg st x.g) (ML lt a b n) (ML lt a b n) Q) (sg st x.g):=by
 have R:=q.p;have p2:=q.q;have p3:=q.r;have G:b[x.j]?=some b[x.j]:=af p2;refine kg (rF G ?_);have I:=q.m.pushB H.sb G (hi _ G)
 by_cases J:x.j+1=b.size
 .rw[qf (by simp[J])]
  exact km (.r _ _ _ (H.h _ _ (I.endB H.sa J)))
 rw[qj (by simpa using J)]
 have L:a[x.i]?=some a[x.i]:=af ∅
 have u:=H.ha _ (bp (show x.i<a.size by lia))
 refine kg (rF L (kg (yl H.C (base:=x.j+1) (n:=b.size-(x.j+1)) ∅ ∅ H.hb u H.hk (GL H.C ∅ H.hb u (H.sb.sublist (bY _ _))) λl l1 l2 l3=>?_)))
 have S:∀z,a[x.i]?=some z->∀y∈b.toList.drop (x.j+1+l),lt y z=false:=λz T y B=>by
  obtain⟨M,t,ey⟩:=Du B;have q:=l3 (l+M) ∅ ∅
  rw[xF (by rw[←fF];exact ey),qf rfl]at q
  rw[L]at T;cases T;exact q
 dsimp only
 by_cases cl:l>0
 .rw[qf cl];have U:=I.moreB H.sb (k:=l) ∅ λx X y B=>by
   obtain⟨M,t,ex⟩:=AL X;have q:=l2 M t;rw[xF ex,qf rfl]at q;have Y:=H.hb x (bg X |> zM);exact H.C.trans _ _ _ Y u (H.ha _ (zM B)) (H.C.asym _ _ Y u q) (Iv H.C H.ha H.sa L y B)
  by_cases O:x.j+1+l=b.size
  .rw[qf (by simp[O])]
   exact km (.r _ _ _ (H.h _ _ (U.endB H.sa O)))
  rw[qj (by simpa using O)]
  exact Zu H hl (x:=⟨_,_,_,_,_,_,x.g⟩) ⟨U,R,by dsimp only;lia,by dsimp only;lia⟩ S
 .rw[qj cl];exact Zu H hl (x:=⟨_,_,_,_,_,_,x.g⟩) ⟨I,R,by lia,by lia⟩ (by rw[show x.j+1=x.j+1+l by lia];exact S)
def abx(H:Lo prog w A s κ P lt a b st Q)(hl:Hl lt a b)(q:ML lt a b n x) :
  wpS (kf prog w) A E s (loA a b x.o x.i x.j x.m x.p x.q) (Lp L6 (λx=>sg st x.g) (ML lt a b n) (ML lt a b n) Q) (sg st x.g):=by
 have U:=q.p;have u:=q.q;have X:=q.r;have I:b[x.j]?=some b[x.j]:=af u;have B:=H.hb _ (bp u);refine kg (B3 (kg (rF I (kg (yl H.C (base:=x.i) (n:=a.size-x.i) ∅ ∅ H.ha B H.hk (GL H.C ∅ H.ha B (H.sa.sublist (bY _ _))) λk k1 Y k3=>?_)))))
 have R:∀z,b[x.j]?=some z->∀y∈a.toList.drop (x.i+k),lt y z=false:=λz S y l=>by
  obtain⟨J,t,ey⟩:=Du l;have q:=k3 (k+J) ∅ ∅
  rw[xF (by rw[←fF];exact ey),qj ⋯]at q
  rw[I]at S;cases S;exact H.C.asym _ _ B (H.ha _ (zM l)) (by simpa using q)
 dsimp only
 by_cases T:k>0
 .rw[qf T];have L:=q.m.moreA H.sa (k:=k) ∅ λx G y l=>by
   obtain⟨J,t,ex⟩:=AL G;have q:=Y J t;rw[xF ex,qj ⋯]at q
   exact H.C.trans _ _ _ (H.ha x (bg G |> zM)) B (H.hb _ (zM l)) (by simpa using q) (Iv H.C H.hb H.sb I y l)
  by_cases M:x.i+k+1=a.size
  .rw[qf (by simp[M])]
   exact km (.r _ _ _ (H.h _ x.m (L.lastA H.sa H.sb λx G=>hl _ M x (bC G))))
  rw[qj (by simpa using M)]
  by_cases O:x.i+k=a.size
  .rw[qf (by simp[O])]
   exact km (.r _ _ _ (H.h _ x.m (L.endA H.sb O)))
  rw[qj (by simpa using O)]
  exact Yf H hl (x:=⟨_,_,_,_,_,_,x.m⟩) ⟨L,by dsimp only;lia,u,by dsimp only;lia⟩ R
 .rw[qj T];exact Yf H hl (x:=⟨_,_,_,_,_,_,x.m⟩) ⟨q.m,U,u,X⟩ (by rw[show x.i=x.i+k by lia];exact R)
def agS(H:Lo prog w A s κ P lt a b st Q)(hl:Hl lt a b)(q:ML lt a b (n+j) x) :
  wpS (kf prog w) A E s (lo1 a b m x.o x.i x.j x.p x.q) (Lp L5 (λx=>sg st x.g) (ML lt a b (n+(j+1))) (ML lt a b (n+1)) Q) (sg st x.g):=by
 have M:=q.p;have L:=q.q;have S:=q.r;have B:a[x.i]?=some a[x.i]:=af ∅
 have G:b[x.j]?=some b[x.j]:=af L;have I:=H.ha _ (bp (show x.i<a.size by lia))
 have J:=H.hb _ (bp L);refine kg (rF G (kg (rF B (kg (H.C.cmp J I H.hk ?_)))));cases e:lt b[x.j] a[x.i]with
 |true=>
  dsimp only;rw[qf rfl];refine kg (rF G ?_);have t:=q.m.pushB H.sb G λz u=>H.C.trans _ _ _ J I (H.ha _ (zM u)) (H.C.asym _ _ J I e) (Iv H.C H.ha H.sa B z u)
  by_cases l:x.j+1=b.size
  .rw[qf (by simp[l])]
   exact km (.r _ _ _ (H.h _ _ (t.endB H.sa l)))
  rw[qj (by simpa using l)]
  have R:∀n,n<=x.i+(x.j+1)->ML lt a b n ⟨_,_,_,0,0,x.q+1,x.g⟩:=λn hn=>⟨t,M,by lia,hn⟩
  split
  .exact km (.d _ (R _ ∅))
  .exact km (.y _ (R _ ∅))
 |false=>
  refine kg (rF B ?_);have t:=q.m.pushA H.sa B λz u=>H.C.trans _ _ _ I J (H.hb _ (zM u)) e (Iv H.C H.hb H.sb G z u)
  by_cases l:x.i+1+1=a.size
  .rw[qf (by simp[l])]
   exact km (.r _ _ _ (H.h _ _ (t.lastA H.sa H.sb λx O=>hl _ l x (bC O))))
  rw[qj (by simpa using l)]
  have R:∀n,n<=x.i+1+x.j->ML lt a b n ⟨_,_,_,0,x.p+1,0,x.g⟩:=λn hn=>⟨t,by lia,L,hn⟩
  split
  .exact km (.d _ (R _ ∅))
  .exact km (.y _ (R _ ∅))
def ahz(H:Lo prog w A s κ P lt a b st Q)(hl:Hl lt a b)(q:ML lt a b n x) :
  wpS (kf prog w) A E s (lo0 a b x.o x.i x.j x.m) (Lp L4 (λx=>sg st x.g) (ML lt a b (n+1)) (λ_=>False) Q) (sg st x.g):=by
 refine Bo L5 (λx=>sg st x.g) (λj=>ML lt a b (n+j)) (ML lt a b (n+1)) Q ⟨x.o,x.i,x.j,0,0,0,x.g⟩ ⟨q.m,q.p,q.q,q.r⟩ (λj x q=>agS H hl q) (λy h=>⟨h.m,h.p,h.q,by have:=h.r;have:=h.p;have:=h.q;lia⟩) (λy q=>?_) λr y l hr=>km (.r _ _ _ hr)
 refine kg (Bg ?_);refine Bo L6 (λx=>sg st x.g) (λ_=>ML lt a b (n+1)) (ML lt a b (n+1)) Q ⟨y.o,y.i,y.j,x.m+1,y.p,y.q,y.g⟩ ⟨q.m,q.p,q.q,q.r⟩ (λj z q=>?_) (λ_ h=>h) (λz q=>?_) λr y l hr=>km (.r _ _ _ hr)
 .dsimp only;split
  .exact abx H hl (x:=⟨_,_,_,z.m-1,_,_,z.g⟩) ⟨q.m,q.p,q.q,q.r⟩
  .exact abx H hl q
 .refine kg (B3 (km ?_));exact Lp.y (t:=L4) ⟨_,_,_,z.m+1,0,0,z.m+1⟩ ⟨q.m,q.p,q.q,q.r⟩
def PL(C:Ea prog w A s κ P lt)(ha:∀x,x∈a->P x)(hb:∀x,x∈b->P x)(hk:kindOf st=κ)(sa:BG lt a.toList)(sb:BG lt b.toList)
  (M:0<a.size) (B:0<b.size) (G:∀x,b[0]?=some x->∀y∈a.toList,lt y x=false) (hl:∀i,i+1=a.size->∀x∈b.toList,∀y∈a.toList.drop i,lt y x=false)
  (h:∀r g,Mrg lt a b r->Q r (sg st g)):wpS (kf prog w) A E s (Ql a b) Q st:=by
 refine kg (Bg ?_);have l:=af B;refine kg (rF l ?_);have H:MI lt a b #[] 0 0:=⟨bb _,bb _,by simp,by simp[BG],by simp,by simp⟩
 have t:=H.pushB sb l λy I=>G _ l y (by simpa using I)
 by_cases u:1=b.size
 .rw[qf (by simp[←u])]
  exact km (h _ (ni st) (t.endB sa u))
 rw[qj (by simpa using u)]
 by_cases z:0+1=a.size
 .rw[qf (by simp[←z])]
  exact km (h _ (ni st) (t.lastA sa sb λx J=>hl 0 z x (bC J)))
 rw[qj (by simpa using z)]
 refine kg (lX ?_);exact Bo L4 (λx=>sg st x.g) (λi=>ML lt a b (i+1)) (λ_=>False) Q ⟨_,0,1,_,0,0,ni st⟩ ⟨t,by lia,by lia,by lia⟩ (λi x q=>ahz ⟨C,ha,hb,hk,sa,sb,h⟩ hl q) (λx h=>by have:=h.p;have:=h.q;have:=h.r;lia) (λx h=>h.elim) λr y L hr=>km hr
end
structure MH (lt:ke->ke->Bool)(a b out:Array ke)(na nb:Nat):Prop where
 la:na<=a.size
 lb:nb<=b.size
 pm:((a.toList.take na++b.toList.take nb)++out.toList.reverse).Perm (a.toList++b.toList)
 so:BG lt out.toList.reverse
 ua:∀x∈a.toList.take na,∀y∈out.toList,lt y x=false
 ub:∀x∈b.toList.take nb,∀y∈out.toList,lt y x=false
def MH.congr(m:MH lt a b out na nb)(e:out'.toList=out.toList):MH lt a b out' na nb:=⟨m.la,m.lb,by rw[e];exact m.pm,by rw[e];exact m.so,by rw[e];exact m.ua,by rw[e];exact m.ub⟩
def FL(l:List ke)k n(h:k<=n):l.take n=l.take k++(l.take n).drop k:=by
 have e:(l.take n).take k=l.take k:=by rw[List.take_take,eD h]
 rw[←e,aT]
def uz(a:Array ke)k n:(a.extract k n).toList=(a.toList.take n).drop k:=by
 rw[gb,List.drop_take]
def GA(a:Array ke)n:(a.extract 0 n).toList=a.toList.take n:=by
 rw[uz,fk]
def MH.moreA(m:MH lt a b out na nb)(sa:BG lt a.toList)(hk:k<=na)(h:∀x∈b.toList.take nb,∀y∈(a.toList.take na).drop k,lt y x=false):MH lt a b (out++(a.extract k na).reverse) k nb:=by
 have e:(out++(a.extract k na).reverse).toList=out.toList++((a.toList.take na).drop k).reverse:=by rw[aS,cK,uz]
 have t:(out++(a.extract k na).reverse).toList.reverse=(a.toList.take na).drop k++out.toList.reverse:=by rw[e,iZ,iR]
 have c:=FL a.toList k na hk;have u:BG lt (a.toList.take na):=sa.sublist (bj _ _);have s:=u;rw[c]at s;obtain⟨q1,z,B⟩:=aU.mp s;have sub:∀y,y∈(a.toList.take na).drop k->y∈a.toList.take na:=λy l=>bC l
 refine⟨aZ hk m.la,m.lb,?_,?_,?_,?_⟩
 .rw[t];refine bX.trans ?_ m.pm;rw[←ao];refine bX.append_right _ ?_
  conv=>rhs;rw[c]
  rw[ao,ao];exact bX.append_left _ bQ
 .rw[t];exact aU.mpr ⟨z,m.so,λx n y l=>m.ua x (sub x n) y (bV.mp l)⟩
 .rw[e];intro x n y l;rcases mAq.mp l with l|l
  .exact m.ua x (by rw[c];exact bw _ n) y l
  .exact B x n y (bV.mp l)
 .rw[e];intro x n y l;rcases mAq.mp l with l|l
  .exact m.ub x n y l
  .exact h x n y (bV.mp l)
def MH.moreB(m:MH lt a b out na nb)(sb:BG lt b.toList)(hk:k<=nb)(h:∀x∈a.toList.take na,∀y∈(b.toList.take nb).drop k,lt y x=false):MH lt a b (out++(b.extract k nb).reverse) na k:=by
 have e:(out++(b.extract k nb).reverse).toList=out.toList++((b.toList.take nb).drop k).reverse:=by rw[aS,cK,uz]
 have t:(out++(b.extract k nb).reverse).toList.reverse=(b.toList.take nb).drop k++out.toList.reverse:=by rw[e,iZ,iR]
 have c:=FL b.toList k nb hk;have u:BG lt (b.toList.take nb):=sb.sublist (bj _ _);have s:=u;rw[c]at s;obtain⟨q1,z,B⟩:=aU.mp s;have sub:∀y,y∈(b.toList.take nb).drop k->y∈b.toList.take nb:=λy l=>bC l
 refine⟨m.la,aZ hk m.lb,?_,?_,?_,?_⟩
 .rw[t];refine bX.trans ?_ m.pm;rw[←ao];refine bX.append_right _ ?_
  conv=>rhs;rw[c]
  rw[ao]
 .rw[t];exact aU.mpr ⟨z,m.so,λx n y l=>m.ub x (sub x n) y (bV.mp l)⟩
 .rw[e];intro x n y l;rcases mAq.mp l with l|l
  .exact m.ua x n y l
  .exact h x n y (bV.mp l)
 .rw[e];intro x n y l;rcases mAq.mp l with l|l
  .exact m.ub x (by rw[c];exact bw _ n) y l
  .exact B x n y (bV.mp l)
def BD{l:List ke}(h:l[i]?=some x):(l.take (i+1)).drop i=[x]:=by
 rw[dG,h,List.drop_append];have hl:(l.take i).length=i:=by
  have:=(gSq.mp h).1;rw[lTq];lia
 rw[df ∅,hl,cj]
 rfl
def MH.pushA(m:MH lt a b out (na+1) nb)(sa:BG lt a.toList)(s:a[na]?=some x)(h:∀y∈b.toList.take nb,lt x y=false):MH lt a b (out.push x) na nb:=by
 have l:a.toList[na]?=some x:=by rw[aO];exact s
 refine(m.moreA sa (bP _) λz t y n=>?_).congr ?_
 .rw[BD l,mSq]at n;rw[n];exact h z t
 .rw[eF,aS,cK,uz,BD l];rfl
def MH.pushB(m:MH lt a b out na (nb+1))(sb:BG lt b.toList)(s:b[nb]?=some x)(h:∀y∈a.toList.take na,lt x y=false):MH lt a b (out.push x) na nb:=by
 have l:b.toList[nb]?=some x:=by rw[aO];exact s
 refine(m.moreB sb (bP _) λz t y n=>?_).congr ?_
 .rw[BD l,mSq]at n;rw[n];exact h z t
 .rw[eF,aS,cK,uz,BD l];rfl
def MH.end(m:MH lt a b out na nb)(sa:BG lt a.toList)(sb:BG lt b.toList)(e:na=0∨nb=0):Mrg lt a b (a.extract 0 na++b.extract 0 nb++out.reverse):=by
 have n:(a.extract 0 na++b.extract 0 nb++out.reverse).toList=(a.toList.take na++b.toList.take nb)++out.toList.reverse:=by
  rw[aS,aS,GA,GA,cK]
 refine⟨by rw[n];exact m.pm,?_⟩
 rw[n];refine aU.mpr ⟨?_,m.so,λx l y s=>?_⟩
 .rcases e with rfl|rfl
  .exact sb.sublist (bj _ _)
  .rw[List.take_zero,aNq];exact sa.sublist (bj _ _)
 .rcases mAq.mp l with l|l
  .exact m.ua x l y (bV.mp s)
  .exact m.ub x l y (bV.mp s)
def MH.firstB(m:MH lt a b out na nb)(sa:BG lt a.toList)(sb:BG lt b.toList)(h:∀x∈b.toList.take nb,∀y∈a.toList.take na,lt y x=false):Mrg lt a b (b.extract 0 nb++a.extract 0 na++out.reverse):=by
 have n:(b.extract 0 nb++a.extract 0 na++out.reverse).toList=(b.toList.take nb++a.toList.take na)++out.toList.reverse:=by
  rw[aS,aS,GA,GA,cK]
 refine⟨?_,?_⟩
 .rw[n];exact(bX.append_right _ bQ).trans m.pm
 .rw[n];refine aU.mpr ⟨aU.mpr ⟨sb.sublist (bj _ _),sa.sublist (bj _ _),h⟩,m.so,λx l y s=>?_⟩
  rcases mAq.mp l with l|l
  .exact m.ub x l y (bV.mp s)
  .exact m.ua x l y (bV.mp s)
def J3:Array ke->Array ke->StateT SortSt Sem (Array ke):=sortPriv% PySem.Builtin.mergeHi
section
variable (a b:Array ke)
noncomputable abbrev dH(o:Array ke)(i j:Nat):=a.extract 0 i++b.extract 0 j++o.reverse
noncomputable abbrev fH(o:Array ke)(i j:Nat):=b.extract 0 j++a.extract 0 i++o.reverse
abbrev SH(α:Type):=ForInStep (Option (Array ke)×Nat×Nat×Array ke×α)
noncomputable def hiC(o:Array ke)(i j m k l:Nat):StateT SortSt Sem (SH (Nat×Nat×Nat)):=do
 let x ←lj a (i-1)
 if i-1 == 0 then pure (.done (some (dH a b (o.push x) (i-1) j),i-1,j,o.push x,m,k,l))
 else if decide (k<7) && decide (l<7)then pure (.done (none,i-1,j,o.push x,m,k,l))
 else pure (.yield (none,i-1,j,o.push x,m,k,l))
def hiB(o:Array ke)(i j m k q:Nat):StateT SortSt Sem (SH (Nat×Nat×Nat)):=do
 let x ←lj b (j-1)
 if j-1 == 1 then pure (.done (some (fH a b (o.push x) i (j-1)),i,j-1,o.push x,m,k,q))
 else do
  let y ←lj a (i-1)
  match ←An true y b 0 (j-1) (j-1-1)with
  |some l=>
   if j-1-l>0 then
    if l == 1 then pure (.done (some (fH a b (o.push x++(b.extract l (j-1)).reverse) i l),i,l,o.push x++(b.extract l (j-1)).reverse,m,k,j-1-l))
    else if l == 0 then pure (.done (some (dH a b (o.push x++(b.extract l (j-1)).reverse) i l),i,l,o.push x++(b.extract l (j-1)).reverse,m,k,j-1-l))
    else hiC a b (o.push x++(b.extract l (j-1)).reverse) i l m k (j-1-l)
   else hiC a b (o.push x) i (j-1) m k (j-1-l)
  |_=>pure (.done (some (dH a b (o.push x) i (j-1)),i,j-1,o.push x,m,k,q))
def hiA(o:Array ke)(i j m p q:Nat):StateT SortSt Sem (SH (Nat×Nat×Nat)):=do
 wF m
 let x ←lj b (j-1)
 match ←An false x a 0 i (i-1)with
 |some k=>
  if i-k>0 then
   if k == 0 then pure (.done (some (dH a b (o++(a.extract k i).reverse) k j),k,j,o++(a.extract k i).reverse,m,i-k,q))
   else hiB a b (o++(a.extract k i).reverse) k j m (i-k) q
  else hiB a b o i j m (i-k) q
 |_=>pure (.done (some (dH a b o i j),i,j,o,m,p,q))
noncomputable def hi1(m:Nat)(o:Array ke)(i j p q:Nat):StateT SortSt Sem (SH (Nat×Nat)):=do
 let y ←lj b (j-1)
 let x ←lj a (i-1)
 match ←lt' y x with
 |some c=>
  if c then do
   let z ←lj a (i-1)
   if i-1 == 0 then pure (.done (some (dH a b (o.push z) (i-1) j),i-1,j,o.push z,p+1,0))
   else if p+1 ≥ m then pure (.done (none,i-1,j,o.push z,p+1,0))
   else pure (.yield (none,i-1,j,o.push z,p+1,0))
  else do
   let z ←lj b (j-1)
   if j-1 == 1 then pure (.done (some (fH a b (o.push z) i (j-1)),i,j-1,o.push z,0,q+1))
   else if q+1 ≥ m then pure (.done (none,i,j-1,o.push z,0,q+1))
   else pure (.yield (none,i,j-1,o.push z,0,q+1))
 |_=>pure (.done (some (dH a b o i j),i,j,o,p,q))
def hi0(o:Array ke)(i j m:Nat):StateT SortSt Sem (SH Nat):=do
 let r ←forIn [0:a.size+b.size] (none,i,j,o,0,0) λ_ s=>hi1 a b m s.2.2.2.1 s.2.1 s.2.2.1 s.2.2.2.2.1 s.2.2.2.2.2
 Break.runK.match_1 (λ_=>StateT SortSt Sem (SH Nat)) r.1 (λv=>pure (.done (some v,r.2.1,r.2.2.1,r.2.2.2.1,m))) λ_=>do
  rule "list.sort.gallop"
  let r ←forIn [0:a.size+b.size] (none,r.2.1,r.2.2.1,r.2.2.2.1,m+1,r.2.2.2.2.1,r.2.2.2.2.2) λ_ s=>if s.2.2.2.2.1>1 then hiA a b s.2.2.2.1 s.2.1 s.2.2.1 (s.2.2.2.2.1-1) s.2.2.2.2.2.1 s.2.2.2.2.2.2 else hiA a b s.2.2.2.1 s.2.1 s.2.2.1 s.2.2.2.2.1 s.2.2.2.2.2.1 s.2.2.2.2.2.2
  Break.runK.match_1 (λ_=>StateT SortSt Sem (SH Nat)) r.1 (λv=>pure (.done (some v,r.2.1,r.2.2.1,r.2.2.2.1,r.2.2.2.2.1))) λ_=>do
   wF (r.2.2.2.2.1+1)
   pure (.yield (none,r.2.1,r.2.2.1,r.2.2.2.1,r.2.2.2.2.1+1))
def OT:J3 a b=(do
 rule "list.sort.merge-hi"
 let x ←lj a (a.size-1)
 if a.size-1 == 0 then pure (dH a b #[x] (a.size-1) b.size)
 else if b.size == 1 then pure (fH a b #[x] (a.size-1) b.size)
 else do
  let st ←get
  let r ←forIn [0:a.size+b.size] (none,a.size-1,b.size,#[x],ni st) λ_ s=>hi0 a b s.2.2.2.1 s.2.1 s.2.2.1 s.2.2.2.2
  Break.runK.match_1 (λ_=>StateT SortSt Sem (Array ke)) r.1 (λv=>pure v) λ_=>unsupported "internal:list.sort.merge-bound"):=rfl
end
section
def Iy(C:Ea prog w A s κ P lt){a:Array ke}(ha:∀x,x∈a->P x)(sa:BG lt a.toList)(t:a[i]?=some x):∀y∈a.toList.take (i+1),lt x y=false:=by
 obtain⟨hi,e⟩:=aK.mp t;have n:a.toList[i]?=some x:=by rw[aO];exact t
 have u:BG lt (a.toList.take (i+1)):=sa.sublist (bj _ _);rw[dG,n]at u ⊢;intro y l;rcases mAq.mp l with l|l
 .exact(aU.mp u).2.2 y l x ⋯
 .have:y=x:=by simpa using l
  rw[this];exact C.refl (ha _ (by rw[←e];exact bp hi))
def zG{a:Array ke}(h:y∈a.toList.take i):y∈a:=by simpa using bg h
def CL{a:Array ke}(h:x∈a.toList.take n):∃j,j<n/\a[0+j]?=some x:=by
 have l:=by exact h
 exact AL l
def zS{a:Array ke}(h:x∈(a.toList.take n).drop k):∃j,k<=j/\j<n/\a[0+j]?=some x:=by
 obtain⟨j,l,e⟩:=cJ.mp h;rw[aC,lTq,aH]at l;refine⟨k+j,by lia,by lia,?_⟩
 rw[aK];exact⟨by lia,by simpa using e⟩
structure MG (lt:ke->ke->Bool)(a b:Array ke)(n:Nat)(x:Ls):Prop where
 m:MH lt a b x.o x.i x.j
 p:0<x.i
 q:1<x.j
 r:x.i+x.j+n<=a.size+b.size
noncomputable abbrev H6(x:Ls):=(x.i,x.j,x.o,x.m,x.p,x.q)
noncomputable abbrev H5(x:Ls):=(x.i,x.j,x.o,x.p,x.q)
noncomputable abbrev H4(x:Ls):=(x.i,x.j,x.o,x.m)
variable {st:SortSt}
abbrev Hf(lt:ke->ke->Bool)(a b:Array ke):=∀x∈b.toList.take 1,∀y∈a.toList,lt y x=false
def hiF(H:Lo prog w A s κ P lt a b st Q)(t:Hf lt a b)(m:MH lt a b o i 1):Q (b.extract 0 1++a.extract 0 i++o.reverse) (sg st g):=H.h _ _ (m.firstB H.sa H.sb λx z y B=>t x z y (bg B))
def Zo(H:Lo prog w A s κ P lt a b st Q)(q:MG lt a b n ⟨o,u+1,j,m,k,l,g⟩)(hi:∀z,a[u]?=some z->∀y∈b.toList.take j,lt z y=false) :
  wpS (kf prog w) A E s (hiC a b o (u+1) j m k l) (Lp H6 (λx=>sg st x.g) (MG lt a b n) (MG lt a b n) Q) (sg st g):=by
 have B:=af q.m.la;refine kg (rF B ?_);have G:=q.m.pushA H.sa B (hi _ B)
 by_cases t:u=0
 .rw[qf (by simp[t])]
  exact km (.r _ _ _ (H.h _ _ (G.end H.sa H.sb (.inl t))))
 rw[qj (by simpa using t)]
 have R:MG lt a b n ⟨_,_,_,m,k,l,g⟩:=⟨G,gD t,q.q,by have:=q.r;dsimp only at *;lia⟩
 split
 .exact km (.d _ R)
 .exact km (.y _ R)
def abu(H:Lo prog w A s κ P lt a b st Q)(Y:Hf lt a b)(q:MG lt a b n ⟨o,u+1,v+1,m,k,l,g⟩)(hi:∀z,b[v]?=some z->∀y∈a.toList.take (u+1),lt z y=false) :
  wpS (kf prog w) A E s (hiB a b o (u+1) (v+1) m k l) (Lp H6 (λx=>sg st x.g) (MG lt a b n) (MG lt a b n) Q) (sg st g):=by
 dsimp only[hiB,gv];have la:u<a.size:=q.m.la;have lb:v<b.size:=q.m.lb;have p2:1<v+1:=q.q;have p3:u+1+(v+1)+n<=a.size+b.size:=q.r;have I:b[v]?=some b[v]:=af lb;refine kg (rF I ?_);have J:=q.m.pushB H.sb I (hi _ I)
 by_cases L:v=1
 .rw[qf (by simp[L])]
  subst L;exact km (.r _ _ _ (hiF H Y J))
 rw[qj (by simpa using L)]
 have M:a[u]?=some a[u]:=af la;have G:=H.ha _ (bp la);refine kg (rF M (kg (yl H.C (base:=0) (n:=v) ∅ ∅ H.hb G H.hk (GL H.C ∅ H.hb G (by rw[fk];exact H.sb)) λl l1 l2 l3=>?_)))
 have hB:∀z,a[u]?=some z->∀y∈b.toList.take l,lt z y=false:=λz hz y B=>by
  obtain⟨O,t,R⟩:=CL B;have q:=l2 O t;rw[xF R,qf rfl]at q;rw[M]at hz;cases hz;exact H.C.asym _ _ (H.hb _ (zG B)) G q
 dsimp only
 by_cases cl:v-l>0
 .rw[qf cl];have S:=J.moreB H.sb (k:=l) l1 λx hx y B=>by
   obtain⟨O,T,t,R⟩:=zS B;have q:=l3 O T t;rw[xF R,qf rfl]at q;exact H.C.trans _ _ _ (H.ha _ (zG hx)) G (H.hb y (bC B |> zG)) (Iy H.C H.ha H.sa M x hx) q
  by_cases U:l=1
  .rw[qf (by simp[U])]
   subst U;exact km (.r _ _ _ (hiF H Y S))
  rw[qj (by simpa using U)]
  by_cases X:l=0
  .rw[qf (by simp[X])]
   exact km (.r _ _ _ (H.h _ _ (S.end H.sa H.sb (.inr X))))
  rw[qj (by simpa using X)]
  exact Zo H ⟨S,q.p,by lia,by lia⟩ hB
 .rw[qj cl];have:l=v:=by lia
  subst this;exact Zo H ⟨J,q.p,by lia,by lia⟩ hB
def Z2(H:Lo prog w A s κ P lt a b st Q)(R:Hf lt a b)(q:MG lt a b n x) :
  wpS (kf prog w) A E s (hiA a b x.o x.i x.j x.m x.p x.q) (Lp H6 (λx=>sg st x.g) (MG lt a b n) (MG lt a b n) Q) (sg st x.g):=by
 obtain⟨o,i,j,m,p,q',g⟩:=x;have la:i<=a.size:=q.m.la;have p1:0<i:=q.p;have S:1<j:=q.q;have p3:i+j+n<=a.size+b.size:=q.r;obtain⟨v,rfl⟩:∃v,j=v+1:=⟨j-1,by lia⟩
 have lb:v<b.size:=q.m.lb;dsimp only[hiA,gv];have I:b[v]?=some b[v]:=af lb;have B:=H.hb _ (bp lb);refine kg (B3 (kg (rF I (kg (yl H.C (base:=0) (n:=i) ∅ ∅ H.ha B H.hk (GL H.C ∅ H.ha B (by rw[fk];exact H.sa)) λk k1 k2 k3=>?_)))))
 have T:∀z,b[v]?=some z->∀y∈a.toList.take k,lt z y=false:=λz U y G=>by
  obtain⟨J,t,L⟩:=CL G;have q:=k2 J t;rw[xF L,qj ⋯]at q
  rw[I]at U;cases U;simpa using q
 dsimp only
 by_cases X:i-k>0
 .rw[qf X];have Y:=q.m.moreA H.sa (k:=k) k1 λx hx y G=>by
   obtain⟨J,M,t,L⟩:=zS G;have q:=k3 J M t;rw[xF L,qj ⋯]at q
   have py:=H.ha y (bC G |> zG);exact H.C.trans _ _ _ (H.hb _ (zG hx)) B py (Iy H.C H.hb H.sb I x hx) (H.C.asym _ _ B py (by simpa using q))
  by_cases O:k=0
  .rw[qf (by simp[O])]
   exact km (.r _ _ _ (H.h _ m (Y.end H.sa H.sb (.inl O))))
  rw[qj (by simpa using O)]
  obtain⟨u,rfl⟩:∃u,k=u+1:=⟨k-1,by lia⟩
  exact abu H R (g:=m) ⟨Y,Nat.succ_pos _,S,by dsimp only;lia⟩ T
 .rw[qj X];have:k=i:=by lia
  subst this;obtain⟨u,rfl⟩:∃u,k=u+1:=⟨k-1,by lia⟩
  exact abu H R ⟨q.m,p1,S,p3⟩ T
def ahS(H:Lo prog w A s κ P lt a b st Q)(M:Hf lt a b)(q:MG lt a b (n+j) x) :
  wpS (kf prog w) A E s (hi1 a b m x.o x.i x.j x.p x.q) (Lp H5 (λx=>sg st x.g) (MG lt a b (n+(j+1))) (MG lt a b (n+1)) Q) (sg st x.g):=by
 obtain⟨o,i,k,U,p,O,g⟩:=x;have S:0<i:=q.p;have T:1<k:=q.q;have X:i+k+(n+j)<=a.size+b.size:=q.r;obtain⟨u,rfl⟩:∃u,i=u+1:=⟨i-1,by lia⟩
 obtain⟨v,rfl⟩:∃v,k=v+1:=⟨k-1,by lia⟩
 have la:u<a.size:=q.m.la;have lb:v<b.size:=q.m.lb;dsimp only[hi1,gv];have G:a[u]?=some a[u]:=af la;have I:b[v]?=some b[v]:=af lb;have J:=H.ha _ (bp la);have L:=H.hb _ (bp lb);refine kg (rF I (kg (rF G (kg (H.C.cmp L J H.hk ?_)))));cases e:lt b[v] a[u]with
 |true=>
  dsimp only;rw[qf rfl];refine kg (rF G ?_);have z:=q.m.pushA H.sa G λy B=>H.C.trans _ _ _ (H.hb _ (zG B)) L J (Iy H.C H.hb H.sb I y B) (H.C.asym _ _ L J e)
  by_cases t:u=0
  .rw[qf (by simp[t])]
   exact km (.r _ _ _ (H.h _ _ (z.end H.sa H.sb (.inl t))))
  rw[qj (by simpa using t)]
  have R:∀n,u+(v+1)+n<=a.size+b.size->MG lt a b n ⟨_,_,_,0,p+1,0,g⟩:=λn hn=>⟨z,gD t,T,hn⟩
  split
  .exact km (.d _ (R _ ∅))
  .exact km (.y _ (R _ ∅))
 |false=>
  refine kg (rF I ?_);have z:=q.m.pushB H.sb I λy B=>H.C.trans _ _ _ (H.ha _ (zG B)) J L (Iy H.C H.ha H.sa G y B) e
  by_cases t:v=1
  .subst t;exact km (.r _ _ _ (hiF H M z))
  rw[qj (by simpa using t)]
  have R:∀n,u+1+v+n<=a.size+b.size->MG lt a b n ⟨_,_,_,0,0,O+1,g⟩:=λn hn=>⟨z,S,by lia,hn⟩
  split
  .exact km (.d _ (R _ ∅))
  .exact km (.y _ (R _ ∅))
def aip(H:Lo prog w A s κ P lt a b st Q)(B:Hf lt a b)(q:MG lt a b n x) :
  wpS (kf prog w) A E s (hi0 a b x.o x.i x.j x.m) (Lp H4 (λx=>sg st x.g) (MG lt a b (n+1)) (λ_=>False) Q) (sg st x.g):=by
 refine Bo H5 (λx=>sg st x.g) (λj=>MG lt a b (n+j)) (MG lt a b (n+1)) Q ⟨x.o,x.i,x.j,0,0,0,x.g⟩ ⟨q.m,q.p,q.q,q.r⟩ (λj x q=>ahS H B q) (λy h=>⟨h.m,h.p,h.q,by have:=h.r;have:=h.p;have:=h.q;lia⟩) (λy q=>?_) λr y G hr=>km (.r _ _ _ hr)
 refine kg (Bg ?_);refine Bo H6 (λx=>sg st x.g) (λ_=>MG lt a b (n+1)) (MG lt a b (n+1)) Q ⟨y.o,y.i,y.j,x.m+1,y.p,y.q,y.g⟩ ⟨q.m,q.p,q.q,q.r⟩ (λj z q=>?_) (λ_ h=>h) (λz q=>?_) λr y G hr=>km (.r _ _ _ hr)
 .dsimp only;split
  .exact Z2 H B (x:=⟨_,_,_,z.m-1,_,_,z.g⟩) ⟨q.m,q.p,q.q,q.r⟩
  .exact Z2 H B q
 .refine kg (B3 (km ?_));exact Lp.y (t:=H4) ⟨_,_,_,z.m+1,0,0,z.m+1⟩ ⟨q.m,q.p,q.q,q.r⟩
def Qw(C:Ea prog w A s κ P lt)(ha:∀x,x∈a->P x)(hb:∀x,x∈b->P x)(hk:kindOf st=κ)(sa:BG lt a.toList)(sb:BG lt b.toList)
  (L:0<a.size) (M:0<b.size) (J:∀x∈b.toList.take 1,∀y∈a.toList,lt y x=false) (hl:∀x,a[a.size-1]?=some x->∀y∈b.toList,lt x y=false)
  (h:∀r g,Mrg lt a b r->Q r (sg st g)):wpS (kf prog w) A E s (J3 a b) Q st:=by
 have H:Lo prog w A s κ P lt a b st Q:=⟨C,ha,hb,hk,sa,sb,h⟩;rw[OT];refine kg (Bg ?_);have t:a[a.size-1]?=some (a[a.size-1]'∅):=af ∅
 refine kg (rF t ?_);have O:MH lt a b #[] (a.size-1+1) b.size:=⟨by lia,ae _,by
  rw[show a.size-1+1=a.toList.length by simp;lia,bB,←aH,bB];simp,by simp[BG],by simp,by simp⟩
 have G:MH lt a b #[a[a.size-1]'∅] (a.size-1) b.size:=O.pushA sa t λy R=>hl _ t y (bg R)
 by_cases B:a.size-1=0
 .rw[qf (by simp[B])]
  exact km (h _ (ni st) (G.end sa sb (.inl B)))
 rw[qj (by simpa using B)]
 by_cases I:b.size=1
 .rw[qf (by simp[I])]
  have z:=G;rw[I]at z ⊢;exact km (hiF H J z)
 rw[qj (by simpa using I)]
 refine kg (lX ?_);exact Bo H4 (λx=>sg st x.g) (λi=>MG lt a b (i+1)) (λ_=>False) Q ⟨_,a.size-1,b.size,_,0,0,ni st⟩ ⟨G,gD B,by lia,by lia⟩ (λi x q=>aip H J q) (λx h=>by have:=h.q;have:=h.r;lia) (λx h=>h.elim) λr y S hr=>km hr
end
def EE(lt:ke->ke->Bool)(xs:Array ke)(i j:Nat):Prop:=∀p q x y,i<=p->p<=q->q<j->xs[p]?=some x->xs[q]?=some y->lt y x=false
def Des(lt:ke->ke->Bool)(xs:Array ke)(i j:Nat):Prop:=∀p q x y,i<=p->p<=q->q<j->xs[p]?=some x->xs[q]?=some y->lt x y=false
def Eqv(lt:ke->ke->Bool)(xs:Array ke)(i j:Nat):Prop:=∀p q x y,i<=p->p<j->i<=q->q<j->xs[p]?=some x->xs[q]?=some y->lt x y=false
section
variable {lo:Nat}
def Sk(l:j<=xs.size)(h:Des lt xs i j):EE lt (mirror xs i j ((j-i) / 2)) i j:=by
 intro p q x y t z u ex s;rw[lY l,qf ⟨t,by lia⟩]at ex
 rw[lY l,qf ⟨by lia,u⟩]at s
 exact h _ _ _ _ ∅ ∅ ∅ s ex
def EW(B:j<=xs.size)(hi:lo<=i)(hn:j<=n)(e:Eqv lt xs i j)(h:Des lt xs lo n):Des lt (mirror xs i j ((j-i) / 2)) lo n:=by
 intro p q x y t E u ex l;rw[lY B]at ex l
 by_cases z:i<=p/\p<j
 .rw[qf z]at ex
  by_cases s:i<=q/\q<j
  .rw[qf s]at l;exact e _ _ _ _ ∅ ∅ ∅ ∅ ex l
  .rw[qj s]at l;exact h _ _ _ _ ∅ ∅ u ex l
 .rw[qj z]at ex
  by_cases s:i<=q/\q<j
  .rw[qf s]at l;exact h _ _ _ _ t ∅ ∅ ex l
  .rw[qj s]at l;exact h _ _ _ _ t E u ex l
end
section
variable (lo:Nat)
noncomputable def crA(n:Nat):StateT SortSt Sem (ForInStep (Option (Option Nat)×Nat)):=do
 match ←ltAt' (lo+n) (lo+n-1)with
 |some c=>if c then pure (.done (none,n))else pure (.yield (none,n+1))
 |_=>pure (.done (some none,n))
noncomputable def crB(n q:Nat):StateT SortSt Sem (ForInStep (Option (Option Nat)×Nat×Nat)):=do
 match ←ltAt' (lo+n) (lo+n-1)with
 |some c=>
  if c then
   if q>0 then do
    let _ ←mj (lo+n-(q+1)) (lo+n)
    pure (.yield (none,n+1,0))
   else pure (.yield (none,n+1,0))
  else do
   match ←ltAt' (lo+n-1) (lo+n)with
   |some c=>if c then pure (.done (none,n,q))else pure (.yield (none,n+1,q+1))
   |_=>pure (.done (some none,n,q))
 |_=>pure (.done (some none,n,q))
noncomputable def crZ(l n:Nat):StateT SortSt Sem (Option Nat):=do
 mj lo (lo+n)
 let r ←forIn [n:l] (none,n) λ_ s=>crA lo s.2
 Break.runK.match_1 (λ_=>StateT SortSt Sem (Option Nat)) r.1 (λv=>pure v) λ_=>pure (some r.2)
def crD(l n:Nat):StateT SortSt Sem (Option Nat):=do
 rule "list.sort.descending-run"
 let r ←forIn [n+1:l] (none,n+1,0) λ_ s=>crB lo s.2.1 s.2.2
 Break.runK.match_1 (λ_=>StateT SortSt Sem (Option Nat)) r.1 (λv=>pure v) λ_=>
  if r.2.2>0 then do
   let _ ←mj (lo+r.2.1-(r.2.2+1)) (lo+r.2.1)
   crZ lo l r.2.1
  else crZ lo l r.2.1
def ajH l:countRun' lo l=(do
 let r ←forIn [1:l] (none,1) λ_ s=>crA lo s.2
 Break.runK.match_1 (λ_=>StateT SortSt Sem (Option Nat)) r.1 (λv=>pure v) λ_=>
  if r.2 == l then pure (some r.2)
  else if r.2>1 then do
   match ←ltAt' lo (lo+r.2-1)with
   |some c=>
    if c then pure (some r.2)
    else do
     let _ ←mj lo (lo+r.2)
     crD lo l r.2
   |_=>pure none
  else crD lo l r.2):=countRun'_eq lo l
end
section
variable {P:ke->Prop}
def acD(C:Ea prog w A s κ P lt)(n:∀x,x∈xs->P x)lo:EE lt xs lo (lo+1):=by
 intro p q x y t u z ex l;have e:p=q:=by lia
 subst e;rw[ex]at l;cases l;exact C.refl (n _ (aQq ex))
def Zp(C:Ea prog w A s κ P lt)(t:∀x,x∈xs->P x){lo}(h:EE lt xs lo (lo+(n+1)))(B:∀x y,xs[lo+(n+1)]?=some x->xs[lo+n]?=some y->lt x y=false)(J:lo+(n+1)<xs.size):EE lt xs lo (lo+(n+2)):=by
 intro p q x y z G L ex l
 by_cases c:q<lo+(n+1)
 .exact h p q x y z G c ex l
 .have H:q=lo+(n+1):=by lia
  subst H
  by_cases I:p=lo+(n+1)
  .subst I;rw[ex]at l;cases l;exact C.refl (t _ (aQq ex))
  .have u:xs[lo+n]?=some (xs[lo+n]'∅):=af ∅
   exact C.trans _ _ _ (t _ (aQq ex)) (t _ (aQq u)) (t _ (aQq l)) (h p (lo+n) _ _ z ∅ ∅ ex u) (B _ _ l u)
def Qy(C:Ea prog w A s κ P lt)(t:∀x,x∈xs->P x){lo}(h:Des lt xs lo (lo+(n+1)))(B:∀x y,xs[lo+(n+1)]?=some x->xs[lo+n]?=some y->lt y x=false)(J:lo+(n+1)<xs.size):Des lt xs lo (lo+(n+2)):=by
 intro p q x y z G L ex l
 by_cases c:q<lo+(n+1)
 .exact h p q x y z G c ex l
 .have H:q=lo+(n+1):=by lia
  subst H
  by_cases I:p=lo+(n+1)
  .subst I;rw[ex]at l;cases l;exact C.refl (t _ (aQq ex))
  .have u:xs[lo+n]?=some (xs[lo+n]'∅):=af ∅
   exact C.trans _ _ _ (t _ (aQq l)) (t _ (aQq u)) (t _ (aQq ex)) (B _ _ l u) (h p (lo+n) _ _ z ∅ ∅ ex u)
def PB(C:Ea prog w A s κ P lt){lo}{st}(J:∀x,x∈kB st->P x)(hk:kindOf st=κ)(ha:1<=a)(u:a<=t)(S:lo+t<=(kB st).size)(O:EE lt (kB st) lo (lo+a)) :
  wpS (kf prog w) A E s (forIn [a:t] ((none,a):Option (Option Nat)×Nat) λ_ s=>crA lo s.2)
   (λc l=>∃n,c=(none,n)/\l=st/\a<=n/\n<=t/\EE lt (kB st) lo (lo+n)/\(n=t∨∃x y,(kB st)[lo+n]?=some x/\(kB st)[lo+n-1]?=some y/\lt x y=true)) st:=by
 refine kQ (I:=λi c l=>c=(none,i)/\l=st/\a<=i/\i<=t/\EE lt (kB st) lo (lo+i)) ?step ?fin ⟨rfl,rfl,ae _,u,O⟩
 case step=>
  rintro i c l T Q ⟨rfl,rfl,G,L,z⟩;obtain⟨k,rfl⟩:∃k,i=k+1:=⟨i-1,by lia⟩
  have ex:(kB l)[lo+(k+1)]?=some ((kB l)[lo+(k+1)]'∅):=af ∅
  have H:(kB l)[lo+(k+1)-1]?=some ((kB l)[lo+k]'∅):=af ∅
  refine kg (C.at ex H (J _ (aQq ex)) (J _ (aQq H)) hk ?_);cases e:lt ((kB l)[lo+(k+1)]'∅) ((kB l)[lo+k]'∅)with
  |true=>exact km ⟨_,rfl,rfl,G,L,z,.inr ⟨_,_,ex,H,e⟩⟩
  |false=>
   refine km ⟨rfl,rfl,by lia,Q,Zp C J z (λx y M R=>?_) ∅⟩
   have B:(kB l)[lo+(k+1)-1]?=some y:=R;rw[ex]at M;rw[H]at B;cases M;cases B;exact e
 case fin=>
  rintro c l ⟨rfl,rfl,G,L,z⟩;have e:=Nat.max_eq_right u;rw[e]at G L z ⊢;exact⟨t,rfl,rfl,G,ae _,z,.inl rfl⟩
def Io{st}(h:Q () (kW st (mirror (kB st) i j ((j-i) / 2)))):wpS (kf prog w) A E s (mj i j) Q st:=by
 exact lN h
structure CD (xs ys:Array ke)(lo hi:Nat):Prop where
 pm:ys.Perm xs
 out:∀k,(k<lo∨hi<=k)->ys[k]?=xs[k]?
theorem CD.refl(xs)lo hi:CD xs xs lo hi:=⟨jC.refl _,λ_ _=>rfl⟩
theorem CD.trans{lo}(a:CD xs l lo hi)(b:CD l n lo hi):CD xs n lo hi:=⟨b.pm.trans a.pm,λk h=>(b.out k h).trans (a.out k h)⟩
def CD.mono{lo}(a:CD xs n lo hi)(h:hi<=l):CD xs n lo l:=⟨a.pm,λk q=>a.out k ∅⟩
theorem CD.size{lo}(a:CD xs l lo hi):l.size=xs.size:=a.pm.size_eq
def CD.mem{lo}(a:CD xs l lo hi)(h:∀x,x∈xs->P x):∀x,x∈l->P x:=λx n=>h x (a.pm.mem_iff.mp n)
def BZ{lo}(l:j<=xs.size)(n:lo<=i)(t:j<=hi):CD xs (mirror xs i j ((j-i) / 2)) lo hi:=
 ⟨mirror_perm _ _ _ _,λk hk=>by rw[lY l,qj ∅]⟩
structure CR (lt:ke->ke->Bool)(as:Array ke)(lo i q:Nat)(ys:Array ke):Prop where
 b:CD as ys lo (lo+i)
 d:Des lt ys lo (lo+i)
 e:Eqv lt ys (lo+i-(q+1)) (lo+i)
 p:q+1<=i
def II(C:Ea prog w A s κ P lt)(u:∀x,x∈l->P x)(h:j<=i+1):Eqv lt l i j:=by
 intro p q x y z g2 B G n t;have e:p=q:=by lia
 subst e;rw[n]at t;cases t;exact C.refl (u _ (aQq n))
def agu(C:Ea prog w A s κ P lt){lo}{st}(R:∀x,x∈kB st->P x)(hk:kindOf st=κ)(hz:lo+u<=(kB st).size)(hi:k+1<u)(g:CR lt (kB st) lo (k+1) n l) :
  wpS (kf prog w) A E s (crB lo (k+1) n) (λr OP=>∃m q S,OP=kW st S/\m<=u/\CR lt (kB st) lo m q S/\(r = .done (none,m,q)∨r = .yield (none,m,q)/\m=k+1+1)) (kW st l):=by
 have H:=g.b;have g2:=g.d;have O:=g.e;have g4:=g.p;have t:=H.mem R;have hsz:=H.size;have ex:l[lo+(k+1)]?=some (l[lo+(k+1)]'∅):=af ∅
 have B:l[lo+(k+1)-1]?=some (l[lo+k]'∅):=af ∅
 have G:=t _ (aQq ex);have py:=t _ (aQq B);have I:lt (l[lo+k]'∅) (l[lo+(k+1)]'∅)=false->Des lt l lo (lo+(k+1+1)):=λe=>Qy C t g2 (λx y T hy=>by
  have J:l[lo+(k+1)-1]?=some y:=hy;rw[ex]at T;rw[B]at J;cases T;cases J;exact e) ∅
 refine kg (C.at (st:=kW st l) ex B G py hk ?_);cases e:lt (l[lo+(k+1)]'∅) (l[lo+k]'∅)with
 |true=>
  have L:=I (C.asym _ _ G py e);dsimp only;rw[qf rfl]
  by_cases U:n>0
  .rw[qf U];refine kg (Io (km ?_));have X:CD (kB st) (mirror l (lo+(k+1)-(n+1)) (lo+(k+1)) ((lo+(k+1)-(lo+(k+1)-(n+1))) / 2)) lo (lo+(k+1)):=H.trans (BZ ∅ ∅ (ae _))
   exact⟨_,0,_,rfl,hi,⟨X.mono ∅,EW ∅ ∅ ∅ O L,II C (X.mem R) ∅,by lia⟩,.inr ⟨rfl,rfl⟩⟩
  .rw[qj U];exact km ⟨_,0,l,rfl,hi,⟨H.mono ∅,L,II C t ∅,by lia⟩,.inr ⟨rfl,rfl⟩⟩
 |false=>
  dsimp only;rw[qj ⋯]
  refine kg (C.at (st:=kW st l) B ex py G hk ?_);cases Y:lt (l[lo+k]'∅) (l[lo+(k+1)]'∅)with
  |true=>exact km ⟨_,n,l,rfl,bZ hi,g,.inl rfl⟩
  |false=>
   refine km ⟨_,n+1,l,rfl,hi,⟨H.mono ∅,I Y,?_,by lia⟩,.inr ⟨rfl,rfl⟩⟩
   intro p q x y h1 h2 h3 h4 M z;have qx:=t _ (aQq M);have qy:=t _ (aQq z)
   by_cases cp:p=lo+(k+1)
   .subst cp;rw[ex]at M;cases M
    by_cases Q:q=lo+(k+1)
    .subst Q;rw[ex]at z;cases z;exact C.refl G
    .exact C.trans _ _ _ qy py G (O (lo+(k+1)-1) q _ _ ∅ ∅ ∅ ∅ B z) e
   .by_cases Q:q=lo+(k+1)
    .subst Q;rw[ex]at z;cases z;exact C.trans _ _ _ G py qx Y (O p (lo+(k+1)-1) _ _ ∅ ∅ ∅ ∅ M B)
    .exact O p q x y ∅ ∅ ∅ ∅ M z
abbrev ajq(lt:ke->ke->Bool)(st:SortSt)(lo l:Nat)(Q:Option Nat->SortSt->Prop):=∀n xs,1<=n->n<=l->CD (kB st) xs lo (lo+n)->EE lt xs lo (lo+n)->Q (some n) (kW st xs)
def Yo(C:Ea prog w A s κ P lt){lo}{st}(B:∀x,x∈kB st->P x)(hk:kindOf st=κ)(G:lo+l<=(kB st).size)(h:ajq lt st lo l Q)
  (H:1<=m) (I:m<=l) (b:CD (kB st) n lo (lo+m)) (d:Des lt n lo (lo+m)):wpS (kf prog w) A E s (crZ lo l m) Q (kW st n):=by
 refine kg (Io ?_);have J:=b.size;have L:=Sk ∅ d
 have t:=b.trans (BZ ∅ (ae _) (ae _))
 refine kg (kR (PB C (t.mem B) hk H I (aZ G (ff t.size.symm)) L) ?_);rintro c OP ⟨M,rfl,rfl,O,u,z,_⟩;exact km (h M _ ∅ u (t.mono ∅) z)
def X0(C:Ea prog w A s κ P lt){lo}{st}(u:∀x,x∈kB st->P x)(hk:kindOf st=κ)(z:lo+l<=(kB st).size)(h:ajq lt st lo l Q)
  (hn:n<l) (b:CD (kB st) xs lo (lo+n)) (d:Des lt xs lo (lo+(n+1))):wpS (kf prog w) A E s (crD lo l n) Q (kW st xs):=by
 refine kg (Bg (kg (kR (kQ
  (I:=λi c OP=>∃q t,c=(none,i,q)/\OP=kW st t/\i<=l/\CR lt (kB st) lo i q t)
  (Q:=λc OP=>∃m q t,c=(none,m,q)/\OP=kW st t/\m<=l/\CR lt (kB st) lo m q t)
  ?_ ?_ ⟨0,xs,rfl,rfl,hn,b.mono ∅,d,II C (b.mem u) ∅,by lia⟩) ?_)))
 .rintro i c OP _ hi ⟨q,t,rfl,rfl,_,g⟩;obtain⟨k,rfl⟩:∃k,i=k+1:=⟨i-1,by lia⟩
  refine kR (agu C u hk z hi g) λr OP hr=>?_
  obtain⟨m,q,B,rfl,hm,G,rfl|⟨rfl,rfl⟩⟩:=hr
  .exact⟨m,q,B,rfl,rfl,hm,G⟩
  .exact⟨q,B,rfl,rfl,hm,G⟩
 .rintro c OP ⟨q,t,rfl,rfl,hm,g⟩;exact⟨_,q,t,rfl,rfl,hm,g⟩
 .rintro c OP ⟨m,q,t,rfl,rfl,hm,g⟩;have J:=g.b.size;have L:=g.p
  by_cases H:q>0
  .rw[qf H];exact kg (Io (Yo (st:=st) C u hk z h ∅ hm (g.b.trans (BZ ∅ ∅ (ae _))) (EW ∅ ∅ (ae _) g.e g.d)))
  .rw[qj H];exact Yo C u hk z h ∅ hm g.b g.d
def Ot(C:Ea prog w A s κ P lt){lo}{st}(u:∀x,x∈kB st->P x)(hk:kindOf st=κ)(h1:1<=t)(O:lo+t<=(kB st).size)
  (h:∀n xs,1<=n->n<=t->CD (kB st) xs lo (lo+n)->EE lt xs lo (lo+n)->Q (some n) (kW st xs)):wpS (kf prog w) A E s (countRun' lo t) Q st:=by
 rw[ajH];refine kg (kR (PB C u hk (ae 1) h1 O (acD C u lo)) ?_);rintro c l ⟨n,rfl,rfl,n1,n2,G,R⟩;dsimp only;have B:Q (some n) l:=h n (kB l) n1 n2 (CD.refl _ _ _) G
 by_cases S:n=t
 .rw[qf (by simp[S])]
  exact km B
 rw[qj (by simpa using S)]
 obtain⟨xb,yb,J,z,eb⟩:=R.resolve_left S;obtain⟨m,rfl⟩:∃m,n=m+1:=⟨n-1,by lia⟩
 have T:=u _ (aQq J);have H:=u _ (aQq z);have go:Eqv lt (kB l) lo (lo+(m+1))->Des lt (kB l) lo (lo+(m+1+1)):=λe1=>
  Qy C u (λp q x y U g2 X ex ey=>e1 p q x y U ∅ ∅ X ex ey) (λx y Y hy=>by
   have L:(kB l)[lo+(m+1)-1]?=some y:=hy;rw[J]at Y;rw[z]at L;cases Y;cases L;exact C.asym _ _ T H eb) ∅
 by_cases c2:m+1>1
 .rw[qf c2];have ex:(kB l)[lo]?=some ((kB l)[lo]'∅):=af ∅
  have I:=u _ (aQq ex);refine kg (C.at ex z I H hk ?_);cases e:lt ((kB l)[lo]'∅) yb with
  |true=>exact km B
  |false=>
   have M:Eqv lt (kB l) lo (lo+(m+1)):=by
    intro p q x y U g2 X g4 gx gy;have px:=u _ (aQq gx);have py:=u _ (aQq gy);have q1:=G q (lo+(m+1)-1) _ _ X ∅ ∅ gy z
    have q2:=G lo p _ _ (ae _) U g2 ex gx;exact C.trans _ _ _ py I px (C.trans _ _ _ py H I q1 e) q2
   exact kg (Io (X0 C u hk O h ∅ (BZ ∅ (ae _) (ae _)) (EW ∅ (ae _) ∅ M (go M))))
 .rw[qj c2];exact X0 C u hk O h ∅ (CD.refl _ _ _) (go (II C u ∅))
end
def abW(C:Ea prog w A s κ P lt)(I:∀x,x∈xs->P x){lo}(Q:lo+k<xs.size)(hl:l<=k)(H:EE lt xs lo (lo+k))(J:xs[lo+k]?=some x)
  (R:∀j y,j<l->xs[lo+j]?=some y->lt x y=false) (S:∀j y,l<=j->j<k->xs[lo+j]?=some y->lt x y=true):EE lt (bubble xs (lo+k) (k-l)) lo (lo+(k+1)):=by
 have L:=I _ (aQq J);have g:∀p,(bubble xs (lo+k) (k-l))[p]?=if p=lo+l then some x else if lo+l<p/\p<=lo+k then xs[p-1]? else xs[p]?:=λp=>by
  rw[getElem?_bubble Q (k-l) ∅ p,show lo+k-(k-l)=lo+l by lia,J]
 intro p q u v M T U t n;rw[g]at t n
 by_cases O:p=lo+l
 .rw[qf O]at t;cases t
  by_cases z:q=lo+l
  .rw[qf z]at n;cases n;exact C.refl L
  .rw[qj z,qf ⟨by lia,by lia⟩]at n
   have pv:=I _ (aQq n);exact C.asym _ _ L pv (S (q-1-lo) v ∅ ∅ (by rw[show lo+(q-1-lo)=q-1 by lia];exact n))
 .rw[qj O]at t
  by_cases B:lo+l<p/\p<=lo+k
  .rw[qf B]at t;rw[qj ∅,qf ⟨by lia,by lia⟩]at n
   exact H (p-1) (q-1) _ _ ∅ ∅ ∅ t n
  .rw[qj B]at t
   by_cases z:q=lo+l
   .rw[qf z]at n;cases n;exact R (p-lo) u ∅ (by rw[show lo+(p-lo)=p by lia];exact t)
   .rw[qj z]at n
    by_cases G:lo+l<q/\q<=lo+k
    .rw[qf G]at n;exact H p (q-1) _ _ M ∅ ∅ t n
    .rw[qj G]at n;exact H p q _ _ M T ∅ t n
def Rk{lo}(t:lo+k<xs.size)(hl:l<=k)(hn:k<n):CD xs (bubble xs (lo+k) (k-l)) lo (lo+n):=
 ⟨bubble_perm _ _ _,λp u=>by rw[getElem?_bubble t (k-l) ∅ p,qj ∅,qj ∅]⟩
def ZJ{st}(h:Q () (kW st (bubble (kB st) l (l-n)))):wpS (kf prog w) A E s (moveDown' l n) Q st:=by
 exact lN h
def Ru(C:Ea prog w A s κ P lt){lo}{st}(X:∀x,x∈kB st->P x)(hk:kindOf st=κ)(Y:1<=ok)(h2:ok<=n)(hz:lo+n<=(kB st).size)(hs:EE lt (kB st) lo (lo+ok))
  (h:∀xs,CD (kB st) xs lo (lo+n)->EE lt xs lo (lo+n)->Q true (kW st xs)):wpS (kf prog w) A E s (binarySort' lo n ok) Q st:=by
 rw[binarySort'_eq];dsimp only;rw[Nat.max_eq_left Y];refine kg (kR (kQ (I:=λk c u=>∃t,c=(none,())/\u=kW st t/\CD (kB st) t lo (lo+n)/\EE lt t lo (lo+k)/\k<=n)
  (Q:=λc u=>∃t,c=(none,())/\u=kW st t/\CD (kB st) t lo (lo+n)/\EE lt t lo (lo+n)) ?step ?fin ⟨kB st,rfl,rfl,CD.refl _ _ _,hs,h2⟩) ?post)
 case fin=>
  rintro c u ⟨t,rfl,rfl,b1,B,q⟩;have e:max ok n=n:=by lia
  rw[e]at B;exact⟨t,rfl,rfl,b1,B⟩
 case post=>
  rintro c u ⟨t,rfl,rfl,b1,B⟩;exact km (h t b1 B)
 case step=>
  rintro k c u hk1 L ⟨t,rfl,rfl,b1,B,q⟩;have z:=b1.mem X;have hsz:=b1.size;have ex:t[lo+k]?=some (t[lo+k]'∅):=af ∅
  have R:=z _ (aQq ex);refine kg (kR (kQ (I:=λi c u=>∃l r,c=(none,l,r)/\u=kW st t/\l<=r/\r<=k/\(∀j y,j<l->t[lo+j]?=some y->lt (t[lo+k]'∅) y=false)/\(∀j y,r<=j->j<k->t[lo+j]?=some y->lt (t[lo+k]'∅) y=true)/\(r-l)+i<=k)
   (Q:=λc u=>∃l r,c=(none,l,r)/\u=kW st t/\l=r/\r<=k/\(∀j y,j<l->t[lo+j]?=some y->lt (t[lo+k]'∅) y=false)/\(∀j y,r<=j->j<k->t[lo+j]?=some y->lt (t[lo+k]'∅) y=true))
   ?step1 ?fin1 ⟨0,k,rfl,rfl,bb _,ae _,λj y hj=>absurd hj (dC _),λj y S g2=>absurd g2 ∅,by lia⟩) ?post1)
  case fin1=>
   rintro c u ⟨l,r,rfl,rfl,a1,G,H,J,a5⟩;exact⟨l,r,rfl,rfl,by lia,G,H,J⟩
  case step1=>
   rintro i c u _ hi ⟨l,r,rfl,rfl,a1,G,H,J,a5⟩;dsimp only
   by_cases T:l ≥ r
   .rw[qf T];exact km ⟨l,r,rfl,rfl,by lia,G,H,J⟩
   rw[qj T];have O:t[lo+(l+r) / 2]?=some (t[lo+(l+r) / 2]'∅):=af ∅
   have pm:=z _ (aQq O);refine kg (C.at (st:=kW st t) ex O R pm hk ?_);cases e:lt (t[lo+k]'∅) (t[lo+(l+r) / 2]'∅)with
   |true=>
    dsimp only;rw[qf rfl];refine km ⟨l,_,rfl,rfl,by lia,by lia,H,λj y S g2 M=>?_,by lia⟩
    have py:=z _ (aQq M);cases e':lt (t[lo+k]'∅) y with
    |true=>rfl
    |false=>
     have q1:=B (lo+(l+r) / 2) (lo+j) _ _ ∅ ∅ ∅ O M
     have U:=C.trans _ _ _ pm py R q1 e';rw[e]at U;cases U
   |false=>
    dsimp only;rw[qj ⋯]
    refine km ⟨_,r,rfl,rfl,by lia,G,λj y S M=>?_,J,by lia⟩
    have py:=z _ (aQq M);exact C.trans _ _ _ py pm R (B (lo+j) (lo+(l+r) / 2) _ _ ∅ ∅ ∅ M O) e
  case post1=>
   rintro c u ⟨l,r,rfl,rfl,rfl,G,H,J⟩;refine kg (ZJ (km ?_));have e:lo+k-(lo+l)=k-l:=by lia
   rw[e];exact⟨_,rfl,rfl,b1.trans (Rk ∅ G L),abW C z ∅ G B ex H J,L⟩
def vS(lt:ke->ke->Bool)(xs:Array ke):Nat->List (Nat×Nat×Nat)->Nat->Prop
 |s,[],e=>s=e
 |s,p::r,e=>p.1=s/\0<p.2.1/\EE lt xs s (s+p.2.1)/\vS lt xs (s+p.2.1) r e
theorem xG:∀{q r}{s e},vS lt xs s (q++r) e↔∃m,vS lt xs s q m/\vS lt xs m r e
 | [],r,s,e=>by
  constructor
  .intro h;exact⟨s,rfl,h⟩
  .rintro⟨m,rfl,h⟩;exact h
 |p::q,r,s,e=>by
  constructor
  .rintro⟨l,n,t,u⟩;obtain⟨m,a,b⟩:=xG.mp u;exact⟨m,⟨l,n,t,a⟩,b⟩
  .rintro⟨m,⟨l,n,t,a⟩,b⟩;exact⟨l,n,t,xG.mpr ⟨m,a,b⟩⟩
theorem Dk:∀{q}{s e},vS lt xs s q e->s+q.length<=e
 | [],s,e,h=>by have:s=e:=h;simp[this]
 |p::q,s,e,hz=>by
  obtain⟨_,n,_,l⟩:=hz;have:=Dk l;rw[lCq];lia
theorem Ai:∀{q}{s e},(∀k,s<=k->k<e->n[k]?=xs[k]?)->vS lt xs s q e->vS lt n s q e
 | [],s,e,_,h=>h
 |p::q,s,e,g,hz=>by
  obtain⟨z,B,E,t⟩:=hz;have l:=Dk t;refine⟨z,B,λa b x y u G H ex I=>E a b x y u G H ?_ ?_,Ai (λk L J=>g k ∅ J) t⟩
  .rw[←g a u ∅];exact ex
  .rw[←g b ∅ ∅];exact I
theorem Fw:∀{q l}{s e},l.map (λp=>(p.1,p.2.1))=q.map (λp=>(p.1,p.2.1))->vS lt xs s q e->vS lt xs s l e
 | [],l,s,e,g,h=>by
  have:l=[]:=by simpa using g
  subst this;exact h
 |p::q,[],s,e,g,h=>by simp at g
 |p::q,p'::l,s,e,g,hz=>by
  obtain⟨x,n,t,u⟩:=hz;simp only[aw,jK.injEq,Prod.mk.injEq]at g;obtain⟨⟨z,g2⟩,B⟩:=g;rw[←g2]at n t u;exact⟨z.trans x,n,t,Fw B u⟩
theorem L7 o:∀M n (xs:Array ke),o+n+M.length<=xs.size ->
  ((M.zipIdx n).foldl (λa x=>a.setIfInBounds (o+x.2) x.1) xs).toList=xs.toList.take (o+n)++M++xs.toList.drop (o+n+M.length)
 | [],n,xs,h=>by simp
 |y::r,n,xs,h=>by
  rw[List.zipIdx_cons,gf];rw[lCq]at h;rw[L7 o r (n+1) _ (by rw[Array.size_setIfInBounds];lia),gK]
  have hl:o+n<xs.toList.length:=by rw[aH];lia
  have l:(xs.toList.set (o+n) y).take (o+(n+1))=xs.toList.take (o+n)++[y]:=by
   rw[←fF,dG,aV hl,List.take_set_of_le (ae _)];rfl
  have s:(xs.toList.set (o+n) y).drop (o+(n+1)+r.length)=xs.toList.drop (o+n+(r.length+1)):=by
   rw[List.drop_set_of_lt ∅]
   lia
  rw[l,s,ao,ao,ao];rfl
def Tz(C:Ea prog w A s κ P lt)(hb:base+n<=arr.size)(ha:∀x,x∈arr->P x)(l:P key)(so:EE lt arr base (base+n)) :
  ∀i j,i<=j->j<n->Cb lt left key arr base j=true->Cb lt left key arr base i=true:=by
 intro i j G I h;have t:arr[base+i]?=some (arr[base+i]'∅):=af ∅
 have u:arr[base+j]?=some (arr[base+j]'∅):=af ∅
 have z:=ha _ (aQq t);have B:=ha _ (aQq u);have le:=so (base+i) (base+j) _ _ ∅ ∅ ∅ t u
 rw[xF u]at h;rw[xF t];cases left with
 |true=>
  rw[qf rfl]at h ⊢;cases q:lt (arr[base+i]'∅) key with
  |true=>rfl
  |false=>
   have:=C.trans _ _ _ l z B q le;rw[h]at this;cases this
 |false=>
  have H:=by simpa using h
  have:=C.trans _ _ _ z B l le H;simp[this]
def xi{a:Array ke}(h:x∈(a.extract i j).toList):∃k,i<=k/\k<j/\a[k]?=some x:=by
 rw[uz]at h;obtain⟨k,l,n,e⟩:=zS h;rw[cA]at e;exact⟨k,l,n,e⟩
def HG(h:EE lt a i j):BG lt (a.extract i j).toList:=by
 rw[uz];refine cB.mpr λp q l n t=>?_
 rw[aC,lTq]at l n;have e:∀k hk,a[i+k]?=some ((a.toList.take j).drop i)[k]:=λk hk=>by
  rw[aC,lTq,aH]at hk;rw[aK];exact⟨by lia,by simp⟩
 exact h (i+p) (i+q) _ _ ∅ ∅ ∅ (e p _) (e q _)
def QE i:mergeAt' i=(do
 let s ←get
 let (some (sa,l,n),some (sb,t,_)):=((lF s)[i]?,(lF s)[i+1]?)|unsupported "internal:list.sort.pending"
 set (setPending s (((lF s).setIfInBounds i (sa,l+t,n)).eraseIdxIfInBounds (i+1)))
 let some k ←An false (←lj (kB s) sb) (kB s) sa l 0|return false
 let (sa,l):=(sa+k,l-k)
 if l == 0 then return true
 let some t ←An true (←lj (kB s) (sa+l-1)) (kB s) sb t (t-1)|return false
 if t == 0 then return true
 let x:=(kB s).extract sa sb
 let y:=(kB s).extract sb (sb+t)
 let merged ←if l<=t then Ql x y else J3 x y
 modify λs=>kW s (merged.toList.zipIdx.foldl (λa (p,j)=>a.setIfInBounds (sa+j) p) (kB s))
 return (failedOf (←get)).isNone):=rfl
def V9{st}(h:Q ⟨⟩ l):wpS (kf prog w) A E s (set l:StateT SortSt Sem PUnit) Q st:=by
 exact kC ⟨rfl,h⟩
def Xu(C:Ea prog w A s κ P lt)(B:∀x,x∈xs->P x)(hz:sa+n+G<=xs.size)(hk:k<=n)(hl:l<=G)(X:EE lt xs sa (sa+n))(S:EE lt xs (sa+n) (sa+n+G))
  (Y:xs[sa+n]?=some key) (el:xs[sa+n-1]?=some last)
  (k2:∀j y,j<k->xs[sa+j]?=some y->lt key y=false) (l3:∀j y,l<=j->j<G->xs[sa+n+j]?=some y->lt y last=false) (hna:0<n) (hnb:0<G)
  (m:Mrg lt (xs.extract (sa+k) (sa+n)) (xs.extract (sa+n) (sa+n+l)) M)
  (J:R.toList=xs.toList.take (sa+k)++M.toList++xs.toList.drop (sa+k+M.toList.length)):CD xs R sa (sa+n+G)/\EE lt R sa (sa+n+G):=by
 have lM:M.toList.length=(n-k)+l:=by
  have:=m.pm.length_eq;simp only[lAq,aH,eZ]at this ⊢;lia
 have hlx:xs.toList.length=xs.size:=aH;have gz:∀p,R[p]?=if p<sa+k then xs[p]? else if p<sa+n+l then M[p-(sa+k)]? else xs[p]?:=λp=>by
  rw[←aO,J]
  by_cases I:p<sa+k
  .rw[qf I,ao,gZq (by rw[lTq];lia),cG I,aO]
  .rw[qj I,ao,gYq (by rw[lTq];lia),lTq,show min (sa+k) xs.toList.length=sa+k by lia]
   by_cases c2:p<sa+n+l
   .rw[qf c2,gZq ∅,aO]
   .rw[qj c2,gYq ∅,dm,aO]
    congr 1;lia
 have pk:=B _ (aQq Y);have pl:=B _ (aQq el);have z:∀q v,M[q]?=some v->(∃j,k<=j/\j<n/\xs[sa+j]?=some v)∨∃j,j<l/\xs[sa+n+j]?=some v:=λq v e=>by
  have L:v∈M.toList:=by simpa using aQq e
  rcases mAq.mp (m.pm.mem_iff.mp L)with L|L
  .obtain⟨j,H,T,u⟩:=xi L;exact .inl ⟨j-sa,by lia,by lia,by rw[show sa+(j-sa)=j by lia];exact u⟩
  .obtain⟨j,H,T,u⟩:=xi L;exact .inr ⟨j-(sa+n),by lia,by rw[show sa+n+(j-(sa+n))=j by lia];exact u⟩
 refine⟨⟨?_,λp hp'=>?_⟩,?_⟩
 .rw[Array.perm_iff_toList_perm,J];have c:xs.toList=xs.toList.take (sa+k)++((xs.extract (sa+k) (sa+n)).toList++(xs.extract (sa+n) (sa+n+l)).toList)++xs.toList.drop (sa+k+M.toList.length):=by
   rw[uz,uz,lM];have U:=FL xs.toList (sa+k) (sa+n) ∅
   have O:=FL xs.toList (sa+n) (sa+n+l) ∅
   have a3:sa+k+(n-k+l)=sa+n+l:=by lia
   rw[a3,←ao,←U,←O,aT]
  conv=>rhs;rw[c]
  exact bX.append_right _ (bX.append_left _ m.pm)
 .rw[gz]
  by_cases I:p<sa+k
  .rw[qf I]
  .rw[qj I,qj ∅]
 .intro p q x y U O a3 ex t;rw[gz]at ex t
  by_cases p1:p<sa+k
  .rw[qf p1]at ex;have px:=B _ (aQq ex);have lx:lt key x=false:=k2 (p-sa) x ∅ (by rw[show sa+(p-sa)=p by lia];exact ex)
   by_cases q1:q<sa+k
   .rw[qf q1]at t;exact X p q _ _ U O ∅ ex t
   .rw[qj q1]at t
    by_cases Q:q<sa+n+l
    .rw[qf Q]at t;rcases z _ _ t with⟨j,H,T,u⟩|⟨j,H,u⟩
     .exact X p (sa+j) _ _ U ∅ ∅ ex u
     .exact C.trans _ _ _ px pk (B _ (aQq u)) lx (S (sa+n) (sa+n+j) _ _ (ae _) ∅ ∅ Y u)
    .rw[qj Q]at t;exact C.trans _ _ _ px pk (B _ (aQq t)) lx (S (sa+n) q _ _ (ae _) ∅ ∅ Y t)
  .rw[qj p1]at ex;rw[qj ∅]at t
   by_cases p2:p<sa+n+l
   .rw[qf p2]at ex
    by_cases Q:q<sa+n+l
    .rw[qf Q]at t;rcases eX O with c|c
     .have ex':M.toList[p-(sa+k)]?=some x:=by rw[aO];exact ex
      have ey':M.toList[q-(sa+k)]?=some y:=by rw[aO];exact t
      obtain⟨hx,e1⟩:=gSq.mp ex';obtain⟨hy,e2⟩:=gSq.mp ey';have:=cB.mp m.so (p-(sa+k)) (q-(sa+k)) hx hy ∅
      rw[e1,e2]at this;exact this
     .subst c;rw[ex]at t;cases t;rcases z _ _ ex with⟨j,H,T,u⟩|⟨j,H,u⟩
      .exact C.refl (B _ (aQq u))
      .exact C.refl (B _ (aQq u))
    .rw[qj Q]at t;have py:=B _ (aQq t);rcases z _ _ ex with⟨j,H,T,u⟩|⟨j,H,u⟩
     .exact C.trans _ _ _ (B _ (aQq u)) pl py (X (sa+j) (sa+n-1) _ _ ∅ ∅ ∅ u el) (l3 (q-(sa+n)) y ∅ ∅ (by rw[show sa+n+(q-(sa+n))=q by lia];exact t))
     .exact S (sa+n+j) q _ _ ∅ ∅ ∅ u t
   .rw[qj p2]at ex;rw[qj ∅]at t
    exact S p q _ _ ∅ O ∅ ex t
def XT{α:Type}{l:List α}{a b}(n:l[i]?=some a)(t:l[i+1]?=some b):l=l.take i++a::b::l.drop (i+2):=by
 obtain⟨u,x⟩:=gSq.mp n;obtain⟨z,B⟩:=gSq.mp t
 conv=>lhs;rw[←aT i l]
 rw[aQ u,aQ z,x,B]
def WM{α:Type}{q r:List α}{a b c}:((q++a::b::r).set q.length c).eraseIdx (q.length+1)=q++c::r:=by
 rw[iE _ _ (ae _),cj,List.eraseIdx_append_of_length_le ∅,ij]
 rfl
def HW(C:Ea prog w A s κ P lt){lo}{st}(G:∀x,x∈kB st->P x)(hk:kindOf st=κ)(hf:failedOf st=none)(hlo:lo<=(kB st).size)(O:vS lt (kB st) 0 (lF st).toList lo)
  (hi:i+1<(lF st).size) (h:∀xs p g,CD (kB st) xs 0 lo->p.size+1=(lF st).size->vS lt xs 0 p.toList lo->Q true (SortSt.mk' κ xs p g none)):wpS (kf prog w) A E s (mergeAt' i) Q st:=by
 obtain⟨L,n,z,g0,fl⟩:=st;have hk:L=κ:=hk;have hf:fl=none:=hf;subst hk hf;have G:∀x,x∈n->P x:=G;have hlo:lo<=n.size:=hlo;have O:vS lt n 0 z.toList lo:=O;have hi:i+1<z.size:=hi;have e1:z[i]?=some (z[i]'∅):=af ∅
 have e2:z[i+1]?=some (z[i+1]'∅):=af ∅
 generalize z[i]'∅=a at e1
 generalize z[i+1]'∅=b at e2
 obtain⟨sa,u,pa⟩:=a;obtain⟨sb,H,pb⟩:=b;have e1':z.toList[i]?=some (sa,u,pa):=by rw[aO];exact e1
 have e2':z.toList[i+1]?=some (sb,H,pb):=by rw[aO];exact e2
 have ep:=XT e1' e2';have lq:(z.toList.take i).length=i:=by rw[lTq,aH];lia
 generalize z.toList.take i=q at ep lq;generalize z.toList.drop (i+2)=r at ep;rw[ep]at O;obtain⟨T,c1,c2⟩:=xG.mp O;obtain⟨x1,x2,x3,x4,x5,x6,x7⟩:=c2;have d1:sa=T:=x1;have d2:0<u:=x2;have d3:EE lt n T (T+u):=x3;have f1:sb=T+u:=x4;have f2:0<H:=x5;have f3:EE lt n (T+u) (T+u+H):=x6;have f4:vS lt n (T+u+H) r lo:=x7
 clear x1 x2 x3 x4 x5 x6 x7
 subst d1 f1;have hrl:sa+u+H+r.length<=lo:=Dk f4;have hql:0+q.length<=sa:=Dk c1;have hz:sa+u+H<=n.size:=by lia
 have np:((z.setIfInBounds i (sa,u+H,pa)).eraseIdxIfInBounds (i+1)).toList=q++(sa,u+H,pa)::r:=by
  rw[Array.toList_eraseIdxIfInBounds,gK,ep,←lq];exact WM
 have ns:((z.setIfInBounds i (sa,u+H,pa)).eraseIdxIfInBounds (i+1)).size+1=z.size:=by
  rw[←aH,np,←aH,ep];simp only[lAq,lCq];lia
 have fin:∀U g,CD n U sa (sa+u+H)->EE lt U sa (sa+u+H)->Q true (SortSt.mk' L U ((z.setIfInBounds i (sa,u+H,pa)).eraseIdxIfInBounds (i+1)) g none):=λU g b1 s1=>by
  refine h U _ g ⟨b1.pm,λk hk=>b1.out k ∅⟩ ns ?_
  rw[np];refine xG.mpr ⟨sa,Ai (λk _ k2=>b1.out k (.inl k2)) c1,rfl,by show 0<u+H;lia,?_,?_⟩
  .show EE lt U sa (sa+(u+H));rw[←fF];exact s1
  .show vS lt U (sa+(u+H)) r lo;rw[←fF];exact Ai (λk k1 _=>b1.out k (.inr k1)) f4
 rw[QE];refine kg (lX ?_);dsimp only;rw[e1,e2];dsimp only;refine kg (V9 ?_);have ek:n[sa+u]?=some (n[sa+u]'∅):=af ∅
 have el:n[sa+u-1]?=some (n[sa+u-1]'∅):=af ∅
 have pk:=G _ (aQq ek);have pl:=G _ (aQq el);refine kg (rF ek ?_);refine kg (yl C d2 ∅ G pk rfl (Tz C ∅ G pk d3) λk k1 k2 k3=>?_)
 dsimp only;have kl:∀j y,j<k->n[sa+j]?=some y->lt (n[sa+u]'∅) y=false:=λj y hj B=>by
  have:=k2 j hj;rw[xF B,qj ⋯]at this
  simpa using this
 have kh:∀j y,k<=j->j<u->n[sa+j]?=some y->lt (n[sa+u]'∅) y=true:=λj y h1 h2 B=>by
  have:=k3 j h1 h2;rw[xF B,qj ⋯]at this
  simpa using this
 by_cases c1':u-k=0
 .rw[qf (by simp[c1'])]
  refine km (fin n g0 (CD.refl _ _ _) λp q x y X R Y ex B=>?_)
  have px:=G _ (aQq ex);have py:=G _ (aQq B)
  by_cases q1:q<sa+u
  .exact d3 p q _ _ X R q1 ex B
  .by_cases p1:p<sa+u
   .exact C.trans _ _ _ px pk py (kl (p-sa) x ∅ (by rw[show sa+(p-sa)=p by lia];exact ex)) (f3 (sa+u) q _ _ (ae _) ∅ Y ek B)
   .exact f3 p q _ _ ∅ R Y ex B
 rw[qj (by simpa using c1')]
 have ea:sa+k+(u-k)-1=sa+u-1:=by lia
 rw[ea];refine kg (rF el ?_);refine kg (yl C ∅ ∅ G pl rfl (Tz C ∅ G pl f3) λl l1 l2 l3=>?_)
 dsimp only;have ll:∀j y,j<l->n[sa+u+j]?=some y->lt y (n[sa+u-1]'∅)=true:=λj y hj B=>by
  have:=l2 j hj;rw[xF B,qf rfl]at this;exact this
 have lh:∀j y,l<=j->j<H->n[sa+u+j]?=some y->lt y (n[sa+u-1]'∅)=false:=λj y h1 h2 B=>by
  have:=l3 j h1 h2;rw[xF B,qf rfl]at this;exact this
 by_cases c2':l=0
 .rw[qf (by simp[c2'])]
  refine km (fin n g0 (CD.refl _ _ _) λp q x y X R Y ex B=>?_)
  have px:=G _ (aQq ex);have py:=G _ (aQq B)
  by_cases q1:q<sa+u
  .exact d3 p q _ _ X R q1 ex B
  .by_cases p1:p<sa+u
   .exact C.trans _ _ _ px pl py (d3 p (sa+u-1) _ _ X ∅ ∅ ex el) (lh (q-(sa+u)) y ∅ ∅ (by rw[show sa+u+(q-(sa+u))=q by lia];exact B))
   .exact f3 p q _ _ ∅ R Y ex B
 rw[qj (by simpa using c2')]
 have sx:BG lt (n.extract (sa+k) (sa+u)).toList:=HG λp q x y X R Y ex B=>d3 p q x y ∅ R Y ex B
 have sy:BG lt (n.extract (sa+u) (sa+u+l)).toList:=HG λp q x y X R Y ex B=>f3 p q x y X R ∅ ex B
 have I:∀x,x∈n.extract (sa+k) (sa+u)->P x:=λx I=>by
  obtain⟨j,_,_,e⟩:=xi (fY.mpr I);exact G _ (aQq e)
 have J:∀x,x∈n.extract (sa+u) (sa+u+l)->P x:=λx I=>by
  obtain⟨j,_,_,e⟩:=xi (fY.mpr I);exact G _ (aQq e)
 have zx:(n.extract (sa+k) (sa+u)).size=u-k:=by rw[eZ];lia
 have zy:(n.extract (sa+u) (sa+u+l)).size=l:=by rw[eZ];lia
 have g0':(n.extract (sa+u) (sa+u+l))[0]?=some (n[sa+u]'∅):=by
  rw[iA,qf ∅,jN]
  exact ek
 have gl':(n.extract (sa+k) (sa+u))[u-k-1]?=some (n[sa+u-1]'∅):=by
  rw[iA,qf ∅,show sa+k+(u-k-1)=sa+u-1 by lia]
  exact el
 have low:∀y∈(n.extract (sa+k) (sa+u)).toList,lt y (n[sa+u]'∅)=false:=λy J=>by
  obtain⟨j,j1,j2,ej⟩:=xi J;exact C.asym _ _ pk (G _ (aQq ej)) (kh (j-sa) y ∅ ∅ (by rw[show sa+(j-sa)=j by lia];exact ej))
 have S:∀x∈(n.extract (sa+u) (sa+u+l)).toList,lt (n[sa+u-1]'∅) x=false:=λx I=>by
  obtain⟨j,j1,j2,ej⟩:=xi I;exact C.asym _ _ (G _ (aQq ej)) pl (ll (j-(sa+u)) x ∅ (by rw[show sa+u+(j-(sa+u))=j by lia];exact ej))
 have done:∀M g,Mrg lt (n.extract (sa+k) (sa+u)) (n.extract (sa+u) (sa+u+l)) M ->
   Q true (SortSt.mk' L (M.toList.zipIdx.foldl (λa x=>a.setIfInBounds (sa+k+x.snd) x.fst) n) ((z.setIfInBounds i (sa,u+H,pa)).eraseIdxIfInBounds (i+1)) g none):=λM g mg=>by
  have lM:M.toList.length=(u-k)+l:=by
   have:=mg.pm.length_eq;simp only[lAq,aH,eZ]at this ⊢;lia
  have wb:=L7 (sa+k) M.toList 0 n ∅
  obtain⟨b1,s1⟩:=Xu C G hz k1 l1 d3 f3 ek el kl lh d2 f2 mg wb;exact fin _ g b1 s1
 by_cases c3:u-k<=l
 .rw[qf c3];refine kg (PL (κ:=L) (a:=n.extract (sa+k) (sa+u)) (b:=n.extract (sa+u) (sa+u+l)) C I J rfl sx sy (by rw[zx];lia) (by rw[zy];lia) (λx ex y J=>?_) (λj hj x I y J=>?_) λM g mg=>?_)
  .rw[g0']at ex;cases ex;exact low y J
  .have hj':j=u-k-1:=by lia
   subst hj';have:y=n[sa+u-1]'∅:=by
    obtain⟨t,t1,t2⟩:=Du J;rw[zx]at t1;have t0:t=0:=by lia
    subst t0;rw[jN,gl']at t2;exact(aY.inj t2).symm
   rw[this];exact S x I
  .refine kg (lN ?_);refine kg (lX ?_);exact km (done M g mg)
 .rw[qj c3];refine kg (Qw (κ:=L) (a:=n.extract (sa+k) (sa+u)) (b:=n.extract (sa+u) (sa+u+l)) C I J rfl sx sy (by rw[zx];lia) (by rw[zy];lia) (λx I y J=>?_) (λx ex y J=>?_) λM g mg=>?_)
  .have:x=n[sa+u]'∅:=by
    obtain⟨t,t1,t2⟩:=CL I;have t0:t=0:=by lia
    subst t0;rw[cA,g0']at t2;exact(aY.inj t2).symm
   rw[this];exact low y J
  .rw[zx,gl']at ex;cases ex;exact S y J
  .refine kg (lN ?_);refine kg (lX ?_);exact km (done M g mg)
noncomputable abbrev BW(κ:kY)(xs:Array ke)(p:Array (Nat×Nat×Nat))(g:Nat):SortSt:=SortSt.mk' κ xs p g none
def Kb{p:Array (Nat×Nat×Nat)}{lo}(h:vS lt xs 0 p.toList lo)(hn:0<n)(l:EE lt xs lo (lo+n)):vS lt xs 0 (p.push (lo,n,0)).toList (lo+n):=by
 rw[eF];exact xG.mpr ⟨lo,h,rfl,hn,l,rfl⟩
def K0(p:Array (Nat×Nat×Nat))i l:(p.modify i λx=>(x.fst,x.2.fst,l)).toList.map (λp=>(p.1,p.2.1))=p.toList.map (λp=>(p.1,p.2.1)):=by
 apply fu;intro k;rw[gMq,gMq,aO,aO,Array.getElem?_modify];split
 .cases p[k]? <;> rfl
 .rfl
def NG(C:Ea prog w A s κ P lt)(hp:∀x,x∈arr->P x)(h2:2<=arr.size)
    (h:∀xs p g',xs.Perm arr->EE lt xs 0 arr.size->Q () (BW κ xs p g')):wpS (kf prog w) A E s sortRuns' Q (BW κ arr #[] g):=by
  rw[sortRuns'_eq];refine kg (lX ?_);dsimp only;have e0:kB (BW κ arr #[] g)=arr:=rfl;rw[e0];generalize minRun' arr.size arr.size 0=M;refine kg (kR (kQ
    (I:=λi c l=>∃lo xs p g',c=(none,lo)/\l=BW κ xs p g'/\xs.Perm arr/\lo<=arr.size/\vS lt xs 0 p.toList lo/\i<=lo)
    (Q:=λc l=>∃xs p g',c=(none,arr.size)/\l=BW κ xs p g'/\xs.Perm arr/\vS lt xs 0 p.toList arr.size)
    ?step ?fin ⟨0,arr,#[],g,rfl,rfl,jC.refl _,bb _,rfl,ae _⟩) ?post)
  case fin=>
    rintro c l ⟨lo,xs,p,g',rfl,rfl,q1,q2,O,q4⟩;have e:lo=arr.size:=by lia
    subst e;exact⟨xs,p,g',rfl,rfl,q1,O⟩
  case step=>
    rintro i c l _ hi ⟨lo,xs,p,g',rfl,rfl,q1,q2,O,q4⟩;dsimp only;have R:∀x,x∈xs->P x:=λx hx=>hp x (q1.mem_iff.mp hx)
    have hzx:xs.size=arr.size:=q1.size_eq
    by_cases c1:lo ≥ arr.size
    . rw[qf c1]
      have e:lo=arr.size:=by lia
      subst e;exact km ⟨xs,p,g',rfl,rfl,q1,O⟩
    rw[qj c1];refine kg (Ot (st:=BW κ xs p g') C R rfl ∅ (by show lo+(arr.size-lo)<=xs.size;lia) λn u n1 n2 b1 s1=>?_)
    dsimp only;have hb:CD xs u lo (lo+n):=b1;show wpS _ _ _ _ _ _ (BW κ u p g')
    by_cases c2:n<M
    all_goals
      first
        | (rw[qf c2]
           refine kg (Bg ?_);refine kg (Ru (st:=BW κ u p g') (n:=min (arr.size-lo) M) C (hb.mem R) rfl n1 ∅ (by show lo+min (arr.size-lo) M<=u.size;have:=hb.size;lia) s1 λH b2 U=>?_)
           rw[qj ⋯]
           have z:CD xs H lo (lo+min (arr.size-lo) M):=(hb.mono ∅).trans b2
           have nn:1<=min (arr.size-lo) M:=by lia
           have nl:lo+min (arr.size-lo) M<=arr.size:=by lia
           show wpS _ _ _ _ _ _ (BW κ H p g')
           clear b1 s1 hb b2
           generalize min (arr.size-lo) M=nN at z nn nl U ⊢)
        | (rw[qj c2]
           have z:=hb;have U:=s1;have nn:=n1;have nl:lo+n<=arr.size:=by lia
           clear b1 s1 hb
           generalize hnN:n=nN at z nn nl U ⊢;generalize hzs:u=H at z U ⊢)
      have hpz:=z.mem R;have hzz:=z.size;have hcz:vS lt H 0 p.toList lo:=Ai (λk _ k2=>z.out k (.inl k2)) O
      have pz:H.Perm arr:=z.pm.trans q1;refine kg (lX ?_);have ep:lF (BW κ H p g')=p:=rfl;rw[ep];cases eb:p.back? with
      |none=>
        dsimp only;refine kg (lN (km ?_));exact⟨lo+nN,H,p.push (lo,nN,0),g',rfl,rfl,pz,nl,Kb hcz nn U,by lia⟩
      |some t=>
        obtain⟨s1',n1',pw0⟩:=t;dsimp only;refine kg (kR (kQ
          (I:=λi c l=>∃u q g2,c=(none,())/\l=BW κ u q g2/\CD H u 0 lo/\vS lt u 0 q.toList lo)
          (Q:=λc l=>∃u q g2,c=(none,())/\l=BW κ u q g2/\CD H u 0 lo/\vS lt u 0 q.toList lo)
          ?step1 (λc l hh=>hh) ⟨H,p,g',rfl,rfl,CD.refl _ _ _,hcz⟩) ?post1)
        case step1=>
          rintro j c l _ hj ⟨B,q,g2,rfl,rfl,b3,G⟩;refine kg (lX ?_);have X:lF (BW κ B q g2)=q:=rfl;rw[X]
          by_cases Y:q.size>1
          . rw[qf Y]
            have eo:q[q.size-2]?=some (q[q.size-2]'∅):=af ∅
            rw[eo];generalize q[q.size-2]'∅=o
            obtain⟨o1,o2,older⟩:=o;dsimp only;split
            . exact km ⟨B,q,g2,rfl,rfl,b3,G⟩
            . refine kg (HW (st:=BW κ B q g2) C (b3.mem hpz) rfl rfl (by show lo<=B.size;have:=b3.size;lia) G (by show q.size-2+1<q.size;lia) λS p3 g3 b4 _ T=>?_)
              rw[qj ⋯]
              exact km ⟨S,p3,g3,rfl,rfl,b3.trans b4,T⟩
          . rw[qj Y]
            exact km ⟨B,q,g2,rfl,rfl,b3,G⟩
        case post1=>
          rintro c l ⟨B,q,g2,rfl,rfl,b3,G⟩;dsimp only;refine kg (lN (kg (lN (km ?_))));have s3:EE lt B lo (lo+nN):=λa b x y a1 a2 a3 ex ey=>U a b x y a1 a2 a3 (by rw[←b3.out a (.inr a1)];exact ex) (by rw[←b3.out b (.inr ∅)];exact ey)
          exact⟨lo+nN,B,_,g2,rfl,rfl,b3.pm.trans pz,nl,Kb (Fw (K0 q _ _) G) nn s3,by lia⟩
  case post=>
    rintro c l ⟨xs,p,g',rfl,rfl,q1,O⟩;dsimp only;refine kg (kR (kQ
      (I:=λi c l=>∃u q g2,c=(none,())/\l=BW κ u q g2/\u.Perm arr/\vS lt u 0 q.toList arr.size/\q.size+i<=arr.size)
      (Q:=λc l=>∃u q g2,c=(none,())/\l=BW κ u q g2/\u.Perm arr/\vS lt u 0 q.toList arr.size/\q.size<=1)
      ?step2 ?fin2 ⟨xs,p,g',rfl,rfl,q1,O,by have:=Dk O;rw[aH]at this;lia⟩) ?post2)
    case fin2=>
      rintro c l ⟨u,q,g2,rfl,rfl,L,J,r3⟩;exact⟨u,q,g2,rfl,rfl,L,J,by lia⟩
    case step2=>
      rintro j c l _ hj ⟨u,q,g2,rfl,rfl,L,J,r3⟩;refine kg (lX ?_);have X:lF (BW κ u q g2)=q:=rfl;rw[X]
      by_cases Y:q.size<=1
      . rw[qf Y]
        exact km ⟨u,q,g2,rfl,rfl,L,J,Y⟩
      rw[qj Y];have hi':∀(b:Prop) [Decidable b],(if b then q.size-2-1 else q.size-2)+1<q.size:=λb _=>by split <;> lia
      refine kg (HW (st:=BW κ u q g2) C (λx hx=>hp x (L.mem_iff.mp hx)) rfl rfl (by show arr.size<=u.size;have:=L.size_eq;lia) J (hi' _) λS p3 g3 b4 ns T=>?_)
      rw[qj ⋯]
      have ns':p3.size+1=q.size:=ns;exact km ⟨S,p3,g3,rfl,rfl,b4.pm.trans L,T,by lia⟩
    case post2=>
      rintro c l ⟨u,q,g2,rfl,rfl,L,J,r3⟩;refine km (h u q g2 L ?_);rw[←aH]at r3;cases X:q.toList with
      |nil=>
        rw[X]at J;have r2':0=arr.size:=J;lia
      |cons a r=>
        rw[X]at J r3;have er:r=[]:=by
          rw[lCq]at r3;exact bz.mp ∅
        subst er;obtain⟨_,_,s3,e3⟩:=J;have e3':=e3;rw[e3']at s3;exact s3
end MrS
namespace Xe
open PySem
structure Ly (fs:Δ)(e:Addr)(oe:Obj)(T:Addr)(h h':Heap):Prop where
 keep:∀b o,b≠e->b∉fs->h.get? b=some o->h'.get? b=some o
 slot:∀b o,b≠e->h.get? b=some o->∃sl,h'.get? b=some { o with slots:=sl }
 exc:h'.get? e=some (oe.mapFields (·.setIfInBounds 1 (.ref T)))
 fresh:h.get? T=none
 ent:∃oT ts,h'.get? T=some oT/\oT.data = .fields ts/\ts[3]?=some .none
def LC{vs:Ω}
  (S:A.frames=some (env::outer)) (hl:s.heap.FunFrames base (env::outer)) (hf:env.frame=some L)
  (he:s.heap.get? e=some R) (hd:R.data = .fields vs) (hsz:1<vs.size)
  (h:∀h' T,Ly ((env::outer).filterMap (·.frame)) e R T s.heap h'->Q () { s with heap:=h' }) :
  ki M A (do let a ←frameOf env;let pl ←entryPlaceOf L t;let b ←EntryCells.newEntry head a .none (mD L) .none pl;setField (.ref e) 1 b) (λ_ s'=>ki M A (mK (.ref e) none) Q E s') E s:=by
 have J:e∉(env::outer).filterMap (·.frame):=λhm=>by
  obtain⟨_,o,I,U⟩:=hl.mem hm;rw[he]at I;injection I with I;subst I;exact U vs hd
 refine kj (wpAny_frameOf_fun S hl hf λl n=>?_)
 refine kj (wpAny_entryPlaceOf λpl O=>?_)
 unfold EntryCells.newEntry newFields;refine kj (wpAny_newObj_type ?_ (O.sizeOk5 _ _ _ _ _));have u:l.get? e=some R:=(n.2.1 e J).trans he;have z:=aa (h:=l) { cls:=.type "traceback", dict:=none,data:=.fields ([head,.ref L,.none,mD L,.none]++(if pl.isEmpty then aE 6 cU else pl)).toArray } u
 refine nU z hd hsz ?_;have P:l.objs.size≠e:=ef (ai u);have B:=Obj.data_mapFields hd (·.setIfInBounds 1 (ag l.objs.size));have G:=dr (Obj.mapFields (·.setIfInBounds 1 (ag l.objs.size))) z (Obj.isFreed_of_fields B);have H:=(bO (l.push { cls:=.type "traceback", dict:=none,data:=.fields ([head,.ref L,.none,mD L,.none]++(if pl.isEmpty then aE 6 cU else pl)).toArray })
  (Obj.mapFields (·.setIfInBounds 1 (ag l.objs.size))) (Ne.symm P)).trans (bf l rfl)
 unfold mK;refine kj (nJ G B (x:=.ref l.objs.size) (by simp[hsz]) ?_)
 rw[qf (show(ag l.objs.size != cU)=true from by simp)]
 refine nU H rfl (by simp only[aB,lAq,lCq,cO] <;> lia) (h _ l.objs.size ?_)
 have keep:∀b o,b≠e->l.get? b=some o ->
   (((l.push { cls:=.type "traceback", dict:=none,data:=.fields ([head,.ref L,.none,mD L,.none]++(if pl.isEmpty then aE 6 cU else pl)).toArray }).update e (Obj.mapFields (·.setIfInBounds 1 (ag l.objs.size)))).update l.objs.size
    (Obj.mapFields (·.setIfInBounds 3 ((none:Option Addr).elim cU λf=>mD f)))).get? b=some o:=λb o X hb=>by
  have Y:l.objs.size≠b:=ef (ai hb);rw[bO _ _ Y,bO _ _ (Ne.symm X)];exact aa _ hb
 refine⟨λb o hb hbf I=>keep b o hb ((n.2.1 b hbf).trans I),λb o hb I=>?_,?_,?_,?_⟩
 .obtain⟨sl,e1⟩:=n.2.2 b o I;exact⟨sl,keep b _ hb e1⟩
 .rw[bO _ _ P];exact G
 .exact cI (by rw[n.1];exact ae _)
 .exact⟨_,_,dr _ H (Obj.isFreed_of_fields (Obj.data_mapFields rfl _)),Obj.data_mapFields rfl _,by first|(simp;done)|(rcases O with rfl|⟨_,_,_,_,_,_,_,rfl⟩ <;> simp)⟩
def LP(h:Heap)(vs:Ω):Prop:=vs[1]?=some .none∨∃l n t,vs[1]?=some (.ref l)/\h.get? l=some n/\n.data = .fields t/\t[3]?=some .none
def ajd{vs:Ω}
  (n:A.frames=some (env::outer)) (hl:s.heap.FunFrames base (env::outer)) (z:env.frame=some L)
  (u:s.heap.get? e=some x) (hd:x.data = .fields vs) (I:LP s.heap vs)
  (h:∀h' T,Ly ((env::outer).filterMap (·.frame)) e x T s.heap h'->Q () { s with heap:=h' }) :
  ki M A (oq (.ref e) env) (λ_ s'=>ki M A (mK (.ref e) none) Q E s') E s:=by
 unfold oq;simp only[z];rcases I with t|⟨H,J,O,t,B,l,G⟩
 .refine kj (nJ u hd t ?_);rw[qj ⋯]
  exact LC n hl z u hd (aK.mp t).1 h
 .refine kj (nJ u hd t ?_);rw[qf (show(ag H != cU)=true from by simp)]
  refine kj (nJ B l G ?_);rw[qj (show ¬ ((cU == mD L)=true)from by simp[mD])]
  refine kj (nU B l (aK.mp G).1 ?_);rw[gV s.heap H J O 3 .none B l G];exact LC n hl z u hd (aK.mp t).1 h
def aja{vs:Ω}
  (n:A.frames=some (env::outer)) (hl:s.heap.FunFrames base (env::outer)) (t:env.frame=some L)
  (u:s.heap.get? e=some l) (hd:l.data = .fields vs) (x:LP s.heap vs)
  (h:∀h' T,Ly ((env::outer).filterMap (·.frame)) e l T s.heap h'->Q () { s with heap:=h' }) :
  ki M A (ot env (.ref e)) Q E s:=by
 unfold ot;exact kj (ajd n hl t u hd x h)
noncomputable abbrev Ad:Ξ:=[.type "ValueError", .type "Exception", .type "BaseException", .type "object"]
noncomputable abbrev CW(C t:Addr)(dd:Option Addr):Obj:={ cls:=.ref C,dict:=dd,data:=.fields #[.ref t,.none,.none,.none,.bool false,.none] }
abbrev Lk{α:Type}(M:lQ)(h:Heap)(x:Sem α)(r:α):Prop:=
 ∀(A:Around) (Q:α->kc->Prop) (E:Value->kc->Prop) (s:kc),(∀b o,h.get? b=some o->s.heap.get? b=some o)->Q r s->ki M A x Q E s
section
variable {bs bm:Ξ}{sub:Ξ}{k0 k1 k2 k3 k5:Υ}
def Rx(n:bm.contains (.type "BaseException")=true)(hh:A.handled=none)
  (h:ki M A x (λv l=>∃e t B,v = .ref e/\l.heap.get? C=some (kJ nm q C N bs bm hdct sn sub ab col dd k0 k1 k2 k3 k5 newId) /\
   l.heap.get? e=some (CW C t B)/\E (.ref e) l) E s) :
  ki M A (raiseStmt env (some x) none) Q E s:=by
 have z:(ag C::bm).contains (.type "BaseException")=true:=by rw[bE,n,eh]
 unfold raiseStmt;refine kj (kG h (λv l u=>?_) λ_ _ x=>x)
 obtain⟨e,t,B,rfl,G,H,I⟩:=u;obtain⟨J,g,d,L,os⟩:=l
 repeat (first|with_reducible refine kA H ?_|with_reducible refine kA G ?_|(with_reducible refine kK G ?_;rw[z])|wp_step)
 exact wpAny_raiseNew_none hh I
end
section
variable {os:ox}
variable {bs bm:Ξ}{sub:Ξ}{k0 k1 k2 k3 k5:Υ}
def IY(T:kT h Ad bm){rest:Ξ}
  (s:h.get? C=some (kJ nm q C N bs bm hdct sn sub ab col dd k0 k1 k2 k3 k5 "ValueError.__new__"))
  (hi:Lk (kf prog w) h (kE (.ref C) "__init__") (some (.ref u))) (hb:∀self,Lk (kf prog w) h (bindSpecial (.ref u) self) (.ref u,[self]))
  (H:∀h' e,gA h h' e (.ref C) rest->h.objs.size<=e ->
   ki (kf prog w) A (call (.ref u) (.ref e::rest)) (λr s'=>r = .none/\Q (.done (.ret (.ref e))) s') E ⟨h',g,d,t,os⟩) (hrest:rest.length<=ku) :
  ki (kf prog w) A (Builtin.«type.__call__» ⟨.ref C::rest,[]⟩) Q E ⟨h,g,d,t,os⟩:=by
 have F:=eP
 repeat (first|with_reducible refine kA s ?_|with_reducible refine wpAny_madeBy_exc s ?_|wp_step)
 refine mU (Code.quiet_builtin _ F.quiet) (nX F T s ?_);refine og F T s ?_ hrest;show ki _ _ _ _ _ _;have n:=aa { cls:=.ref C,data:=.fields #[.ref h.objs.size,.none,.none,.none,.bool false,.none] }
  (aa { cls:=.type "tuple", data:=.seq rest.toArray } s)
 have l:((h.push { cls:=.type "tuple", data:=.seq rest.toArray }).push
   { cls:=.ref C,data:=.fields #[.ref h.objs.size,.none,.none,.none,.bool false,.none] }).get? (h.objs.size+1)=some
   { cls:=.ref C,data:=.fields #[.ref h.objs.size,.none,.none,.none,.bool false,.none] }:=by heap_get
 have z:(ag C::bm).contains (.ref C)=true:=by simp
 have B:∀b o,h.get? b=some o->((h.push { cls:=.type "tuple", data:=.seq rest.toArray }).push { cls:=.ref C,data:=.fields #[.ref h.objs.size,.none,.none,.none,.bool false,.none] }).get? b=some o:=λb o e=>aa _ (aa _ e)
 have G:=T.keeps (h':=(h.push { cls:=.type "tuple", data:=.seq rest.toArray }).push { cls:=.ref C,data:=.fields #[.ref h.objs.size,.none,.none,.none,.bool false,.none] })
  λb o e=>aa _ (aa _ e)
 unfold mV
 repeat (first|with_reducible refine kA l ?_|(with_reducible refine kK n ?_;rw[z])|wp_step)
 show ki _ _ (kE (.ref C) _) _ _ _;refine hi _ _ _ _ B ?_;refine mO (kj (hb _ _ _ _ _ B ?_));refine(kj (kG (H _ (h.objs.size+1) ⟨λb o hb=>aa _ (aa _ hb),cI (bP _),h.objs.size,l,cI (ae _),?_⟩ (bP _)) (λr s' hr=>?_) λ_ _ x=>x))
 .exact aa _ (gY rfl rfl)
 .obtain⟨rfl,I⟩:=hr
  wp_walk
  exact I
def WN(T:kT h Ad bm){rest:Ξ}
  (n:h.get? C=some (kJ nm q C N bs bm hdct sn sub ab col dd k0 k1 k2 k3 k5 "ValueError.__new__"))
  (hi:Lk (kf prog w) h (kE (.ref C) "__init__") (some (.ref l))) (hb:∀self,Lk (kf prog w) h (bindSpecial (.ref l) self) (.ref l,[self]))
  (s:∀h' e,gA h h' e (.ref C) rest->h.objs.size<=e ->
   ki (kf prog w) (A.under (.builtin "type.__call__" ⟨.ref C::rest,[]⟩)) (call (.ref l) (.ref e::rest)) (λr s'=>r = .none/\Q (.ref e) s') E ⟨h',g,d,t,os⟩) (hrest:rest.length<=ku) :
  ki (kf prog w) A (call (.ref C) rest) Q E ⟨h,g,d,t,os⟩:=by
 have x:=tc_lookup;have z:=tc_bind (.ref C);have B:(⟨h,g,d,t,os⟩:kc).TypeIs (.ref C) "type" := ⟨_,n,rfl⟩;refine lB (codeAny_of_tree ?_);show ki _ _ (callAny (.ref C) _) _ _ _
 repeat (any_goals (first|assumption|with_reducible refine kA n ?_|wp_step))
 refine⟨rfl,?_⟩;refine nr (Code.quiet_builtin _ (by trivial)) entry_typeCall (mS n (IY (hrest:=hrest) T n hi hb λh' e hm u=>?_))
 exact s h' e hm u
def V5(T:kT h Ad bm){rest:Ξ}
  (n:h.get? C=some (kJ nm q C N bs bm hdct sn sub ab col dd k0 k1 k2 k3 k5 "ValueError.__new__")) (l:h.get? e=some (CW C t0 none))
  (s:∀h' u,(∀b o,b≠e->h.get? b=some o->h'.get? b=some o)->h'.get? e=some (CW C u none)->Q .none ⟨h',g,d,t,os⟩) (hrest:rest.length<=ku) :
  ki (kf prog w) A (call (.builtin "ValueError.__init__") (.ref e::rest)) Q E ⟨h,g,d,t,os⟩:=by
 have F:=eP;refine lB (kP F.init.plain F.initEntry (nP F T n l rfl ?_))
 wp_walk
 refine s _ h.objs.size (λb o hb x=>?_) ?_
 .rw[bO _ _ (Ne.symm hb)];exact aa _ x
 .rw[dr _ (aa _ l) rfl];rfl
def Q1(T:kT h Ad bm)self:refuseLoop self "__setattr__" bm=pure ():=by
 induction T with
 |base=>exact PySem.F.store_ValueError.passes self
 |own _ _ _ _ l=>rw[refuseLoop_ref];exact l
end
end Xe
namespace Xe
open PySem
open Builtin Builtin.ObjectAttr
section
variable {os:ox}
variable {bs bm:Ξ}{sub:Ξ}{k0 k1 k2 k3 k5:Υ}
def W6(T:kT h Ad bm)
  (hC:h.get? C=some (kJ nm q C N bs bm true sn sub ab col dd k0 k1 k2 k3 k5 "ValueError.__new__")) (H:h.get? x=some o) (hc:o.cls = .ref C) (J:∀c,o.data ≠ .cls c) (L:o.dict=none)
  (M:Lk (kf prog w) h (kE (.ref C) l) none)
  (hq:∀h' I O,h.objs.size<=I->I≠x->h'.get? x=some { cls:=o.cls,dict:=some I,data:=o.data,slots:=o.slots }->h'.Ns1 I (λy=>if y=l then some v else none)->(∀b P,b≠x->h.get? b=some P->h'.get? b=some P) ->
   Q (.done (.ret .none)) ⟨h',g,d,O,os⟩) :
  ki (kf prog w) A (Builtin.«object.__setattr__» ⟨[.ref x,.str l tk,v],[]⟩) Q E ⟨h,g,d,t,os⟩:=by
 have s:=Q1 T (.ref x);unfold Builtin.«object.__setattr__»
 repeat (first|rw[refuse_eq]|(rw[refuseLoop_ref,s])|(with_reducible refine kA H ?_;rw[hc])|with_reducible refine wpAny_mroOf_exc hC ?_|with_reducible refine M _ _ _ _ (λ_ _ z=>z) ?_|wp_step)
 rw[L,qj (by simp[typeHasDict])]
 split
 .rename_i u;cases u
 split
 .rename_i c u;exact absurd u (J c)
 .have n:(h.push { cls:=.type "dict", data:=.dict #[] }).get? x=some o:=aa _ H;have B:x≠h.objs.size:=aF (ai H);refine kj (wpAny_alloc' ?_);refine kj (wpAny_update' n ?_);refine kC ?_;have R:((h.push { cls:=.type "dict", data:=.dict #[] }).update x λo=>{ cls:=o.cls,dict:=some h.objs.size,data:=o.data,slots:=o.slots }).get? h.objs.size
    = some { cls:=.type "dict", data:=.dict #[] }:=
   (dX _ _ _ _ B.symm).trans (gY rfl rfl)
  have S:((h.push { cls:=.type "dict", data:=.dict #[] }).update x λo=>{ cls:=o.cls,dict:=some h.objs.size,data:=o.data,slots:=o.slots }).Ns h.objs.size (λ_=>none):=
   ⟨_,#[],_,R,rfl,λe he=>absurd he ⋯,λ_=>rfl⟩
  show ki _ _ (storeInDict h.objs.size (.str l tk) l v) _ _ _;unfold storeInDict newKeyGuard;refine kj (kC (kj (wpAny_nsSet1 (Heap.Ns1.of_empty S) λh' G hs=>?_)))
  obtain⟨oD,esD,epD,U,X,Y⟩:=G.count (Within.cons l v Within.nil);refine kj (wpAny_lookBehind U (by rw[X];exact pastItsLine_dict (aZ Y (by rw[lCq,cO,kL];lia))) ?_)
  wp_walk
  refine hq h' h.objs.size _ (ae _) B.symm ?_ G (λb P hbx hb=>?_)
  .refine(hs.2 x B).trans (dr _ n ?_);have hfr:=(Heap.get?_some_iff.mp H).2;obtain⟨oc,od,odt,osl⟩:=o;cases odt <;> first|rfl|exact hfr
  .exact(hs.2 b (aF (ai hb))).trans ((dX _ _ _ _ hbx).trans (aa _ hb))
def Z8(T:kT h Ad bm)
  (s:h.get? C=some (kJ nm q C N bs bm true sn sub ab col dd k0 k1 k2 k3 k5 "ValueError.__new__")) (u:h.get? x=some o) (z:o.cls = .ref C) (B:Q () ⟨h,g,d,t,os⟩) :
  ki M A (mn "object.__setattr__" ⟨[.ref x,l,v],[]⟩) Q E ⟨h,g,d,t,os⟩:=by
 have SF:=iS;have n:(ag C::bm).contains (.type "object")=true:=by rw[bE,T.hasType (show Ad.contains (.type "object")=true by decide),eh]
 have ha:=SF.args (.ref x) l v;simp only[mn,SF.kind,SF.split];refine kj ?_
 .unfold mV
  repeat (first|(with_reducible refine kA u ?_;rw[z])|(with_reducible refine kK s ?_;rw[n])|wp_step)
  exact B
def Wa(T:kT h Ad bm)
  (H:h.get? C=some (kJ nm q C N bs bm true sn sub ab col dd k0 k1 k2 k3 k5 "ValueError.__new__")) (u:h.get? x=some (CW C t0 none))
  (B:Lk (kf prog w) h (kE (.ref C) "__setattr__") (some (.builtin "object.__setattr__"))) (G:Lk (kf prog w) h (kE (.ref C) l) none)
  (J:∀h' s n,h.objs.size<=s->s≠x->h'.get? x=some (CW C t0 (some s))->h'.Ns1 s (λy=>if y=l then some v else none)->(∀b I,b≠x->h.get? b=some I->h'.get? b=some I) ->
   Q () ⟨h',g,d,n,os⟩) :
  ki (kf prog w) A (setAttr (.ref x) l v) Q E ⟨h,g,d,t,os⟩:=by
 have SF:=iS;have U:=SF.slot.bind (.ref x);have L:(ag C::bm).contains (.type "object")=true:=by rw[bE,T.hasType (show Ad.contains (.type "object")=true by decide),eh]
 unfold setAttr callSpecial? specialOf
 repeat (any_goals (first|assumption|with_reducible refine kA u ?_|with_reducible refine B _ _ _ _ (λ_ _ z=>z) ?_|wp_step))
 refine kP SF.slot.plain SF.entry (Z8 T H u rfl (W6 T H u rfl (λc z=>nomatch z) rfl G λh' s n M O P R S=>?_))
 repeat (any_goals (first|assumption|wp_step))
 exact J h' s n M O P R S
end
section
variable {os:ox}
variable {bs bm:Ξ}{sub:Ξ}{k0 k1 k2 k3 k5:Υ}{mA:Str->Υ}
def aaD(J:h.get? C=some (kJ nm q C N bs bm true sn sub ab col dd k0 k1 k2 k3 k5 "ValueError.__new__"))(G:h.get? x=some o)(H:o.cls = .ref C)(l:∀c,o.data ≠ .cls c)(n:o.dict=some dx)
  (s:Lk (kf prog w) h (kE (.ref C) name) none) (u:h.Ns1 dx mA) (L:mA name=some v) (M:Q (.done (.ret v)) ⟨h,g,d,t,os⟩) :
  ki (kf prog w) A (Builtin.«object.__getattribute__» ⟨[.ref x,.str name I],[]⟩) Q E ⟨h,g,d,t,os⟩:=by
 unfold Builtin.«object.__getattribute__»
 repeat (first|(with_reducible refine kA G ?_;rw[H])|with_reducible refine s _ _ _ _ (λ_ _ z=>z) ?_|wp_step)
 split
 .rename_i c B;exact absurd B (l c)
 unfold instanceDict
 repeat (first|(with_reducible refine kA G ?_;rw[H])|with_reducible refine kA J ?_|wp_step)
 rw[n]
 repeat (first|(with_reducible refine wpAny_nsGet u.ns ?_;rw[L])|wp_step)
 exact M
def O2(T:kT h Ad bm)(u:h.get? C=some (kJ nm q C N bs bm true sn sub ab col dd k0 k1 k2 k3 k5 "ValueError.__new__"))
  (z:h.get? x=some o) (B:o.cls = .ref C) (G:Q () ⟨h,g,d,t,os⟩):ki M A (mn "BaseException.__getattribute__" ⟨[.ref x,l],[]⟩) Q E ⟨h,g,d,t,os⟩:=by
 have hk:builtinKind "BaseException.__getattribute__" = some .slot:=by trivial
 have n:splitId "BaseException.__getattribute__" = some ("BaseException","__getattribute__"):=by trivial
 have s:(ag C::bm).contains (.type "BaseException")=true:=by rw[bE,T.hasType (show Ad.contains (.type "BaseException")=true by decide)];rfl
 have ha:=PySem.F.args_bexc_ga (.ref x) l;simp only[mn,hk,n];refine kj ?_
 .unfold mV
  repeat (first|(with_reducible refine kA z ?_;rw[B])|(with_reducible refine kK u ?_;rw[s])|wp_step)
  exact G
def ad7(T:kT h Ad bm)(M:h.get? C=some (kJ nm q C N bs bm true sn sub ab col dd k0 k1 k2 k3 k5 "ValueError.__new__"))(n:h.get? x=some o)(s:o.cls = .ref C)
  (u:∀c,o.data ≠ .cls c) (B:o.dict=some dx) (G:Lk (kf prog w) h (kE (.ref C) name) none) (H:Lk (kf prog w) h (kE (.ref C) "__getattribute__") (some (.builtin "BaseException.__getattribute__")))
  (I:Lk (kf prog w) h (kE (.ref C) "__getattr__") none) (J:h.Ns1 dx mA) (R:mA name=some v) (hh:handedOut v=pure v) (X:Q v ⟨h,g,d,t,os⟩) :
  ki (kf prog w) A (getAttrBy (.ref x) (.str name P) fill l) Q E ⟨h,g,d,t,os⟩:=by
 have O:=gM;have Y:=O.ga.bind (.ref x);have S:(l && onTheHeap (cX "BaseException.__getattribute__"))=false:=by cases l <;> rfl
 have L:(cX "BaseException.__getattribute__" == cX "object.__getattribute__")=false:=by trivial
 have U:(onTheHeap (ag C) && cX "BaseException.__getattribute__" == cX "object.__getattribute__")=false:=by rw[L];rfl
 repeat (any_goals (first|assumption|(with_reducible refine kA n ?_;rw[s])|with_reducible refine H _ _ _ _ (λ_ _ z=>z) ?_|with_reducible refine I _ _ _ _ (λ_ _ z=>z) ?_|wp_step))
 refine kP O.ga.plain iF (O2 T M n s (aaD M n s u B G J R ?_))
 repeat (any_goals (first|assumption|rw[hh]|wp_step))
def Wb(T:kT h Ad bm)(H:h.get? C=some (kJ nm q C N bs bm true sn sub ab col dd k0 k1 k2 k3 k5 "ValueError.__new__"))(I:h.get? x=some o)(J:o.cls = .ref C)
  (n:∀c,o.data ≠ .cls c) (s:o.dict=some dx) (u:Lk (kf prog w) h (kE (.ref C) name) none) (z:Lk (kf prog w) h (kE (.ref C) "__getattribute__") (some (.builtin "BaseException.__getattribute__")))
  (B:Lk (kf prog w) h (kE (.ref C) "__getattr__") none) (G:h.Ns1 dx mA) (L:mA name=some v) (hh:handedOut v=pure v) (M:Q v ⟨h,g,d,t+1,os⟩) :
  ki (kf prog w) A (ou (.ref x) name l) Q E ⟨h,g,d,t,os⟩:=by
 unfold ou
 repeat (any_goals (first|assumption|with_reducible apply ad7 T H I J n s u z B G L hh|wp_step))
def Xl(T:kT h Ad bm)(z:h.get? C=some (kJ nm q C N bs bm true sn sub ab col dd k0 k1 k2 k3 k5 "ValueError.__new__"))(s:h.get? x=some o)(u:o.cls = .ref C)
  (B:R (.ok (.ret (.ref C))) ⟨h,g,d,t,os⟩) :
  lK (kf prog w) A (.call (.builtin "getset_descriptor.__get__") ⟨[.builtin "object.__class__", .ref x,.ref C],[]⟩) R ⟨h,g,d,t,os⟩:=by
 have l:(⟨h,g,d,t,os⟩:kc).TypeIs (.builtin "object.__class__") "getset_descriptor" := eK;have n:(ag C::bm).contains (.type (".".intercalate ("object.__class__".cutAt '.').dropLast))=true:=by
  rw[PySem.F.owner_object_class,bE,T.hasType (show Ad.contains (.type "object")=true by decide)];rfl
 refine kP gw.plain PySem.F.entry_gs_get (gw.check _ _ _ _ _ _ _ _ l (PySem.F.args_gs_get _ _ _) ?_)
 repeat (any_goals (first|assumption|(with_reducible refine kA s ?_;rw[u])|(with_reducible refine kK z ?_;rw[n])|wp_step))
 refine⟨Code.quiet_builtin _ (by trivial),nA PySem.F.entry_object_class ?_⟩
 repeat (any_goals (first|assumption|(with_reducible refine kA s ?_;rw[u])|wp_step))
def Vm(T:kT h Ad bm)(B:h.get? C=some (kJ nm q C N bs bm true sn sub ab col dd k0 k1 k2 k3 k5 "ValueError.__new__"))(n:h.get? x=some o)(s:o.cls = .ref C)
  (l:Lk (kf prog w) h (kE (.ref C) "__class__") (some (.builtin "object.__class__"))) (H:Q (.done (.ret (.ref C))) ⟨h,g,d,t,os⟩) :
  ki (kf prog w) A (Builtin.«object.__getattribute__» ⟨[.ref x,.str "__class__" u],[]⟩) Q E ⟨h,g,d,t,os⟩:=by
 have G:(⟨h,g,d,t,os⟩:kc).TypeIs (.builtin "object.__class__") "getset_descriptor" := eK;have I:=eK;have J:=gw.lookup;have L:=PySem.F.slot_gs_set.lookup
 repeat (any_goals (first|assumption|(with_reducible refine kA n ?_;rw[s])|with_reducible refine l _ _ _ _ (λ_ _ z=>z) ?_|wp_step))
 refine Xl T B n s ?_
 repeat (any_goals (first|assumption|wp_step))
def YN(T:kT h Ad bm)(H:h.get? C=some (kJ nm q C N bs bm true sn sub ab col dd k0 k1 k2 k3 k5 "ValueError.__new__"))(l:h.get? x=some o)(n:o.cls = .ref C)
  (s:Lk (kf prog w) h (kE (.ref C) "__class__") (some (.builtin "object.__class__"))) (u:Lk (kf prog w) h (kE (.ref C) "__getattribute__") (some (.builtin "BaseException.__getattribute__")))
  (B:Lk (kf prog w) h (kE (.ref C) "__getattr__") none) (M:Q (.ref C) ⟨h,g,d,t,os⟩):ki (kf prog w) A (getAttrBy (.ref x) (.str "__class__" J) false) Q E ⟨h,g,d,t,os⟩:=by
 have I:=gM;have O:=I.ga.bind (.ref x);have G:(cX "BaseException.__getattribute__" == cX "object.__getattribute__")=false:=by trivial
 have L:(onTheHeap (ag C) && cX "BaseException.__getattribute__" == cX "object.__getattribute__")=false:=by rw[G];rfl
 repeat (any_goals (first|assumption|(with_reducible refine kA l ?_;rw[n])|with_reducible refine u _ _ _ _ (λ_ _ z=>z) ?_|with_reducible refine B _ _ _ _ (λ_ _ z=>z) ?_|wp_step))
 refine kP I.ga.plain iF (O2 T H l n (Vm T H l n s ?_))
 repeat (any_goals (first|assumption|wp_step))
def Rl(T:kT h Ad bm){Q:Υ->kc->Prop}(u:h.get? C=some (kJ nm q C N bs bm true sn sub ab col dd k0 k1 k2 k3 k5 "ValueError.__new__"))(z:h.get? x=some o)(B:o.cls = .ref C)
  (l:Lk (kf prog w) h (kE (.ref C) "__class__") (some (.builtin "object.__class__"))) (n:Lk (kf prog w) h (kE (.ref C) "__getattribute__") (some (.builtin "BaseException.__getattribute__")))
  (s:Lk (kf prog w) h (kE (.ref C) "__getattr__") none) (G:Q (some (.ref C)) ⟨h,g,d,t+1,os⟩):ki (kf prog w) A (getAttr? (.ref x) "__class__") Q E ⟨h,g,d,t,os⟩:=by
 unfold getAttr? getAttrBy?
 repeat (any_goals (first|assumption|with_reducible apply YN T u z B l n s|wp_step))
end
section
variable {os:ox}
variable {bs bm bs' bm':Ξ}{sub sub':Ξ}{k0 k1 k2 k3 k5 k0' k1' k2' k3' k5':Υ}
def Qx(B:h.get? C=some (kJ nm q C N bs bm hdct sn sub ab col dd k0 k1 k2 k3 k5 newId))
  (l:h.get? C'=some (kJ nm' q' C' N' bs' bm' hdct' sn' sub' ab' col' dd' k0' k1' k2' k3' k5' newId')) (hb:bm'.contains (.type "BaseException")=true)
  (G:h.get? e=some z) (n:z.cls = .ref C) (u:Q ((ag C::bm).contains (.ref C')) ⟨h,g,d,t,os⟩):ki M A (excMatches (.ref e) (.ref C')) Q E ⟨h,g,d,t,os⟩:=by
 have s:(ag C'::bm').contains (.type "BaseException")=true:=by rw[bE,hb,eh]
 have f:=tc_notTuple;unfold excMatches;cases x:(ag C::bm).contains (.ref C')with
 |true=>
  rw[x]at u
  repeat (first|(with_reducible refine kA G ?_;rw[n])|with_reducible refine kA l ?_|(with_reducible refine kK l ?_;rw[s])|(with_reducible refine kK B ?_;rw[x])|wp_step)
  exact u
 |false=>
  rw[x]at u
  repeat (first|(with_reducible refine kA G ?_;rw[n])|with_reducible refine kA l ?_|(with_reducible refine kK l ?_;rw[s])|(with_reducible refine kK B ?_;rw[x])|wp_step)
  exact u
end
abbrev Mt(M:lQ)(e:Addr)(c0:Value)(b:Bool)(s:kc):Prop:=∀(A:Around) (Q:Bool->kc->Prop) (E:Value->kc->Prop),Q b s->ki M A (excMatches (.ref e) c0) Q E s
def abb(hm:Mt (kf prog w) e c0 true s)(O:∀L:Value->kc->Prop,L c0 s->ki (kf prog w) (A.mark (some (.ref e))) (eval t env) L (λ_ _=>False) s)
  (k:ki (kf prog w) (A.mark (some (.ref e))) (mK (.ref e) none) (λ_ l=>ki (kf prog w) (A.mark (some (.ref e))) (storeName env n (.ref e)) (λ_ u=>
   ki (kf prog w) (A.mark (some (.ref e))) (execs (b₀::suite) env) (λf B=>ki (kf prog w) A (do bindName env n .none;nY env n pos) (λ_ G=>Q f G) E B) (λ_ _=>False) u) (λ_ _=>False) l) (λ_ _=>False) s) :
  ki (kf prog w) A (nh (.ref e) env (.ExceptHandler (some t) (some n) (b₀::suite) pos::rest)) Q E s:=by
 refine oj (nS (kG (O _ ?_) (λc M H=>H) λ_ _ x=>x.elim)) (by intro q;cases q)
 refine hm _ _ _ (codeAny_handlers_suite_as ?_);exact kG k (λ_ l I=>kG I (λ_ u J=>kG J (λ_ _ z=>z) λ_ _ z=>z.elim) λ_ _ z=>z.elim) λ_ _ z=>z.elim
def ajR(hm:Mt (kf prog w) e c0 false s)(G:∀u:Value->kc->Prop,u c0 s->ki (kf prog w) (A.mark (some (.ref e))) (eval t env) u (λ_ _=>False) s)
  (k:ki (kf prog w) A (nh (.ref e) env rest) Q E s):ki (kf prog w) A (nh (.ref e) env (.ExceptHandler (some t) B (b₀::suite) pos::rest)) Q E s:=by
 refine oj (nS (kG (G _ ?_) (λc z l=>l) λ_ _ x=>x.elim)) (by intro q;cases q)
 exact hm _ _ _ k
end Xe
namespace Mr
abbrev St:=L2.St
open PySem PySem.Spec PyProof.Rows L2
def OY{fp:Δ}{T:Addr}(I:qb X oA σ H s)(k:∀b u,b∉fp->s.heap.get? b=some u->h'.get? b=some u)
  (t:∀b∈fp,Ga X oA H b) (x:s.heap.objs.size<=T) (new:sI X.prog X.w (ri H T o) h' T o):qb X oA σ (ri H T o) { s with heap:=h',toks:=t' }:=by
 have hn:=I.hok.fresh x;have nf:∀b u,H b=some u->b∉fp:=λb u e z=>by rw[(t b z).1]at e;cases e
 refine I.step (λb hb=>?_) (λb u _ _ l e _=>k b u l e) (λb u _ _ l e _=>⟨u.slots,k b u l e⟩)
  (λb u _ e n=>by rw[pe (aF (aJ (ai e) x))];exact n) (λb u l e=>⟨u,k b u l e⟩)
  (λb B e=>by rw[pe (tE e hn)];exact e) (λb u B e=>by rw[pe (tE e hn)];exact e) (λb Q e=>⟨#[],by rw[pe (tE e hn),e];simp⟩) (λm hm=>?_) (λb u e=>?_) I.bare
 .obtain⟨_,E,_,G,J,L⟩:=t b hb;exact⟨G,E,J,L⟩
 .obtain⟨u,M,O,P,r⟩:=hm;exact⟨u,M,O,k _ u (λz=>(t _ z).2.1 rfl) P,r⟩
 .by_cases hb:b=T
  .subst hb;rw[pE]at e;cases e;exact new
  .rw[pe hb]at e;refine(I.hok b u e).stay (λc v l q=>k c v ?_ q) (λc q=>by rw[pe (tE q hn)];exact q) λc B q=>by rw[pe (tE q hn)];exact q
   rcases l with rfl|l
   .exact nf _ u e
   .exact nf c _ l
def TU{fp:Δ}(I:qb X oA σ H s)(k:∀b u,b∉fp->s.heap.get? b=some u->h'.get? b=some u)
  (t:∀b∈fp,Ga X oA H b):qb X oA σ H { s with heap:=h',toks:=t' }:=by
 have nf:∀b u,H b=some u->b∉fp:=λb u e z=>by rw[(t b z).1]at e;cases e
 refine I.step (λb hb=>?_) (λb u _ _ l e _=>k b u l e) (λb u _ _ l e _=>⟨u.slots,k b u l e⟩)
  (λ_ _ _ _ n=>n) (λb u l e=>⟨u,k b u l e⟩) (λ_ _ e=>e) (λ_ _ _ e=>e) (λb O e=>⟨#[],by rw[e];simp⟩) (λm hm=>?_) (λb u e=>?_) I.bare
 .obtain⟨_,x,_,B,E,G⟩:=t b hb;exact⟨B,x,E,G⟩
 .obtain⟨u,J,L,M,r⟩:=hm;exact⟨u,J,L,k _ u (λz=>(t _ z).2.1 rfl) M,r⟩
 .refine(I.hok b u e).stay (λc v l q=>k c v ?_ q) (λ_ q=>q) λ_ _ q=>q
  rcases l with rfl|l
  .exact nf _ u e
  .exact nf c _ l
def N4(I:qb X oA σ H s)(h:uO X.K H a xs)(f:Ga X oA H b):a≠b:=by
 intro e;subst e;obtain⟨l,_,_,t,_⟩:=f;rcases h with(h|⟨o,h⟩)|⟨o,u,n,hk,_⟩
 .rw[l]at h;cases h
 .rw[l]at h;cases h
 .have hb:=I.mod.kin a o hk;rcases t with z|z
  .exact I.ok.noex a o hb z
  .exact absurd (aJ (ai (I.ok.bs a o hb).1) z) (cV _)
noncomputable def Itz(K:Ζ)(a b:Addr):It:=
  ⟨λi H=>∃xs l x y,uO K H a xs/\uO K H b l/\xs[i]?=some x/\l[i]?=some y,
   λi H v n=>∃T x y,H T=none/\v = .ref T/\n=ri H T (.tup [x,y])/\(∀xs,uO K H a xs->xs[i]?=some x)/\∀l,uO K H b l->l[i]?=some y,
   λi H=>∃xs l,uO K H a xs/\uO K H b l/\(xs.length<=i∨l.length<=i)⟩
structure Z5 (z TI TO i1 i2:Addr):Prop where
 a:TI≠z
 b:TO≠z
 c:i1≠z
 d:i2≠z
 e:TI≠TO
 f:TI≠i1
 g:TI≠i2
 h:TO≠i1
 i:TO≠i2
 j:i1≠i2
def akr(n:Nat):Z5 (n+4) (n+2) (n+3) n (n+1) where
 a:=λ(q)=>by lia
 b:=λ(q)=>by lia
 c:=λ(q)=>by lia
 d:=λ(q)=>by lia
 e:=λ(q)=>by lia
 f:=λ(q)=>by lia
 g:=λ(q)=>by lia
 h:=λ(q)=>by lia
 i:=λ(q)=>by lia
 j:=λ(q)=>by lia
def Za{K}l1 l2 z TI TO i1 u(d:Z5 z TI TO i1 u) :
  Pc P w K (.Tuple Y k pos) (Itz K l1 l2) [z,TI,TO,i1,u] z
   (λi h=>IsZip h z TI TO .none/\IsPair h TI (.ref i1) (.ref u)/\(∃a b,IsPair h TO a b)/\h.IsListIter i1 l1 i/\h.IsListIter u l2 i) where
 mem:=by simp
 obj:=λi h st b hb=>by
  obtain⟨M,l,⟨a,c,n⟩,⟨o1,q1,_,d1⟩,⟨o2,q2,_,d2⟩⟩:=st;simp only[ah,dY,or_false]at hb;rcases hb with rfl|rfl|rfl|rfl|rfl
  .exact⟨_,M,λv x=>by
    have x':Data.fields _=Data.cell v:=x;cases x'⟩
  .exact⟨_,l,λv x=>by
    have x':Data.seq _ _=Data.cell v:=x;cases x'⟩
  .exact⟨_,n,λv x=>by
    have x':Data.seq _ _=Data.cell v:=x;cases x'⟩
  .exact⟨o1,q1,λv x=>by rw[d1]at x;cases x⟩
  .exact⟨o2,q2,λv x=>by rw[d2]at x;cases x⟩
 keep:=λi h h' st kp=>by
  obtain⟨M,l,⟨a,c,n⟩,S,T⟩:=st;exact⟨kp z ⋯ _ M,kp TI ⋯ _ l,⟨a,c,kp TO ⋯ _ n⟩,S.at λo q=>kp i1 ⋯ o q,T.at λo q=>kp u ⋯ o q⟩
 item:=by
  intro X hP hw hK hc i oA s σ H E I O st hg;subst hP hw hK;obtain⟨xs,ys,x,y,B,G,U,hy⟩:=hg;obtain⟨its1,Q,p1,_⟩:=I.list B;obtain⟨its2,R,p2,_⟩:=I.list G;obtain⟨u1,hu1,ru1⟩:=Q.get U;obtain⟨u2,hu2,ru2⟩:=R.get hy;obtain⟨M,l,⟨a,c,n⟩,S,T⟩:=st;have J:∀b∈[z,TI,TO,i1,u],l1≠b:=λb hb=>N4 I B (O b hb)
  have L:∀b∈[z,TI,TO,i1,u],l2≠b:=λb hb=>N4 I G (O b hb)
  have D:ZipApart z TI TO i1 u l1 l2:=⟨d.a,d.b,d.c,d.d,d.e,d.f,d.g,d.h,d.i,d.j,J z ⋯,J TO ⋯,J i1 ⋯,J u ⋯,L z ⋯,L TO ⋯,L i1 ⋯,L u ⋯⟩
  have hzl:z<s.heap.objs.size:=ai M;refine wpAny_pyNext_zip_item D M l n S T p1.isList p2.isList (x:=u1) (y:=u2) (by simpa using hu1) (by simpa using hu2) λg1 hz1 hTO1 g11 g12 hT1 hsz1 hk1=>⟨_,rfl,?_⟩
  refine wpAny_letOwnedTupleGo_zip hz1 λg2 hz2 t=>?_
  replace t:eM z g1 g2:=t;have hn:H s.heap.objs.size=none:=I.hok.fresh (ae _);refine⟨.ref s.heap.objs.size,ri H s.heap.objs.size (.tup [x,y]),?_,rfl,⟨_,x,y,hn,rfl,rfl,λws hw=>by rw[I.list_inj hw B];exact U,λws hw=>by rw[I.list_inj hw G];exact hy⟩,
   ⟨hz2,t.extBut _ _ d.a (hk1 _ _ d.a d.e d.f d.g l),⟨_,_,t.extBut _ _ d.b hTO1⟩,g11.extBut t.extBut d.c,g12.extBut t.extBut d.d⟩,λb hb=>?_⟩
  .show L2.qb X oA σ _ { s with heap:=g2,toks:=s.toks }
   refine OY (s:=s) (fp:=[z,TI,TO,i1,u]) I (λb o hb q=>?_) O (ae _) ⟨by simp only[lCq,cO];rw[kL];decide,[u1,u2],.cons ru1 (.cons ru2 .nil),_,t.extBut _ _ (ef hzl) hT1,rfl,_,rfl⟩
   have b1:b≠z:=λe=>hb (by simp[e])
   exact t.extBut b o b1 (hk1 b o b1 (λe=>hb (by simp[e])) (λe=>hb (by simp[e])) (λe=>hb (by simp[e])) q)
  .have hb2:b<s.heap.objs.size:=by
    have hb':=hb;simp only[ah,dY,or_false]at hb';rcases hb' with rfl|rfl|rfl|rfl|rfl
    .exact hzl
    .exact ai l
    .exact ai n
    .obtain⟨_,q,_⟩:=S;exact ai q
    .obtain⟨_,q,_⟩:=T;exact ai q
   rw[pe (aF hb2)];exact(O b hb).1
 done:=by
  intro X hP hw hK hc i oA s σ H E I O st hg;subst hP hw hK;obtain⟨xs,ys,B,G,U⟩:=hg;obtain⟨its1,Q,p1,_⟩:=I.list B;obtain⟨its2,R,p2,_⟩:=I.list G;obtain⟨M,l,⟨a,c,n⟩,S,T⟩:=st;have J:=λb hb=>N4 I B (O b hb)
  have L:=λb hb=>N4 I G (O b hb)
  have D:ZipApart z TI TO i1 u l1 l2:=⟨d.a,d.b,d.c,d.d,d.e,d.f,d.g,d.h,d.i,d.j,J z ⋯,J TO ⋯,J i1 ⋯,J u ⋯,L z ⋯,L TO ⋯,L i1 ⋯,L u ⋯⟩
  have e1:=Q.length;have e2:=R.length;refine wpAny_pyNext_zip_end (I.ok.hd hc) D M l n S T p1.isList p2.isList ?_ λg1 eb=>⟨rfl,TU I (λb o hb q=>eb b o (λe=>hb (by simp[e])) (λe=>hb (by simp[e])) (λe=>hb (by simp[e])) (λe=>hb (by simp[e])) q) O⟩
  rcases U with U|U
  .exact .inl (by simp;lia)
  .exact .inr (by simp;lia)
 self:=λ_ _ _ _ _ st h=>wpAny_pyIter_zip st.1 h
def ajW(K:Ζ)(n:TA):TI:=λσ H R=>n σ H λvs l=>∃a b,vs=[.ref a,.ref b]/\(∃xs,uO K l a xs)/\(∃s,uO K l b s)/\R (Itz K a b) l
def agR(Q:Gl X "zip")(hm:X.mg "zip" = none)(ha:PA X [e,f] J)(S:kx [e,f] X.env=[(false,eval e X.env),(false,eval f X.env)]:=by rfl)(n:kx [f] X.env=[(false,eval f X.env)]:=by rfl) :
  PI X (.Tuple elts kk tpos) (.Call (.Name "zip" p) [e,f] [] pos) (ajW X.K J):=by
 intro T s σ H R I h;refine Call_ (JO I Q hm boot_zip (eI (uN (ha pos T s σ H _ I h) λus l ⟨vs,U,t,Y,q1⟩=>?_) (by rw[S,n]) (by rw[n];rfl)))
 obtain⟨a,b,e1,⟨xs,z⟩,⟨ys,B⟩,q⟩:=q1;subst e1;obtain⟨u,v,rfl,ru,rv⟩:=TB Y;cases ru;cases rv;obtain⟨L,_,p1,_⟩:=t.list z;obtain⟨M,_,p2,_⟩:=t.list B;refine call_zip_2 p1.isList p2.isList λg O E G h1 h2 hsz hk=>wpAny_pyIter_zip O ?_
 refine⟨l.heap.objs.size+4,[l.heap.objs.size+4,l.heap.objs.size+2,l.heap.objs.size+3,l.heap.objs.size,l.heap.objs.size+1],_,_,U,rfl,t.kept hk,
  Za a b _ _ _ _ _ (akr l.heap.objs.size),⟨O,E,⟨_,_,G⟩,h1,h2⟩,λc P=>?_,q⟩
 have x:l.heap.objs.size<=c:=by
  simp only[ah,dY,or_false]at P;rcases P with rfl|rfl|rfl|rfl|rfl
  .exact fG _ _
  .exact fG _ _
  .exact fG _ _
  .exact ae _
  .exact fG _ _
 exact t.fpOk x (t.hok.fresh x)
def acB{K}{I:TS}{D:yQ}(l:Nat->St->Hp->Prop)(L:l 0 σ H)(z:xs.length=n.length)
  (hl:∀i σ H,i<=xs.length->l i σ H->uO K H a xs/\uO K H b n)
  (M:∀i x y σ H T,xs[i]?=some x->n[i]?=some y->l i σ H->H T=none->I { D with nx:=l (i+1),ct:=l (i+1),bk:=D.nx } ((σ.set i1 (some x)).set G (some y)) (ri H T (.tup [x,y]))) (hd:∀σ H,l xs.length σ H->D.nx σ H) :
  ∃W:Nat->Nat->St->Hp->Prop,(∃m,W 0 m σ H)/\∀i m σ H,W i m σ H ->
   ((Itz K a b).stop i H/\D.nx σ H)∨((Itz K a b).go i H/\∃N:St->Hp->Prop,(∀s t,N s t->∃J,J<m/\W (i+1) J s t)/\∀x t,(Itz K a b).yld i H x t->S7 K 2 (Cr (vo i1) (Cr (vo G) Sn)) x σ t λB O=>I { D with nx:=N,ct:=N,bk:=D.nx } B O):=by
 refine⟨λi m σ H=>m=xs.length-i/\i<=xs.length/\l i σ H,⟨xs.length,by simp,bb _,L⟩,?_⟩
 rintro i m σ H ⟨rfl,hi,p⟩;obtain⟨q1,E⟩:=hl i σ H hi p
 by_cases u:i<xs.length
 .refine .inr ⟨⟨xs,n,xs[i],n[i],q1,E,by simp[u],by simp[z ▸ u]⟩,l (i+1),λs t P=>⟨xs.length-(i+1),by lia,rfl,u,P⟩,λv t y=>?_⟩
  obtain⟨T,x,y,Q,rfl,rfl,R,S⟩:=y;exact⟨T,_,rfl,GW.of pE,rfl,_,_,rfl,_,_,rfl,rfl,M i x y σ H T (R xs q1) (S n E) p Q⟩
 .have e:i=xs.length:=by lia
  subst e;exact .inl ⟨⟨xs,n,q1,E,.inl (ae _)⟩,hd σ H p⟩
def zO{σ:St}{ns:Ϝ}(I:qb X n σ H s)(h:uO X.K H a (ns.map V.int)) :
  ∃vs:Ξ,s.heap.IsList a vs.toArray/\kZ vs ns/\ns.length<=ku:=by
 obtain⟨l,r,p,z⟩:=I.list h;rw[lMq]at z;exact⟨l,p.isList,EB r,z⟩
def W7(G:X.calm=true):uX X (.builtin "min") (λxs H Q=>∃(a:Addr) (ns:Ϝ),xs=[.ref a]/\uO X.K H a (ns.map V.int)/\0<ns.length/\∀M,M∈ns->(∀x,x∈ns->M<=x)->Q (.int M) H):=by
 intro S s σ H xs us Q I r h;obtain⟨a,ns,rfl,J,n,q⟩:=h;obtain⟨u,rfl,L⟩:=HA r;cases L;obtain⟨T,hl,hi,_⟩:=zO I J;obtain⟨xs,e⟩:=hi.allInts.items;have l:ns=xs.toList.map (·.1):=by
  rw[←hi.numsOf,←nums_intItems,←e]
 have z:0<xs.size:=by
  have B:=n;rw[l,lMq]at B;exact B
 rw[e]at hl;refine min_intList (I.ok.hd G) hl z λv U Y O hk=>?_
 obtain⟨t,rfl⟩:=intItems_at O;obtain⟨h1,P⟩:=argBest_lt (numAt xs) (xs.size-1);refine⟨.int _,H,I.kept hk,⟨t,rfl⟩,q _ ?_ λx E=>?_⟩
 .rw[l,numAt_eq];exact PySem.getD_mem (by rw[lMq,aH];lia)
 .rw[l]at E;obtain⟨j,R,rfl⟩:=PySem.mem_getD E;rw[lMq,aH]at R;rw[←numAt_eq];exact P j ∅
def aax(K:Ζ):V->List V->Hp->VK->Prop:=λx vs H Q=>∃(a:Addr) (ns:Ϝ) (k:Int),x = .ref a/\vs=[.int k]/\uO K H a (ns.map V.int)/\k∈ns/\Q (.int (ns.idxOf k:Nat)) H
def aal:MtR X "list.index" (aax X.K):=by
 intro oA s σ H x xs v us Q I O r h;obtain⟨a,ns,k,rfl,rfl,P,hk,q⟩:=h;cases O;obtain⟨u,rfl,t,rfl⟩:=HA r;obtain⟨l,R,⟨o,n,L,S,B,hd⟩,T⟩:=I.list P;have hi:=EB R;obtain⟨cls,dd,M,U⟩:=o;subst S B hd;have z:=hi.length;have E:=cH.mpr hk;have hs:=kL;rw[lMq]at T;refine lO cS ⟨_,L,rfl⟩ hW (gZ _ _)
  (SeqAt.list_indexAt a l.toArray n none U (.int k t) (isInt k) (ns.idxOf k) (by simpa[z]using E) ∅ ?_ ?_) ⟨L,λy Y=>(eq_isInt k t hi y (by simpa using Y)).at _ _,?_⟩
 .show isInt k l[ns.idxOf k]=true;rw[isInt_at k hi _ ∅ E]
  simpa using eY E
 .intro j G J;show isInt k l[j]=false;rw[isInt_at k hi j (by simpa using G) ∅]
  exact ne_of_lt_idxOf J _
 .exact⟨.int _,H,I.tok _,⟨_,rfl⟩,q⟩
def aiI(K:Ζ)(x:V)(H:Hp)(T:String)(b:Bool):Prop:=
 match x with
 | .int _=>(T = "int" /\ b=true)∨(T = "bool" /\ b=false)
 | .bl _=>(T = "bool" /\ b=true)∨(T = "int" /\ b=true)
 | .str _=>T = "str" /\ b=true
 | .ref p=>(T = "list" /\ b=true/\∃xs,uO K H p xs)∨(T = "dict" /\ b=true/\∃l,H p=some (.dK l))∨(T = "tuple" /\ b=true/\∃xs,GW K H p xs)
 |_=>False
def wB:uX X (.builtin "isinstance") (λxs H Q=>∃x T b,xs=[x,.ty T]/\aiI X.K x H T b/\Q (.bl b) H):=by
 intro B s σ H xs us Q I r h;obtain⟨x,T,b,rfl,e,q⟩:=h;obtain⟨u,v,rfl,l,E⟩:=TB r;cases E;cases x with
 |int i=>
  obtain⟨t,rfl⟩:=l;rcases e with⟨rfl,rfl⟩|⟨rfl,rfl⟩
  .exact kF (lz (Tx:= "int") F.isi_meta_int F.sub_int_int) ⟨(show s.TypeIs (.int i t) "int" from rfl),⟨.bl true,H,I,rfl,q⟩⟩
  .exact kF (lL (by trivial) F.isi_meta_bool F.sub_int_bool) (show EP X B σ Q (.bool false) { s with toks:=s.toks+1 } from ⟨.bl false,H,I.tok _,rfl,q⟩)
 |bl i=>
  cases l;rcases e with⟨rfl,rfl⟩|⟨rfl,rfl⟩
  .exact kF (lz (Tx:= "bool") F.isi_meta_bool F.sub_bool_bool) ⟨(show s.TypeIs (.bool i) "bool" from rfl),⟨.bl true,H,I,rfl,q⟩⟩
  .exact kF (lz (Tx:= "bool") F.isi_meta_int F.sub_bool_int) ⟨(show s.TypeIs (.bool i) "bool" from rfl),⟨.bl true,H,I,rfl,q⟩⟩
 |str i=>
  obtain⟨t,rfl⟩:=l;obtain⟨rfl,rfl⟩:=e;exact kF (lz (Tx:= "str") F.isi_meta_str F.sub_str_str) ⟨(show s.TypeIs (.str i t) "str" from rfl),⟨.bl true,H,I,rfl,q⟩⟩
 |ref p=>
  cases l;rcases e with⟨rfl,rfl,xs,n⟩|⟨rfl,rfl,G,J⟩|⟨rfl,rfl,xs,n⟩
  .obtain⟨z,L,M,O⟩:=I.list n;exact kF (lz F.isi_meta_list (by kernel_rfl)) ⟨M.isList.typeIs,⟨.bl true,H,I,rfl,q⟩⟩
  .have ty:=(aii I (.inl ⟨G,.inl J⟩)).1;exact kF (lz F.isi_meta_dict (by kernel_rfl)) ⟨ty,⟨.bl true,H,I,rfl,q⟩⟩
  .obtain⟨z,L,⟨o,P,R,_⟩,O⟩:=I.tuple n;exact kF (lz F.isi_meta_tuple (by kernel_rfl)) ⟨⟨o,P,R⟩,⟨.bl true,H,I,rfl,q⟩⟩
 |_=>exact(e).elim
end Mr
namespace Mr
open PySem L2
structure xN (K:Ζ)(mg:Str->Υ)(x:Str)(st:Stmt)(ps:List Str)(f:Addr)(fd:ky):Prop where
 F:AN K x x st f fd
 m:mg x=some (.ref f)
 b:qY K fd ps []
def tO(h:H p=none):qO H (ri H p o):=λb u e=>by
 rw[pe (tE e h)];exact e
end Mr
namespace Mr
open PySem PySem.Spec PyProof.Rows L2
def Po(I:Nat->kc->Prop)
  (turn:∀n s,I n s->ki (kf prog w) A (pyNext X) (λr t=>match r with
   |none=>R (.ok .next) t
   |some v=>ki (kf prog w) A (mw l X v) (λ_ B=>ki (kf prog w) A (nW l env v) (λ_ E=>
     ki (kf prog w) A (forIn O true λc r=>if r=true then do let ok ←isTrue c env (eval c env);pure (ForInStep.yield ok)else pure (ForInStep.yield r)) (λok u=>
      if ok=true then ki (kf prog w) A (eval M env) (λx G=>
       ki (kf prog w) A (call (.builtin "list.append") [P,x]) (λ_ H=>∃m,m<n/\I m H) (λ_ _=>False) G) (λ_ _=>False) u
      else ∃m,m<n/\I m u) (λ_ _=>False) E) (λ_ _=>False) B) (λ_ _=>False) t) (λ_ _=>False) s)
  n (h:I n s):lK (kf prog w) A (.compLoop (.ListComp M [⟨l,xt,O,0⟩] scope pos) 0 X P env) R s:=by
 refine codeAny_loop rfl I (λn s Y=>?_) n h
 refine wpAny_noted ?_;refine kj (mN (kj (kG (turn n s Y) (λr t J=>?_) λ_ _ z=>z.elim)))
 cases r with
 |none=>exact kC J
 |some v=>
  refine kj (kG J (λ_ B Q=>?_) λ_ _ z=>z.elim)
  refine kj (kG Q (λ_ E S=>?_) λ_ _ z=>z.elim)
  refine kj (kG S (λok u L=>?_) λ_ _ z=>z.elim)
  cases ok with
  |false=>exact kC ⟨rfl,L⟩
  |true=>exact kj (kj (kG L (λx G T=>kj (kG T (λ_ H U=>kC (kC ⟨rfl,U⟩)) λ_ _ z=>z.elim)) λ_ _ z=>z.elim))
noncomputable abbrev vV(X:Cx)(scope:lu)(cl:List (Str×Addr))(N:List Str)(C:Addr)(s:kc)(H:Hp)(fp:Δ):Cx where
 prog:=X.prog
 w:=X.w
 K:=X.K
 mg:=X.mg
 base:=X.base
 A:=X.A
 N:=N
 s₀:=s
 H₀:=H
 env:=compEnvC scope cl C X.env
 outer:=X.stack
 stack:=X.stack
 ex:=fp
 fn:=λ_=>false
 calm:=X.calm
 pn:=[]
 xe:=λ_ _=>False
def PF(X:Cx)(l:List Expr)(t:TT):Prop:=
 ∀n s (σ:St) H Q,qb X n σ H s->t σ H Q ->
  ki (kf X.prog X.w) X.A (forIn l true λc r=>if r=true then do let ok ←isTrue c X.env (eval c X.env);pure (ForInStep.yield ok)else pure (ForInStep.yield r)) (TP X n σ Q) X.xe s
def aju:TT:=λ_ H Q=>Q true H
def Hi:PF X [] aju:=λ_ _ _ H _ I h=>wpAny_tests_nil ⟨H,I,h⟩
def RF(h:PT X c t):PF X [c] t:=λl s σ H Q I q=>wpAny_tests_one (h l s σ H Q I q)
structure yz (X:Cx)(scope:lu)(cl:List (Str×Addr))(x:Str)(N:List Str)(fr:Θ):Prop where
 names:N.Nodup
 own:N[0]?=some x
 len:N.length=fr.length+1
 sub:∀y c,cl.lookup y=some c->X.env.cells.lookup y=some c
 has:∀y,((lJ scope X.env).names.lookup y=some .cell∨(lJ scope X.env).names.lookup y=some .free)->∃c,cl.lookup y=some c
 get:∀(k j:Nat) (y:Str),fr[k]?=some j->N[k+1]?=some y->X.N[j]?=some y/\X.env.scope.names.lookup y=some .cell/\(lJ scope X.env).names.lookup y=some .cell
structure aaJ (X:Cx)(scope:lu)(cl:List (Str×Addr))(q:Nat)(N:List Str)(fr:Θ):Prop where
 len:N.length=fr.length+q
 sub:∀y c,cl.lookup y=some c->X.env.cells.lookup y=some c
 has:∀y,((lJ scope X.env).names.lookup y=some .cell∨(lJ scope X.env).names.lookup y=some .free)->∃c,cl.lookup y=some c
 get:∀(k j:Nat) (y:Str),fr[k]?=some j->N[k+q]?=some y->X.N[j]?=some y/\X.env.scope.names.lookup y=some .cell/\(lJ scope X.env).names.lookup y=some .cell
def yz.g(h:yz X scope cl x N fr):aaJ X scope cl 1 N fr:=⟨h.len,h.sub,h.has,h.get⟩
def yz.none(h:∀p∈scope.names,p.2 ≠ .cell/\p.2 ≠ .free):yz X scope [] x [x] [] where
 names:=by simp
 own:=rfl
 len:=rfl
 sub:=λy c e=>by cases e
 has:=λy e=>by
  exfalso;have key:∀p∈(lJ scope X.env).names,p.2 ≠ .cell/\p.2 ≠ .free:=by
   intro p s;obtain⟨q,t,rfl⟩:=mMq.mp s;obtain⟨n,k⟩:=q;obtain⟨u,l⟩:=h _ t;have hk:(k == NameKind.free)=false:=by simpa using l
   simp only[hk,jD];exact⟨u,l⟩
  rcases e with e|e
  .exact(key _ (PySem.mem_of_lookup e)).1 rfl
  .exact(key _ (PySem.mem_of_lookup e)).2 rfl
 get:=λk j y e _=>by cases e
noncomputable def slots(σ:St)(fr:Θ):St:=fr.map λj=>(σ[j]?).join
def Vc(E:TI)(fr:Θ)(G:TT)(te:TE):TE:=λσ H Q=>E σ H λJ t=>∀l,t l=none->∃W:Nat->Nat->Hp->Prop,(∃m,W 0 m (ri t l (.lst [])))/\∀i m H,W i m H ->
 (J.stop i H/\Q (.ref l) H) ∨
 (J.go i H/\∃N:Hp->Prop,(∀n,N n->∃u,u<m/\W (i+1) u n)/\∀x n,J.yld i H x n->G (some x::slots σ fr) n λb z=>
  if b=true then te (some x::slots σ fr) z λy B=>∃s,B l=some (.lst s)/\s.length<ku/\N (ri B l (.lst (s++[y])))else N z)
def Q0{own:St->Prop}{RR:Value->Addr->Result->kc->Prop}{Q:VK}
  (hc:X.calm=true) (hcell:∀y∈scope.names,y.2 ≠ .cell) (hkind:scope.kind = .function) (hF:aaJ X scope cl q N fr) (pg:∀C s H fp,PG (vV X scope cl N C s H fp) tg gq) (hw:∀Y,own Y->∃ws:St,ws.length=q/\Y=ws++slots σ fr)
  (hf:∀C s H fp,PF (vV X scope cl N C s H fp) ifs tf) (he:∀C s H fp,PE (vV X scope cl N C s H fp) elt te)
  (I:qb X oA σ H s) (T:Pc X.prog X.w X.K tg J fp it tn) (st:tn 0 s.heap) (O:∀b∈fp,Ga X oA H b)
  (h:∀L,H L=none->∃W:Nat->Nat->Hp->Prop,(∃m,W 0 m (ri H L (.lst [])))/\∀i m H,W i m H ->
   (J.stop i H/\Q (.ref L) H) ∨
   (J.go i H/\∃N:Hp->Prop,(∀R,N R->∃m',m'<m/\W (i+1) m' R)/\∀x R,J.yld i H x R->∀vs:St,vs.length=q->gq x (vs++slots σ fr) R λY H1=>own Y/\tf Y H1 λb H2=>
    if b=true then te Y H2 λy H3=>∃ys,H3 L=some (.lst ys)/\ys.length<ku/\N (ri H3 L (.lst (ys++[y])))else N H2))
  (fin:∀L C s' Hf m,qb X oA σ Hf s'->s'.heap.Ns C m->Ga X oA Hf C->Q (.ref L) Hf->RR (.ref L) C (.ok .next) s') :
  ki (kf X.prog X.w) X.A (newList []) (λL S=>ki (kf X.prog X.w) X.A (newFunctionEnv scope X.env.globals cl [] X.env.qual none .none (some X.env)) (λcenv s₄=>
   lK (kf X.prog X.w) X.A (.compStart (.ListComp elt [⟨tg,xt,ifs,0⟩] scope pos) 0 (.ref it) L { cenv with scope:=lJ scope X.env }) (RR L cenv.locals) s₄) E S) E s:=by
 refine wpAny_newObj_type (wpAny_newFunctionEnv hcell (by intro y hy;simp at hy) (λM P B=>?_) hkind)
 dsimp only at P B ⊢;generalize hG:s.heap.push { cls:=.type "list", dict:=none,data:=.seq ([]:Ξ).toArray }=G at P B ⊢;have hC:G.objs.size=s.heap.objs.size+1:=by rw[←hG,eJ]
 have hCle:s.heap.objs.size<=G.objs.size:=by rw[hC];exact bP _
 have hDC:s.heap.objs.size≠G.objs.size:=by rw[hC];exact aF (cZ _)
 have below:∀b,b<s.heap.objs.size->b≠G.objs.size:=λb hb=>by rw[hC];exact aF (bW hb)
 have old:∀b o,s.heap.get? b=some o->M.get? b=some o:=λb o e=>B.extBut b o (below b (ai e)) (aa _ (hG ▸ aa _ e))
 have hacc:M.get? s.heap.objs.size=some { cls:=.type "list", data:=.seq ([]:Ξ).toArray }:=B.extBut _ _ hDC (aa _ (hG ▸ bf _ rfl));have hn:H s.heap.objs.size=none:=I.hok.fresh (ae _);have hnC:H G.objs.size=none:=I.hok.fresh hCle;have fpl:∀b∈fp,b<s.heap.objs.size:=λb hb=>by
  obtain⟨o,q,_⟩:=T.obj 0 _ st b hb;exact ai q
 obtain⟨W,⟨m0,w0⟩,turn⟩:=h _ hn;have ok':(vV X scope cl N G.objs.size s H fp).Ok:=by
  refine⟨I.ok.mod,by show(lJ scope X.env).kind = .function;exact hkind,I.ok.glob,I.ok.blt,hCle,λy z c h1 h2=>I.ok.inj y z c (hF.sub y c h1) (hF.sub z c h2),hF.has,λ_ _ z _=>(by cases z),I.ok.hd,I.ok.frames,.inl rfl,
   λb hb=>⟨below b (fpl b hb),λy c e=>(O b hb).2.2.2.2.1 y c (hF.sub y c e)⟩,λb o e=>⟨(I.bs b o e).1,(I.bs b o e).2⟩,aZ I.ok.bsz I.sz,λb o e hb=>?_,λb hb z=>?_,I.stack,I.stkFree⟩
  .rcases(O b hb).2.2.2.1 with q|q
   .exact I.ok.noex b o e q
   .exact absurd (aJ (ai (I.ok.bs b o e).1) q) (cV _)
  .rcases ah.mp (I.stkSub b z)with q|q
   .exact(O b hb).2.1 q
   .exact(O b hb).2.2.1 q
 have I0:qb (vV X scope cl N G.objs.size s H fp) [] (aE q none++slots σ fr) (ri H s.heap.objs.size (.lst [])) { s with heap:=M,toks:=s.toks+([]:List (Str×Value)).length }:=by
  have hok1:CH X.prog X.w (ri H s.heap.objs.size (.lst [])) M:=I.hok.laid old (ae _) ⟨bb _,[],0,.nil,hacc⟩;refine⟨ok',rfl,I.bare,Un.laid old (ae _) hn,⟨_,P,λk y v e1 e2 e3=>?_⟩,λy c e=>?_,?_,λy c e=>?_,λp hp=>absurd (show p∈([]:Φ)from hp) ⋯,hok1,?_⟩
  .by_cases kq:k<q
   .have e2:(aE q none++slots σ fr)[k]?=some (some v):=e2;rw[gZq (by rw[bG];exact kq),bR,qf kq]at e2
    cases e2
   .obtain⟨k,rfl⟩:∃j,k=j+q:=⟨k-q,by lia⟩
    have U:(aE q none++slots σ fr)[k+q]?=some (some v):=e2;rw[gYq (by rw[bG];lia),bG,Nat.add_sub_cancel]at U
    unfold slots at U;rw[gMq]at U;cases ej:fr[k]? with
    |none=>rw[ej]at U;cases U
    |some j=>
     rw[ej]at U;have e2j:(σ[j]?).join=some v:=aY.inj U;have e2s:σ[j]?=some (some v):=by
      cases q:σ[j]? with
      |none=>rw[q]at e2j;cases e2j
      |some z=>rw[q]at e2j;exact congrArg some e2j
     obtain⟨g1,g2,g3⟩:=hF.get k j y ej e1;obtain⟨m,_,hl⟩:=I.loc;obtain⟨u,r,l⟩:=hl j y v g1 e2s (.inr (.inl g2));refine⟨u,r,.inr ⟨.inl g3,?_⟩⟩;obtain⟨c,e⟩:=hF.has y (.inl g3);have e':=hF.sub y c e;rcases l with⟨l1,_⟩|⟨_,c',ec,hcell'⟩
     .have l1':X.env.scope.names.lookup y=some .local:=l1;rw[g2]at l1';cases l1'
     .rw[e']at ec;cases ec;obtain⟨o,ho,hd⟩:=hcell';exact⟨c,e,o,old c o ho,hd⟩
  .obtain⟨v,o,ho,hd⟩:=I.cell y c (hF.sub y c e);exact⟨v,o,old c o ho,hd⟩
  .show ri H s.heap.objs.size (.lst []) G.objs.size=none;rw[pe (Ne.symm hDC)];exact hnC
  .obtain⟨v,o,ho,hd⟩:=I.cell y c (hF.sub y c e);rw[pe (aF (ai ho))];exact I.freeC y c (hF.sub y c e)
  .show(aE q none++slots σ fr).length=N.length;unfold slots;rw[hF.len,lAq,bG,lMq,gk]
 have st1:tn 0 M:=T.keep 0 _ _ st λb _ o e=>old b o e
 have nf0:∀b∈fp,ri H s.heap.objs.size (.lst []) b=none:=λb hb=>by
  rw[pe (aF (fpl b hb))];exact(O b hb).1
 have stat:∀{R:Hp},(∀b∈fp,R b=none)->∀b∈fp,Ga (vV X scope cl N G.objs.size s H fp) [] R b:=λhn' b hb=>
  ⟨hn' b hb,below b (fpl b hb),ok'.exfs b hb,.inl hb,λy c e=>(ok'.exf b hb).2 y c e,λp hp=>absurd (show p∈([]:Φ)from hp) ⋯⟩
 have loop:∀S:kc,S={ s with heap:=M,toks:=s.toks+([]:List (Str×Value)).length } ->
   lK (kf X.prog X.w) X.A (.compLoop (.ListComp elt [⟨tg,xt,ifs,0⟩] scope pos) 0 (.ref it) (.ref s.heap.objs.size) (compEnvC scope cl G.objs.size X.env)) (RR (.ref s.heap.objs.size) G.objs.size) S:=by
  rintro S rfl;refine Po (λn s'=>∃i vs R,vs.length=q/\qb (vV X scope cl N G.objs.size s H fp) [] (vs++slots σ fr) R s'/\tn i s'.heap/\(∀b∈fp,R b=none)/\W i n R) ?_ m0 ⟨0,_,_,bG,I0,st1,nf0,w0⟩
  rintro n s4 ⟨i,vs,H4,lv,I4,st4,nf4,w4⟩;rcases turn i n H4 w4 with⟨stop,qq⟩|⟨go,Nx,hNx,step⟩
  .refine uN (T.done (vV X scope cl N G.objs.size s H fp) rfl rfl rfl hc i [] s4 (vs++slots σ fr) H4 (λ_ _=>False) I4 (stat nf4) st4 stop) λr s5 t=>?_
   obtain⟨hr,I5⟩:=t;subst hr;obtain⟨m,hm,_⟩:=I5.loc;have I6:qb X oA σ H4 s5:=I.call' (ch:=fp) I5.os I5.base I5.hok I5.bare λb hb=>⟨(O b hb).2.2.2.1,(O b hb).2.1,(O b hb).2.2.2.2.1,(O b hb).2.2.2.2.2⟩
   exact fin _ _ s5 H4 m I6 hm (I.fpOk hCle I5.free) qq
  .refine uN (T.item (vV X scope cl N G.objs.size s H fp) rfl rfl rfl hc i [] s4 (vs++slots σ fr) H4 (λ_ _=>False) I4 (stat nf4) st4 go) λr s5 t=>?_
   obtain⟨u,hr,h5⟩:=t;subst hr;refine uN h5 λ_ s6 t=>?_
   obtain⟨y,H6,I6,r6,y6,st6,nf6⟩:=t;have I6':=I6.pinned (stat nf6) (T.obj _ _ st6);refine uN (pg _ _ _ _ _ s6 (vs++slots σ fr) H6 y u _ I6' r6 (step y _ y6 vs lv)) λ_ s7 t=>?_
   obtain⟨σ7,H7,I7,o7,q7⟩:=t;obtain⟨ws,lw,e7⟩:=hw _ o7;subst e7;refine uN (hf _ _ _ _ _ s7 _ _ _ I7 q7) λb s8 t=>?_
   obtain⟨H8,I8,q8⟩:=t;have again:∀{s9:kc}{H9:Hp},qb (vV X scope cl N G.objs.size s H fp) ([]++Ka fp s6.heap) (ws++slots σ fr) H9 s9->Nx H9->∃m,m<n/\∃i vs R,vs.length=q/\qb (vV X scope cl N G.objs.size s H fp) [] (vs++slots σ fr) R s9/\tn i s9.heap/\(∀b∈fp,R b=none)/\W i m R:=λ{s9 H9} I9 n9=>by
    obtain⟨m',hm,w9⟩:=hNx H9 n9;refine⟨m',hm,i+1,ws,H9,lw,I9.unpinned,T.keep _ _ _ st6 λb hb o e=>(I9.pin (b,o) (ay _ (ay _ (Bw hb e)))).1,λb hb=>?_,w9⟩
    obtain⟨o,e,d⟩:=T.obj _ _ st6 b hb;exact(I9.pin (b,o) (ay _ (ay _ (Bw hb e)))).2.1
   cases b with
   |false=>exact again I8 q8
   |true=>
    refine uN (he _ _ _ _ _ s8 _ _ _ I8 q8) λz s9 t=>?_
    obtain⟨zv,H9,I9,r9,ys,a9,l9,n9⟩:=t;refine uN (sY _ s9 _ H9 (.ref s.heap.objs.size) [zv] (.ref s.heap.objs.size) [z] (λ_ R=>R=ri H9 s.heap.objs.size (.lst (ys++[zv]))) I9 rfl (.cons r9 .nil) ⟨_,ys,zv,rfl,rfl,a9,l9,rfl⟩) λ_ s10 t=>?_
    obtain⟨_,H10,I10,_,e10⟩:=t;subst e10;exact again I10 n9
 exact codeAny_compStart_list (loop _ rfl) (T.self X.A 0 _ _ _ st1 (loop _ rfl))
def IX{σ:St}{RR:Value->Addr->Result->kc->Prop}{Q:VK}
  (hc:X.calm=true) (t:∀y∈scope.names,y.2 ≠ .cell) (u:scope.kind = .function) (Y:scope.names.lookup x=some .local) (O:yz X scope cl x N fr)
  (hf:∀C s H fp,PF (vV X scope cl N C s H fp) ifs tf) (he:∀C s H fp,PE (vV X scope cl N C s H fp) elt te)
  (I:qb X M σ H s) (T:Pc X.prog X.w X.K (.Name x px) J fp S U) (st:U 0 s.heap) (P:∀b∈fp,Ga X M H b)
  (h:∀l,H l=none->∃W:Nat->Nat->Hp->Prop,(∃m,W 0 m (ri H l (.lst [])))/\∀i m H,W i m H ->
   (J.stop i H/\Q (.ref l) H) ∨
   (J.go i H/\∃N:Hp->Prop,(∀z,N z->∃m',m'<m/\W (i+1) m' z)/\∀x z,J.yld i H x z->tf (some x::slots σ fr) z λb H2=>
    if b=true then te (some x::slots σ fr) H2 λy H3=>∃R,H3 l=some (.lst R)/\R.length<ku/\N (ri H3 l (.lst (R++[y])))else N H2))
  (fin:∀l C s' Hf m,qb X M σ Hf s'->s'.heap.Ns C m->Ga X M Hf C->Q (.ref l) Hf->RR (.ref l) C (.ok .next) s') :
  ki (kf X.prog X.w) X.A (newList []) (λl B=>ki (kf X.prog X.w) X.A (newFunctionEnv scope X.env.globals cl [] X.env.qual none .none (some X.env)) (λn G=>
   lK (kf X.prog X.w) X.A (.compStart (.ListComp elt [⟨.Name x px,xt,ifs,0⟩] scope pos) 0 (.ref S) l { n with scope:=lJ scope X.env }) (RR l n.locals) G) E B) E s:=by
 refine Q0 (own:=λL=>∃a,L=a::slots σ fr) hc t u O.g (λC s H fp=>NH O.names O.own (.inl (nZ Y)) (.inr (nZ Y))) (λL e=>?_) hf he I T st P (λl ha=>?_) fin
 .obtain⟨a,rfl⟩:=e;exact⟨[a],rfl,rfl⟩
 .obtain⟨W,w0,turn⟩:=h l ha;refine⟨W,w0,λi m H w=>(turn i m H w).imp id λ⟨go,N,hN,stp⟩=>⟨go,N,hN,λx z y vs lv=>?_⟩⟩
  match vs,lv with
  | [v],_=>exact⟨⟨some x,rfl⟩,stp x z y⟩
def Au(G:X.calm=true)(t:closureFor scope X.env=pure cl)(u:∀y∈scope.names,y.2 ≠ .cell)(l:scope.kind = .function)(n:∀y∈scope.names,y.2 = .local->scope.names.lookup y.1=some .local)
  (L:scope.names.lookup x=some .local) (M:yz X scope cl x N fr) (hi:PI X (.Name x px) xt E) (O:∀C s H fp,PF (vV X scope cl N C s H fp) ifs tf) (P:∀C s H fp,PE (vV X scope cl N C s H fp) elt te)
  (R:∀x,mP xt X.env x=pure x:=by intro _;rfl):PE X (.ListComp elt [⟨.Name x px,xt,ifs,0⟩] scope pos) (Vc E fr tf te):=by
 intro S s σ H Q I h;refine mZ rfl R t l n (uN (hi S s σ H _ I h) λv s1 U=>uN U λY s2 h2=>?_)
 obtain⟨it,fp,tn,J,H2,e,I2,T,OP,f2,q2⟩:=h2;subst e;refine IX G u l L M O P I2 T OP f2 q2 ?_;intro B C s' Hf m I' hm z q;refine⟨m,hm,λh' sb=>⟨.ref B,Hf,?_,rfl,q⟩⟩
 exact I'.turned (λb o hb e=>(sb.2 b hb).trans e) z.1 z.2.1 z.2.2.2.1 z.2.2.2.2.1 z.2.2.2.2.2
def acG(hc:X.calm=true)(hN:X.N.Nodup)(hi0:X.N[i]?=some y)(hy:Loc X.env.scope y)(E:closureFor scope X.env=pure cl)(G:∀y∈scope.names,y.2 ≠ .cell)(l:scope.kind = .function)
  (n:∀y∈scope.names,y.2 = .local->scope.names.lookup y.1=some .local)
  (hx:scope.names.lookup x=some .local) (hF:yz X scope cl x N fr) (hi:PI X (.Name x px) xt wi) (hf:∀C s H fp,PF (vV X scope cl N C s H fp) ifs tf) (he:∀C s H fp,PE (vV X scope cl N C s H fp) elt te)
  (R:lZ (.ListComp elt [⟨.Name x px,xt,ifs,0⟩] scope pos) (some (.Name y py)) B.line X.env=pure true:=by rfl) (hs:∀x,mP xt X.env x=pure x:=by intro _;rfl)
  (S:X.fn y=true∨X.env.scope.names.lookup y=some .local:=by trivial) :
  PS X (.Assign [.Name y py] (.ListComp elt [⟨.Name x px,xt,ifs,0⟩] scope pos) B) (Nd (Vc wi fr tf te) (vo i)):=by
 intro O s σ H D I h;rw[exec_Assign_Name_used _ _ _ _ R];refine kj (mN (kj ?_));show ki _ X.A (do let _ ←comprehension (.ListComp elt [⟨.Name x px,xt,ifs,0⟩] scope pos) scope X.env _ (newList []) false (eval xt X.env) (some (nW (.Name y py) X.env))) _ _ s
 refine kj (kG (mZ (use:=some (nW (.Name y py) X.env)) (Q:=λ_ L=>SP X O D .next L) rfl hs E l n
  (uN (hi O s σ H _ I h) λv s1 h1=>uN h1 λitv s2 h2=>?_)) (λ_ L hq=>kC (kC hq)) λ_ _ e=>e)
 obtain⟨it,fp,tn,J,H2,e,P,T,OP,f2,U⟩:=h2;subst e;refine IX (RR:=λt C=>compPost (kf X.prog X.w) X.A X.xe (some (nW (.Name y py) X.env)) (λ_ L=>SP X O D .next L) t C) (Q:=λv H'=>D.nx (σ.set i (some v)) H') hc G l hx hF hf he P T OP f2 U ?_
 intro t C L Hf m I' hm M q;obtain⟨o,es,ep,ho,hd,r⟩:=id hm;have I1:qb X (O++[(C,o)]) σ Hf L:=I'.pins_of λp hp=>(mAq.mp hp).elim (λz=>I'.pin p (ay _ z)) λz=>by
  have e:p=(C,o):=by simpa using z
  subst e;exact⟨ho,M.1,M.2.1,M.2.2.1,λv z=>by rw[hd]at z;cases z⟩
 refine uN (NH (X:=X) (i:=i) (pos:=py) hN hi0 hy S _ L σ Hf (.ref t) (.ref t) _ I1 rfl q) λ_ s2 Y=>?_
 obtain⟨σ2,H2,P,U⟩:=Y;have pC:=P.pin (C,o) (ay _ (ay _ ⋯))
 refine⟨m,⟨o,es,ep,pC.1,hd,r⟩,λh' sb=>⟨σ2,H2,?_,U⟩⟩
 exact P.unpinned.turned (t':=s2.toks) (λb u hb e=>(sb.2 b hb).trans e) pC.2.1 M.2.1 M.2.2.2.1 M.2.2.2.2.1 M.2.2.2.2.2
end Mr
namespace MrS
open PySem PyProof.Rows
section
variable {s:kc}
noncomputable abbrev Ak(h:Heap)(a:Addr)(vs:Ξ):Heap:=((h.update a (Obj.mapSeq λ_=>#[])).push (kX "tuple" vs.toArray 0)).push (kX "list" #[] 0)
def KZ(B:s.heap.get? a=some (kX "list" vs.toArray n))(R:vs.length<=ku)
  (I:2<=vs.length->∀Q:kY->kc->Prop,Q mq { s with heap:=Ak s.heap a vs }->ki (kf prog w) A (keyKind' vs.toArray) Q E { s with heap:=Ak s.heap a vs })
  (C:Ea prog w A { s with heap:=Ak s.heap a vs } mq Pk lt) (M:∀x,x∈lC vs->Pk x)
  (h:∀xs:Array ke,xs.Perm (lC vs)->EE lt xs 0 (lC vs).size->P (.done (.ret .none)) { s with heap:=sortedHeap s.heap a vs (xs.map (·.2)) }) :
  ki (kf prog w) A (Builtin.«list.sort» ⟨[.ref a],[]⟩) P E s:=by
 rw[list_sort_plain];have ha:a<s.heap.objs.size:=ai B;refine kj (listItems_at B rfl ?_);refine kj (oi B rfl ?_ (hsz:=by simpa using R))
 obtain⟨J,t⟩:∃J,(s.heap.update a (Obj.mapSeq λ_=>#[])).get? a=some (kX "list" #[] J):=⟨_,ny B (λ_=>#[])⟩
 refine kj (oy t rfl ?_);refine kj (wpAny_newTuple ?_);refine kj (wpAny_newList ?_);refine mO ?_;have l:(Ak s.heap a vs).get? a=some (kX "list" #[] J):=by
  rw[fv _ _ _ (by rw[size_push',eQ];exact aF (bW ha)),fv _ _ _ (by rw[eQ];exact aF ha)]
  exact t
 show ki (kf prog w) A _ P E { s with heap:=Ak s.heap a vs }
 dsimp only;have S:vs.toArray.size=vs.length:=by simp
 have T:ku=16777216:=kL
 by_cases G:vs.toArray.size<2
 .rw[qf G,qf G];refine kj (kC ?_);rw[StateT.run_pure];refine kj (kC ?_);dsimp only;refine kj (oy l rfl ?_);refine kj (oi l rfl ?_ (hsz2:=by rw[jF];show(lC vs).size<=_;rw[mB,kL];lia))
  simp only[bne_self_eq_false,cg,if_false];refine kC (h _ (jC.refl _) ?_);intro i j x y _ U X ex O;have:i=j:=by rw[mB]at X;lia
  subst this;rw[ex]at O;cases O;exact C.refl (M x (aQq ex))
 .rw[qj G,qj G];refine kj (I ∅ _ ?_)
  refine kj (kG (NG C (arr:=lC vs) (g:=7) (E:=E)
   (Q:=λ_ u=>∃xs p H,u=BW mq xs p H/\xs.Perm (lC vs)/\EE lt xs 0 (lC vs).size) M (by rw[mB];lia) λxs p H Y a2=>⟨xs,p,H,rfl,Y,a2⟩) ?_ λ_ _ e=>e)
  rintro⟨⟨⟩,u⟩ s' ⟨rfl,xs,p,H,rfl,z,L⟩;dsimp only;refine kj (oy l rfl ?_);refine kj (oi l rfl ?_ (hsz2:=by refine aZ (ff ((jF ..).trans (z.size_eq.trans (mB _)))) ?_;lia))
  simp only[bne_self_eq_false,cg,if_false];exact kC (h xs z L)
def aeF{xs:Ω}vs(u:h.get? a=some (kX "list" xs n)):∃l,(Ak h a vs).get? a=some (kX "list" #[] l):=by
 have ha:a<h.objs.size:=ai u;obtain⟨l,t⟩:∃l,(h.update a (Obj.mapSeq λ_=>#[])).get? a=some (kX "list" #[] l):=⟨_,ny u (λ_=>#[])⟩
 refine⟨l,?_⟩;rw[fv _ _ _ (by rw[size_push',eQ];exact aF (bW ha)),fv _ _ _ (by rw[eQ];exact aF ha)]
 exact t
def aeh{h:Heap}{xs:Ω}(l:Ω)(t:h.get? a=some (kX "list" xs n)):∃u,(h.update a (Obj.mapSeq λ_=>l)).get? a=some (kX "list" l u):=⟨_,ny t (λ_=>l)⟩
def Dj{vs:Ξ}(h:x∈lC vs):x.1∈vs/\x.2=x.1:=by
 obtain⟨i,hi,e⟩:=Array.mem_iff_getElem.mp h;have l:i<vs.length:=by rw[mB]at hi;exact hi
 have:x=(vs[i],vs[i]):=by
  rw[←e];simp[lC]
 rw[this];exact⟨gRq l,rfl⟩
def P4{vs:Ξ}(t:xs.Perm (lC vs))(B:EE lt xs 0 (lC vs).size) :
  (xs.map (·.2)).toList.Perm vs/\(xs.map (·.2)).toList.Pairwise (λx y=>lt (y,y) (x,x)=false):=by
 constructor
 .have:=t.toList.map (·.2);have e:(lC vs).toList.map (·.2)=vs:=by
   have:(lC vs).toList=vs.zip vs:=by simp[lC]
   rw[this];apply List.ext_getElem
   .simp
   .intro i M O;simp
  rw[e]at this;rw[Array.toList_map];exact this
 .rw[cB];intro i j hi G u;have n:i<xs.size:=by simpa using hi
  have l:j<xs.size:=by simpa using G
  have z:=B i j xs[i] xs[j] (bb _) (bZ u) (by rw[←t.size_eq];exact l) (by simp[n]) (by simp[l])
  have H:=Dj (t.mem_iff.mp (bp n));have I:=Dj (t.mem_iff.mp (bp l));have J:xs[i]=(xs[i].2,xs[i].2):=jS H.2.symm rfl;have L:xs[j]=(xs[j].2,xs[j].2):=jS I.2.symm rfl;rw[J,L]at z;simpa using z
def KH{vs:Ξ}(hl:s.heap.IsList l vs.toArray)(B:vs.length<=ku)
  (I:∀s':kc,(∀b o,s.heap.get? b=some o->s'.heap.get? b=some o)->(2<=vs.length->∀Q:kY->kc->Prop,Q mq s'->ki (kf prog w) A.in1.in1 (keyKind' vs.toArray) Q E s')/\Ea prog w A.in1.in1 s' mq Pk lt)
  (J:∀v∈vs,Pk (v,v))
  (h:∀(out:Ξ) h' L,out.Perm vs->out.Pairwise (λx y=>lt (y,y) (x,x)=false)->(∀b o,s.heap.get? b=some o->h'.get? b=some o) ->
   h'.get? (s.heap.objs.size+1)=some (kX "list" out.toArray L)->Q (.ref (s.heap.objs.size+1)) { s with heap:=h' }) :
  ki (kf prog w) A (call (.builtin "sorted") [.ref l]) Q E s:=by
 refine Calls.call_function_entry kind_sorted plain_sorted entry_sorted (args_sorted1 _) ?_;unfold Builtin.«sorted»;refine kj (m:=checkCount "sorted" 1 1 _) (kC ?_);refine kj (collect_list hl ?_ B);refine kj (wpAny_newList ?_);have t:((s.heap.push (kX "list" #[] 0)).update s.heap.objs.size (Obj.mapSeq (· ++ vs.toArray))).objs.size=s.heap.objs.size+1:=by
  rw[eQ,size_push']
 have n:(((s.heap.push (kX "list" #[] 0)).update s.heap.objs.size (Obj.mapSeq (· ++ vs.toArray))).push (kX "list" vs.toArray 0)).get? (s.heap.objs.size+1)=some (kX "list" vs.toArray 0):=by
  rw[←t];exact bf _ rfl
 show ki _ _ _ _ _ { s with heap:=((s.heap.push (kX "list" #[] 0)).update s.heap.objs.size (Obj.mapSeq (· ++ vs.toArray))).push (kX "list" vs.toArray 0) }
 rw[t];generalize M:((s.heap.push (kX "list" #[] 0)).update s.heap.objs.size (Obj.mapSeq (· ++ vs.toArray))).push (kX "list" vs.toArray 0)=G at n ⊢;have O:∀b o,s.heap.get? b=some o->G.get? b=some o:=λb o e=>by
  rw[←M];refine aa _ ?_;rw[dX _ _ _ _ (aF (ai e))];exact aa _ e
 have H:∀b o,s.heap.get? b=some o->(Ak G (s.heap.objs.size+1) vs).get? b=some o:=λb o e=>by
  refine aa _ (aa _ ?_);rw[dX _ _ _ _ (aF (bW (ai e)))];exact O b o e
 obtain⟨q1,P⟩:=I { s with heap:=Ak G (s.heap.objs.size+1) vs } H
 refine kj (mO (wpAny_call_entry slot_list_sort ⟨_,n,rfl⟩ entry_list_sort (KZ (Pk:=Pk) (lt:=lt) n B q1 P (λx R=>?_) λu S T=>⟨_,rfl,?_⟩) (args_list_sort _)))
 .obtain⟨U,X⟩:=Dj R;have:x=(x.1,x.1):=jS rfl X;rw[this];exact J _ U
 .obtain⟨Y,v2⟩:=P4 S T;obtain⟨e1,z⟩:=aeF vs n;obtain⟨n1,g1⟩:=aeh (u.map (·.2)) z;refine kC ⟨_,rfl,h _ (sortedHeap G (s.heap.objs.size+1) vs (u.map (·.2))) n1 Y v2 (λb o e=>?_) ?_⟩
  .unfold sortedHeap;rw[dX _ _ _ _ (aF (bW (ai e)))];exact H b o e
  .rw[show(u.map (·.2)).toList.toArray=u.map (·.2)from Array.toArray_toList]
   exact g1
end
end MrS
namespace HT
open PySem PyProof.Rows
section
open PySem.SeqAt
open PySem.AutoSeq1 (wpAny_loadPart')
open PySem.MeetsSeq PySem.MeetsSeq2 PySem.MeetsSeq3 PySem.SeqRoads2
def Qj{vs:Ξ}{ns:Ϝ}(h:kZ vs ns):∀{i}hi,∃z t,vs[i] = .int z t/\ns.drop i=z::ns.drop (i+1):=by
 induction h with
 |nil=>intro i hi;exact absurd hi (dC _)
 |cons a t _ l=>
  intro i hi;cases i with
  |zero=>exact⟨a,t,rfl,rfl⟩
  |succ i=>exact l (i:=i) (by simpa using hi)
def Ou l b(B z:Ω)n T dd J(U L:Array Υ)(ns ms:Ϝ)(hi:kZ B.toList ns)(Q:kZ z.toList ms)k :
  ∀i:Nat,min B.size z.size-i=k->i<=B.size->i<=z.size->Meets (Builtin.«list.__eq__.loop» ⟨[.ref l,.ref b,mD i,mD 0],[]⟩)
   (λ_ R s=>s.heap.get? l=some { cls:=.type "list", dict:=dd,data:=.seq B n,slots:=U }/\s.heap.get? b=some { cls:=.type "list", dict:=J,data:=.seq z T,slots:=L } /\
    R (.ok (.ret (.bool (vn (ns.drop i) (ms.drop i))))) s):=by
 have z1:ns.length=B.size:=by rw[←hi.length];simp
 have z2:ms.length=z.size:=by rw[←Q.length];simp
 induction k with
 |zero=>
  intro i hk X Y prog w A R s h;obtain⟨M,g,d,O,os⟩:=s;obtain⟨hl,hb,h⟩:=h
  wp_walk using wpAny_loadPart' hl,wpAny_loadPart' hb
  have fin:vn (ns.drop i) (ms.drop i)=decide (B.size<z.size):=by
   by_cases c:i=B.size
   .have e1:ns.drop i=[]:=cu ∅
    rw[e1]
    by_cases S:i<z.size
    .rw[aQ (by lia:i<ms.length),Jg]
     exact(d0 ∅).symm
    .rw[cu (by lia:ms.length<=i),KP]
     exact(d4 ∅).symm
   .have S:i=z.size:=by lia
    rw[aQ (by lia:i<ns.length),cu (by lia:ms.length<=i),IM]
    exact(d4 ∅).symm
  rw[fin]at h
  by_cases c:i=B.size
  .have hi1:B[((i:Nat):Int).toNat]?=none:=by simp;lia
   rw[hi1]
   wp_walk using wpAny_loadPart' hl,wpAny_loadPart' hb
   exact h
  .have S:i=z.size:=by lia
   have hi1:B[((i:Nat):Int).toNat]?=some (B[i]'∅):=by simp
   have E:z[((i:Nat):Int).toNat]?=none:=by simp;lia
   rw[hi1,E]
   wp_walk using wpAny_loadPart' hl,wpAny_loadPart' hb
   exact h
 |succ k ih=>
  intro i hk X Y prog w A R s h;obtain⟨M,g,d,O,os⟩:=s;obtain⟨hl,hb,h⟩:=h
  wp_walk using wpAny_loadPart' hl,wpAny_loadPart' hb
  have I:i<B.size:=by lia
  have G:i<z.size:=by lia
  obtain⟨x,t,ex,dx⟩:=Qj hi (i:=i) (by simpa using I)
  obtain⟨y,u,ey,dy⟩:=Qj Q (i:=i) (by simpa using G)
  have hi1:B[((i:Nat):Int).toNat]?=some (.int x t):=by
   rw[←ex];simp[I]
  have E:z[((i:Nat):Int).toNat]?=some (.int y u):=by
   rw[←ey];simp[G]
  have hc:((i:Int)+1)=((i+1:Nat):Int):=by push_cast;rfl
  rw[dx,dy,Br]at h;rw[hi1,E];obtain⟨e,he,H⟩:=ZS A.in1 ⟨M,g,d,O,os⟩ x t y u;refine kj (he prog w _ _ ?_);cases e with
  |true=>
   rw[qf (H.mp rfl)]at h
   wp_walk
   rw[hc];exact⟨plainId_quiet plain_eq_loop _,nA entry_eq_loop (by
    rw[Around.under_plainId plain_eq_loop _];exact ih (i+1) ∅ ∅ ∅ prog w A R _ ⟨hl,hb,h⟩)⟩
  |false=>
   rw[qj (λq=>absurd (H.mpr q) aD)]at h
   have P:=XG A.in1 ⟨M,g,d,O,os⟩ x t y u prog w
   wp_walk using wpAny_loadPart' hl,wpAny_loadPart' hb
   rw[hi1,E]
   wp_walk using P
   exact h
def MC l b(u t:Ω)n B dd x(E z:Array Υ)(ns ms:Ϝ)(hi:kZ u.toList ns)(G:kZ t.toList ms) :
  Meets (Builtin.«list.__lt__» ⟨[.ref l,.ref b],[]⟩)
   (λ_ R s=>s.heap.get? l=some { cls:=.type "list", dict:=dd,data:=.seq u n,slots:=E }/\s.heap.get? b=some { cls:=.type "list", dict:=x,data:=.seq t B,slots:=z } /\
    R (.ok (.ret (.bool (vn ns ms)))) s):=by
 intro prog w A R s h;obtain⟨H,g,d,I,os⟩:=s;obtain⟨hl,hb,h⟩:=h;have J:=AutoSeq1.sub_list_list
 wp_walk using wpAny_loadPart' hl,wpAny_loadPart' hb
 exact⟨plainId_quiet plain_eq_loop _,nA entry_eq_loop (by
  rw[Around.under_plainId plain_eq_loop _];exact Ou l b u t n B dd x E z ns ms hi G _ 0 rfl (bb _) (bb _) prog w A R _ ⟨hl,hb,h⟩)⟩
end
end HT
namespace Mr
open PySem PySem.Spec PyProof.Rows L2
section
open HT
theorem J1:∀xs l:Ϝ,vn xs l=true->vn l xs=false
 | [],[],_=>rfl
 | [],_::_,_=>rfl
 |_::_,[],h=>by cases h
 |x::xs,y::l,h=>by
  rw[Br]at h ⊢
  by_cases e:x=y
  .rw[qf e]at h;rw[qf e.symm];exact J1 xs l h
  .rw[qj e]at h;rw[qj (Ne.symm e)];have n:=of_decide_eq_true h;exact d4 ∅
theorem He:∀xs l n:Ϝ,vn l xs=false->vn n l=false->vn n xs=false
 | [],[],[],_,_=>rfl
 | [],[],_::_,_,h=>by exact h
 | [],_::_,[],_,h=>by cases h
 | [],_::_,_::_,_,_=>rfl
 |_::_,[],_,h,_=>by cases h
 |_::_,_::_,[],_,h=>by cases h
 |x::xs,y::l,z::n,h1,h2=>by
  rw[Br]at h1 h2 ⊢
  by_cases t:y=x
  .rw[qf t]at h1;subst t
   by_cases s:z=y
   .rw[qf s]at h2 ⊢;exact He xs l n h1 h2
   .rw[qj s]at h2 ⊢;exact h2
  .rw[qj t]at h1;have u:=of_decide_eq_false h1
   by_cases s:z=y
   .rw[qj ∅]
    exact d4 ∅
   .rw[qj s]at h2;have B:=of_decide_eq_false h2;rw[qj ∅]
    exact d4 ∅
theorem Qs:∀xs l:Ϝ,vn xs l=false->vn l xs=false->xs=l
 | [],[],_,_=>rfl
 | [],_::_,h,_=>by cases h
 |_::_,[],_,h=>by cases h
 |x::xs,y::l,h1,h2=>by
  rw[Br]at h1 h2
  by_cases e:x=y
  .rw[qf e]at h1;rw[qf e.symm]at h2;rw[e,Qs xs l h1 h2]
  .rw[qj e]at h1;rw[qj (Ne.symm e)]at h2;have n:=of_decide_eq_false h1;have s:=of_decide_eq_false h2;lia
def rLe(x y:Ϝ):Bool:=!HT.vn y x
def W5 x y z(l:rLe x y=true)(n:rLe y z=true):rLe x z=true:=by
 unfold rLe at *;simp only[jr]at *;exact He x y z l n
def Vi x y:(rLe x y || rLe y x)=true:=by
 unfold rLe;cases h:HT.vn y x with
 |false=>rfl
 |true=>rw[J1 y x h];rfl
def A7(rs:Λ):Λ:=rs.mergeSort rLe
def uD rs:(A7 rs).Perm rs:=ja _ _
def B4 rs:(A7 rs).Pairwise (λx y=>HT.vn y x=false):=by
 refine(ik W5 Vi rs).imp λ{a b} h=>?_
 unfold rLe at h;simpa using h
def Lf:∀{xs l:Λ},xs.Perm l->xs.Pairwise (λx y=>HT.vn y x=false)->l.Pairwise (λx y=>HT.vn y x=false)->xs=l
 |xs,l,n,s,t=>bX.eq_of_pairwise (λa b _ _ u z=>(Qs b a u z).symm) s t n
def J6(l:xs.Perm rs)(h:xs.Pairwise (λx y=>HT.vn y x=false)):xs=A7 rs:=
 Lf (l.trans (uD rs).symm) h (B4 rs)
def DO(n:rs.Perm l):A7 rs=A7 l:=J6 ((uD rs).trans n) (B4 rs)
def Ab rs:(A7 rs).length=rs.length:=(uD rs).length_eq
def ER(ns:Ϝ):Ϝ:=ns.mergeSort (λx y=>decide (x<=y))
def GX ns:(ER ns).Perm ns:=ja _ _
def QT ns:(ER ns).Pairwise (·<=·):=by
 refine(ik (λa b c l n=>?_) (λa b=>?_) ns).imp λ{a b} h=>by simpa using h
 .simp only[decide_eq_true_eq]at *;lia
 .simp only[Bool.or_eq_true,decide_eq_true_eq];lia
def ady(l:xs.Perm ns)(h:xs.Pairwise (·<=·)):xs=ER ns:=
 bX.eq_of_pairwise (λa b _ _ n s=>Int.le_antisymm n s) h (QT ns) (l.trans (GX ns).symm)
end
def tZ(H:Hp)(ps:Δ)(rs:Λ):Prop:=ps.map H=rs.map (λr=>some (HO.lst (r.map V.int)))
def tZ.nil:tZ H [] []:=rfl
theorem tZ.length(h:tZ H ps rs):ps.length=rs.length:=by
 have:=congrArg bU h;simpa using this
def tZ.cons_iff{ps:Δ}{rs:Λ}{r:Ϝ}:tZ H (p::ps) (r::rs)↔H p=some (.lst (r.map V.int))/\tZ H ps rs:=by
 unfold tZ;rw[aw,aw,jK.injEq]
def tZ.get(h:tZ H ps rs){i:Nat}(e:ps[i]?=some p):∃r,rs[i]?=some r/\H p=some (.lst (r.map V.int)):=by
 have:=congrArg (λl=>l[i]?) h
 simp only[gMq,e,cw]at this;cases n:rs[i]? with
 |none=>rw[n]at this;cases this
 |some r=>rw[n]at this;exact⟨r,rfl,aY.inj this⟩
def tZ.mem(h:tZ H ps rs)(l:p∈ps):∃r,r∈rs/\H p=some (.lst (r.map V.int)):=by
 obtain⟨i,hi⟩:=List.getElem?_of_mem l;obtain⟨r,n,e⟩:=h.get hi;exact⟨r,mGq n,e⟩
def tZ.keep(h:tZ H ps rs)(k:∀p∈ps,l p=H p):tZ l ps rs:=by
 unfold tZ at *;rw[←h];exact mCq k
def tZ.same(h:tZ H ps rs)(s:qO H l):tZ l ps rs:=
 h.keep λp n=>by
  obtain⟨r,_,e⟩:=h.mem n;rw[s _ _ e,e]
noncomputable def toI:V->Int
 | .int i=>i
 |_=>0
def we(H:Hp)(p:Addr):Ϝ:=match H p with
 |some (.lst xs)=>xs.map toI
 |_=>[]
def Pu(h:H p=some (.lst (r.map V.int))):we H p=r:=by
 unfold we;rw[h];simp only[mPq];exact List.map_id'' (λ_=>rfl) r
def tZ.fn(h:tZ H ps rs):rs=ps.map (we H):=by
 induction rs generalizing ps with
 |nil=>
  have:=h.length;have:=bz.mp this;rw[this];rfl
 |cons r rs l=>
  cases ps with
  |nil=>have:=h.length;simp at this
  |cons p ps=>
   obtain⟨n,s⟩:=tZ.cons_iff.mp h;rw[aw,←l s,Pu n]
def tZ.fn_row(h:tZ H ps rs)(l:p∈ps):H p=some (.lst ((we H p).map V.int)):=by
 obtain⟨r,_,e⟩:=h.mem l;rw[Pu e];exact e
def tZ.of_fn(h:∀p∈ps,H p=some (.lst ((we H p).map V.int))):tZ H ps (ps.map (we H)):=by
 unfold tZ;rw[mPq];exact mCq h
def tZ.perm(h:tZ H ps rs)(n:qs.Perm ps):∃l,tZ H qs l/\l.Perm rs/\l=qs.map (we H):=
 ⟨_,tZ.of_fn λp m=>h.fn_row (n.mem_iff.mp m),by rw[h.fn];exact n.map _,rfl⟩
def tZ.free{H:Hp}(h:tZ l ps rs)(n:l q=none):q∉ps:=λm=>by
 obtain⟨r,_,e⟩:=h.mem m;rw[n]at e;cases e
theorem AR:∀{ps:Δ}{vs},qI (ps.map V.ref) vs->vs=ps.map ag
 | [],vs,r=>by cases r;rfl
 |p::ps,vs,r=>by
  cases r with
  |cons l n=>
   have e:=l;rw[e,AR n];rfl
theorem Ll:∀(ps:Δ),qI (ps.map V.ref) (ps.map ag)
 | []=>.nil
 |p::ps=>.cons rfl (Ll ps)
noncomputable def zH:Value->Addr
 | .ref p=>p
 |_=>0
noncomputable def intOf:Value->Int
 | .int i _=>i
 |_=>0
def aef{vs:Ξ}{ns:Ϝ}(h:kZ vs ns):ns=vs.map intOf/\∀v∈vs,∃a t,v = .int a t:=by
 induction h with
 |nil=>exact⟨rfl,λv l=>by cases l⟩
 |cons a t _ n=>
  refine⟨by rw[aw,←n.1];rfl,λv l=>?_⟩
  rcases ah.mp l with rfl|l
  .exact⟨a,t,rfl⟩
  .exact n.2 v l
theorem vals_ints:∀{vs},(∀v∈vs,∃a t,v = .int a t)->qI ((vs.map intOf).map V.int) vs
 | [],_=>.nil
 |v::vs,h=>by
  obtain⟨a,t,rfl⟩:=h _ (aq ..);exact .cons ⟨t,rfl⟩ (vals_ints λv l=>h v (mCo _ l))
def adO{vs:Ξ}(t:2<=vs.length)(u:∀v∈vs,W.Looks M s.heap (typeOf v) (.type T))(l:(dQ T != dQ "tuple")=true)(n:(dQ T == dQ T)=true)(h:Q mq s) :
  ki M A (keyKind' vs.toArray) Q E s:=W.kas_kind t u l n h
noncomputable def ltI(x y:ke):Bool:=match x.1,y.1 with
 | .int a _,.int b _=>decide (a<b)
 |_,_=>false
def ami(prog)w A s:MrS.Ea prog w A s mq (λx=>∃a t,x.1 = .int a t) ltI where
 ask:=by
  rintro⟨_,x⟩ ⟨_,y⟩ ⟨a,t,l⟩ ⟨b,u,n⟩ E Q q;subst l n;exact oneLt_int q
 asym:=by
  rintro⟨_,x⟩ ⟨_,y⟩ ⟨a,t,l⟩ ⟨b,u,n⟩ h;subst l n;have h':=of_decide_eq_true h;exact d4 ∅
 trans:=by
  rintro⟨_,x⟩ ⟨_,y⟩ ⟨_,z⟩ ⟨a,t,l⟩ ⟨b,u,n⟩ ⟨c,v,B⟩ G H;subst l n B;have I:=of_decide_eq_false G;have J:=of_decide_eq_false H;exact d4 ∅
def ltR(r:Addr->Ϝ)(x y:ke):Bool:=match x.1,y.1 with
 | .ref p,.ref q=>HT.vn (r p) (r q)
 |_,_=>false
def alq{ps:Δ}(O:A.units<kN)
  (h:∀p∈ps,∃vs:Ξ,PlainL s.heap p vs.toArray/\kZ vs (r p)):MrS.Ea prog w A s mq (λx=>∃p,x.1 = .ref p/\p∈ps) (ltR r) where
 ask:=by
  rintro⟨_,x⟩ ⟨_,y⟩ ⟨p,l,P⟩ ⟨q,t,R⟩ E Q k;subst l t;obtain⟨vs,⟨o,n,B,S,G,hd⟩,hi⟩:=h p P;obtain⟨T,⟨U,X,H,I,u,J⟩,Y⟩:=h q R;obtain⟨cls,dd,data,sl⟩:=o;obtain⟨M,dd2,data2,L⟩:=U;subst S G hd I u J;refine kj (wpAny_cRoomFor O ?_);refine kj (wpAny_callSpecialIfBound?_slot ⟨_,B,rfl⟩ F.slot_list_lt (lO F.slot_list_lt ⟨_,B,rfl⟩ F.entry_list_lt (F.args_list_lt_2 _ _)
   (HT.MC p q vs.toArray T.toArray n X none none sl L (r p) (r q) (by simpa using hi) (by simpa using Y)) ⟨B,H,?_⟩))
  exact kS k
 asym:=by
  rintro⟨_,x⟩ ⟨_,y⟩ ⟨a,l,_⟩ ⟨b,t,_⟩ h;subst l t;exact J1 _ _ h
 trans:=by
  rintro⟨_,x⟩ ⟨_,y⟩ ⟨_,z⟩ ⟨a,l,_⟩ ⟨b,t,_⟩ ⟨c,e3,_⟩ h1 h2;subst l t e3;exact He _ _ _ h1 h2
def OJ:uX X (.builtin "sorted") (λxs H Q=>∃a ns,xs=[.ref a]/\uO X.K H a (ns.map V.int)/\∀p,H p=none->Q (.ref p) (ri H p (.lst ((ER ns).map V.int)))):=by
 intro oA s σ H xs us Q I r h;obtain⟨a,ns,rfl,J,q⟩:=h;obtain⟨u,rfl,L⟩:=HA r;cases L;obtain⟨M,hl,hi,O⟩:=zO I J;obtain⟨P,z⟩:=aef hi;have B:=hi.length;refine MrS.KH hl ∅ (λs' _=>⟨λl Q q=>?_,ami _ _ _ _⟩) (λv m=>z v m) λout E R G S T U=>?_
 .match M,hi,l with
  | [],_,l=>simp at l
  | [_],_,l=>simp at l
  |v₁::v₂::rest,hi,_=>
   rw[keyKind_ints hi];exact kC q
 .have n:=λv m=>z v (G.mem_iff.mp m)
  have e:out.map intOf=ER ns:=by
   refine ady (by rw[P];exact G.map _) ?_
   rw[bD];refine S.imp_of_mem λ{x y} mx my h=>?_
   obtain⟨a,t,rfl⟩:=n x mx;obtain⟨b,u,rfl⟩:=n y my;have E:=of_decide_eq_false h;show a<=b;lia
  have Y:=I.hok.fresh (bP _);refine⟨.ref (s.heap.objs.size+1),_,I.laid T (bP _) (show sI X.prog X.w _ E _ (.lst ((ER ns).map V.int))from ⟨?_,out,R,?_,U⟩),rfl,q _ Y⟩
  .rw[lMq,(GX ns).length_eq];exact O
  .rw[←e];exact vals_ints n
def Nk(hu:X.A.units+64<kN):uX X (.builtin "sorted") (λxs H Q=>∃a ps rs,xs=[.ref a]/\uO X.K H a (ps.map V.ref)/\tZ H ps rs /\
  ∀p qs,H p=none->qs.Perm ps->tZ (ri H p (.lst (qs.map V.ref))) qs (A7 rs)->Q (.ref p) (ri H p (.lst (qs.map V.ref)))):=by
 intro oA s σ H xs us Q I r h;obtain⟨a,ps,rs,rfl,hS,Y,q⟩:=h;obtain⟨u,rfl,ru⟩:=HA r;cases ru;obtain⟨J,P,hl,hz⟩:=I.list hS;have ei:=AR P;subst ei;have L:∀p∈ps,∃B:Ξ,PlainL s.heap p B.toArray/\kZ B (we H p):=λp t=>by
  obtain⟨J,P,R,_⟩:=I.list (uO.of (Y.fn_row t));exact⟨J,R,EB P⟩
 have z:∀(G:kc),(∀b o,s.heap.get? b=some o->G.heap.get? b=some o)->∀p∈ps,∃B:Ξ,PlainL G.heap p B.toArray/\kZ B (we H p):=λG k p t=>by
  obtain⟨B,⟨o,n,M,rest⟩,hi⟩:=L p t;exact⟨B,⟨o,n,k _ _ M,rest⟩,hi⟩
 refine MrS.KH (Pk:=λx=>∃p,x.1 = .ref p/\p∈ps) (lt:=ltR (we H)) hl.isList (by simpa using hz) (λG k=>⟨λh2 Q q=>?_,alq (by show X.A.units+1+1<kN;lia) (z G k)⟩) (λv m=>?_) λout h' n' o1 o2 o3 o4=>?_
 .refine adO (T:= "list") h2 (λv S=>?_) (by rfl) (by rfl) q
  obtain⟨p,t,rfl⟩:=mMq.mp S;obtain⟨B,R,_⟩:=z G k p t;intro A Q E s2 k2 q2;obtain⟨o,M,hc,_⟩:=R.isList;exact wpAny_typeOf (T:= "list") ⟨o,k2 _ _ M,hc⟩ q2
 .obtain⟨p,t,rfl⟩:=mMq.mp m;exact⟨p,rfl,t⟩
 .have M:∀v∈out,∃p∈ps,v = .ref p:=λv m=>by
   obtain⟨p,t,rfl⟩:=mMq.mp (o1.mem_iff.mp m);exact⟨p,t,rfl⟩
  have U:out=(out.map zH).map ag:=by
   rw[mPq];have e:=mCq (l:=out) (f:=id) (g:=ag∘zH) λv S=>by
    obtain⟨p,_,rfl⟩:=M v S;rfl
   rw[←e,du]
  have O:(out.map zH).Perm ps:=by
   have:=o1.map zH;rw[mPq,show zH∘ag=id from rfl,du]at this
   exact this
  have t:H (s.heap.objs.size+1)=none:=I.hok.fresh (bP _);generalize out.map zH=qs at U O;obtain⟨ts,e1,e2,e3⟩:=Y.perm O;have es:ts=A7 rs:=by
   refine J6 e2 ?_;rw[e3,bD];rw[U,bD]at o2;exact o2
  refine⟨.ref (s.heap.objs.size+1),_,I.laid (t':=s.toks) o3 (bP _) (show sI X.prog X.w _ h' _ (.lst (qs.map V.ref))from ⟨?_,out,n',?_,o4⟩),rfl,q _ qs t O (by rw[←es];exact e1.same (tO t))⟩
  .rw[lMq,O.length_eq];simpa using hz
  .rw[U];exact Ll qs
noncomputable def AU(r:Ϝ):PyData:=.list (r.map PyData.int)
def Kn(rs:Λ):PyData:=.list (rs.map AU)
def Vk{σ:St}(I:qb X l σ H s)(h:H p=some (.lst (r.map V.int))):Reads s.heap (.ref p) (AU r) [p]:=by
 obtain⟨n,hl,hi,_⟩:=zO I (uO.of h);exact W.reads_of_ints hl hi
theorem HZ:∀rs:Λ,PyData.canLayAll0 (rs.map AU)=true
 | []=>by simp[PyData.canLayAll0]
 |r::rs=>by simp[PyData.canLayAll0,AU,PyData.canLay0,W.canLayAll0_ints r,HZ rs]
theorem Km:∀rs:Λ,PyData.depthAll (rs.map AU)<=3
 | []=>by simp[PyData.depthAll]
 |r::rs=>by
  have l:=Km rs;have n:=W.depthAll_ints r;simp only[aw,PyData.depthAll,AU,PyData.depth];lia
def HF rs:SeqAt.shaped (Kn rs)=true:=by
 have n:=Km rs;have l:PyData.depth (Kn rs)<=64:=by simp only[Kn,PyData.depth];lia
 show(PyData.canLay0 (Kn rs) && decide (PyData.depth (Kn rs)<=64))=true;rw[dU];exact⟨by exact HZ rs,d0 l⟩
theorem JQ:∀rs l:Λ,SeqAt.noMixAll (rs.map AU) (l.map AU)=true
 | [],[]=>by simp[SeqAt.noMixAll]
 | [],_::_=>by simp[SeqAt.noMixAll]
 |_::_,[]=>by simp[SeqAt.noMixAll]
 |r::rs,t::l=>by simp[SeqAt.noMixAll,AU,SeqAt.noMix,W.noMix_ints r t,JQ rs l]
theorem LH:∀rs l:Λ,PySem.Spec.sameAll (rs.map AU) (l.map AU)=decide (rs=l)
 | [],[]=>by simp[PySem.Spec.sameAll]
 | [],_::_=>by simp[PySem.Spec.sameAll]
 |_::_,[]=>by simp[PySem.Spec.sameAll]
 |r::rs,t::l=>by
  simp only[aw,PySem.Spec.sameAll,AU,PySem.Spec.same,W.same_ints r t];rw[LH rs l]
  by_cases h:r=t <;> simp[h]
def Yk:V->List V->Hp->VK->Prop:=λx vs H Q=>∃(a b:Addr) (ps:Δ) (rs:Λ) (r:Ϝ),x = .ref a/\vs=[.ref b]/\H a=some (.lst (ps.map V.ref))/\tZ H ps rs/\H b=some (.lst (r.map V.int))/\b∉ps/\Q (.int (rs.countP (·=r):Nat)) H
def Yz(hu:X.A.units+65<kN):MtR X "list.count" Yk:=by
 intro oA s σ H x xs v us Q I R r h;obtain⟨a,b,t,S,row,rfl,rfl,T,G,J,U,q⟩:=h;cases R;obtain⟨u,rfl,Y⟩:=HA r;cases Y;obtain⟨its,rv,⟨o,n,L,M,l,hd⟩,hz⟩:=I.list (uO.of T);have ei:=AR rv;subst ei;obtain⟨cls,dd,O,sl⟩:=o;simp only at M l hd;subst M l hd;have hr:=Vk I J;refine lO il ⟨_,L,rfl⟩ PySem.F.entry_list_count (PySem.F.args_list_count_2 _ _)
  (SeqAt.list_countAt a (t.map ag).toArray n none sl (.ref b) (λy=>decide (we H (zH y)=row))) ⟨L,λy hy=>?_,?_⟩
 .obtain⟨p,P,rfl⟩:=mMq.mp (show y∈t.map ag by simpa using hy)
  refine SeqAt.EqAt.of_refs (λe=>U (e ▸ P)) λprog w E Q hq=>?_
  obtain⟨vs,hl,hi,_⟩:=zO I (uO.of (G.fn_row P));obtain⟨ws,z,B,_⟩:=zO I (uO.of J);exact W.eq_intsK (prog:=prog) (w:=w) (A:=X.A.in1) hl hi z B (by show X.A.units+1+64<kN;lia) hq
 .refine⟨.int _,H,I.tok _,⟨_,rfl⟩,?_⟩;have e:(t.map ag).toArray.toList.countP (λy=>decide (we H (zH y)=row))=S.countP (·=row):=by
   rw[List.toList_toArray,G.fn,jA,jA];rfl
  rw[e];exact q
end Mr
namespace Mr
open PySem L2
structure Bt (mg:Str->Υ):Prop where
 len:mg "len" = none
 min:mg "min" = none
 max:mg "max" = none
 abs:mg "abs" = none
 all:mg "all" = none
 sorted:mg "sorted" = none
 isi:mg "isinstance" = none
 list:mg "list" = none
 int:mg "int" = none
 bool:mg "bool" = none
 str:mg "str" = none
 dict:mg "dict" = none
 zip:mg "zip" = none
 enum:mg "enumerate" = none
 range:mg "range" = none
 reversed:mg "reversed" = none
structure Fn (P:kr)(w:kz)(K:Ζ)(mg:Str->Υ)(base:Heap)(k:Nat)(x:Str)(st:Stmt)(ps:List Str)(sp:Sp)(f:Addr)(fd:ky):Prop where
 D:xN K mg x st ps f fd
 ok:yT P w K mg base QC k f fd ps sp
def tY.units65(r:tY k A):A.units+65<kN:=by have:=r.un;lia
def afr(G:Fn X.prog X.w X.K X.mg X.base k x st ps sp f fd)(hr:tY k X.A)(ha:PA X (e::es) t)(s:Gl X x:=by rfl)(l:(x == ("__debug__" : Str))=false:=by decide)
  (u:kx (e::es) X.env=(false,eval e X.env)::kx es X.env:=by rfl) (n:(kM pos (kx es X.env)).any (·.1)=false:=by rfl) :
  PE X (.Call (.Name x p) (e::es) [] pos) (xX sp [] E0 t):=Vg G.ok hr s G.D.m G.D.F.kp G.D.b .nil Uq ha l u n
section
variable (K:Ζ)
def UZ:Sp:=λvs H Q _=>∃(a:Addr) (ns:Ϝ),vs=[.ref a]/\uO K H a (ns.map V.int)/\ns.length<=63/\∀l,Q (.bl true) l
end
def tq{α:Type}{l:List α}{x}(h:l[i]?=some x):l.take (i+1)=l.take i++[x]:=by
 rw[dG,h];rfl
end Mr
namespace Xe
open PySem PySem.Spec PySem.W PyProof.Rows L2 Mr
abbrev St:=L2.St
noncomputable abbrev lk0(K:Frag)(C:Addr):Bool:=findIn K (.ref C) "__setattr__" == some (some (.builtin "object.__setattr__")) && findIn K (.ref C) "__getattribute__" == some (some (.builtin "BaseException.__getattribute__")) &&
 findIn K (.ref C) "__getattr__" == some none && findIn K (.ref C) "__class__" == some (some (.builtin "object.__class__"))
noncomputable def AJ(K:Frag)(c:Str)(C:Addr)(bm:Ξ):Bool:=match K.lookup C with
 |some ⟨.type "type", _,.cls l,s⟩=>(match s.toList with
  | [_,_,_,_,some (.builtin n),_]=>l.name == c && l.mro == .ref C::bm && n == "ValueError.__new__" && !l.hasDel && l.hasDict && tailIn K Ad bm
  |_=>false)
 |_=>false
structure XC (K:Frag)(c:Str)(C:Addr)(bm:Ξ):Prop where
 obj:∃N q bs sn sub ab col dd k0 k1 k2 k3 k5,K.lookup C=some (kJ c q C N bs bm true sn sub ab col dd k0 k1 k2 k3 k5 "ValueError.__new__")
 cls:∃cd,clsIn K C=some cd/\cd.mro = .ref C::bm/\cd.name=c
 tail:∀h:Heap,K.In h->kT h Ad bm
def zK{K}(e:AJ K c C bm=true):XC K c C bm:=by
 unfold AJ at e;split at e
 .rename_i Q z B E;split at e
  .rename_i G H I J n L M;simp only[dU,beq_iff_eq,jr]at e;obtain⟨⟨⟨⟨⟨O,P⟩,R⟩,s⟩,t⟩,ht⟩:=e;have S:clsIn K C=some z:=by unfold clsIn;rw[E]
   obtain⟨nm,bs,mro,ns,T,hd,U,sub,Y,u,del⟩:=z;dsimp only at O P s t;subst O P R s t;have x:B=#[G,H,I,J,some (.builtin "ValueError.__new__"),L]:=by
    obtain⟨l⟩:=B;simp only at M;rw[M]
   subst x;exact⟨⟨ns,T,bs,U,sub,Y,u,Q,G,H,I,J,L,E⟩,⟨_,S,rfl,rfl⟩,λh X=>tail_of_in X ht⟩
  .cases e
 .cases e
def UP{K}(e:AJ K c C bm=true)(x:AJ K u C l=true):c=u/\bm=l:=by
 obtain⟨_,⟨H,z,B,E⟩,_⟩:=zK e;obtain⟨_,⟨G,n,s,t⟩,_⟩:=zK x;rw[z]at n;cases n;rw[B]at s;exact⟨E.symm.trans t,by injection s⟩
structure Ref (K:Frag)(c:Str)(C M:Addr):Prop where
 nm:nsIn K ko c=some (some (.ref C))
 nmM:nsIn K ko "MapError" = some (some (.ref M))
 xc:AJ K c C (.ref M::Ad)=true
 xm:AJ K "MapError" M Ad=true
 lk:lk0 K C=true
def IsC(K:Frag)(c:Str)(C:Addr):Prop:=nsIn K ko c=some (some (.ref C))/\((∃M,Ref K c C M)∨(c = "MapError" /\ AJ K "MapError" C Ad=true))
def Ref.one{K}(a:Ref K c C M)(b:Ref K c l n):C=l/\M=n:=by
 have s:=a.nm.symm.trans b.nm;have t:=a.nmM.symm.trans b.nmM;simp at s t;exact⟨s,t⟩
structure Ref.Lks (K:Frag)(M:lQ)(h:Heap)(C:Addr):Prop where
 sa:Lk M h (kE (.ref C) "__setattr__") (some (.builtin "object.__setattr__"))
 ga:Lk M h (kE (.ref C) "__getattribute__") (some (.builtin "BaseException.__getattribute__"))
 gt:Lk M h (kE (.ref C) "__getattr__") none
 cl:Lk M h (kE (.ref C) "__class__") (some (.builtin "object.__class__"))
def Ref.lks{K}(r:Ref K c C M)(X:K.In h):Ref.Lks K Mo h C:=by
 have e:=r.lk;simp only[lk0,dU,beq_iff_eq]at e;obtain⟨⟨⟨l,n⟩,s⟩,t⟩:=e;exact⟨looks_findIn X l,looks_findIn X n,looks_findIn X s,looks_findIn X t⟩
noncomputable def Ks(e C:Addr)(od:Option Addr):HO:=.ext λh=>∃o vs,h.get? e=some o/\o.cls = .ref C/\o.dict=od/\o.data = .fields vs
noncomputable def RY(e C:Addr)(od:Option Addr):HO:=.ext λh=>∃t,h.get? e=some (CW C t od)
def ahK{vs:Ω}(n:h.get? e=some o)(s:o.cls = .ref C)(t:o.dict=od)(u:o.data = .fields vs):sI P w H h e (Ks e C od):=
 ⟨⟨o,vs,n,s,t,u⟩,⟨o,n⟩,λz g2 ⟨x,l,a,b⟩ k=>⟨x,l,k _ a,b⟩⟩
def NI(l:h.get? e=some (CW C t od)):sI P w H h e (RY e C od):=⟨⟨t,l⟩,⟨_,l⟩,λs g2 ⟨n,a⟩ k=>⟨n,k _ a⟩⟩
def Od(ok:CH P w H h)(q:H e=some (RY e C od)):∃t,h.get? e=some (CW C t od):=(show sI P w H h e (RY e C od)from ok e _ q).1
def FW(ok:CH P w H h)(q:H e=some (Ks e C od)):∃o vs,h.get? e=some o/\o.cls = .ref C/\o.dict=od/\o.data = .fields vs:=(show sI P w H h e (Ks e C od)from ok e _ q).1
def JJ(q:H e=some o):ri H e o=H:=by
 funext b
 by_cases hb:b=e
 .subst hb;rw[pE,q]
 .rw[pe hb]
def tBI(K:Frag)(t:TA):TE:=λσ H Q=>t σ H λvs l=>∃e v c C M,vs=[.ref e,v]/\l e=some (RY e C none)/\Ref K c C M/\Q .non l
def afI(R:Gl X x)(hm:X.mg x=some (.ref M))(hr:readsIn X.K M (.type "type")=true)
  (S:specialIn X.K (.ref M) "__getattribute__" = some (some (.builtin "type.__getattribute__"))) (U:findCls X.K (.ref M) (.type "type") "__init__" = some (.val (.builtin "ValueError.__init__")))
  (ha:PA X [n,a2] t) (G:(x == ("__debug__" : Str))=false:=by decide)
  (Y:kx [n,a2] X.env=(false,eval n X.env)::kx [a2] X.env:=by rfl) (L:(kM pos (kx [a2] X.env)).any (·.1)=false:=by rfl)
  (ht:eval (.Call (.Attribute (.Name x p) "__init__" E) [n,a2] [] pos) X.env=(do
   let P ←eval (.Name x p) X.env
   mH E.atName
   let (f,first) ←mI [P] (mh P "__init__" pl)
   nj pos f first (kM pos (kx [n,a2] X.env)) (mF pos (lW [] X.env))):=by rfl):PE X (.Call (.Attribute (.Name x p) "__init__" E) [n,a2] [] pos) (tBI X.K t):=by
 intro oA s σ H Q I h;refine W.methodCall_KW (pl:=pl) (zg I R hm ?_ G) ht;refine method_cls I.kIn S (cls_value I.kIn hr U (by trivial) ?_)
 refine fX (uN (ha pos oA _ σ H _ (I.tok _) h) λus s1 O=>?_) Y L
 obtain⟨vs,H1,B,r1,e,v,c,C,Mc,ev,l,rf,q⟩:=O;subst ev;cases r1 with
 |cons r2 r3=>
  cases r3 with
  |cons r4 r5=>
   cases r5;cases r2;obtain⟨t0,hx⟩:=Od B.hok l;obtain⟨⟨N,q',bs,sn,sub,ab,col,dd,k0,k1,k2,k3,k5,hC⟩,_,T⟩:=zK rf.xc;obtain⟨hh,g,d,tk,os⟩:=s1;refine V5 (T _ B.kIn) (B.kIn _ _ hC) hx (λh' t1 hk z=>?_) (by rw[kL];simp)
   refine⟨.non,H1,?_,rfl,q⟩;have J:=B.write (x:=e) (e:=e) (o:=RY e C none) (t':=tk) (by rw[l];trivial) (.inl rfl) (λb u hb hu=>hk b u hb hu) ⟨_,z⟩ (NI z)
   rw[JJ l]at J;exact J
def sXF(K:Frag)(t u:TE)(f:Str):TS:=λD σ H=>u σ H λy z=>t σ z λx n=>∃e c C M,x = .ref e/\n e=some (RY e C none)/\Ref K c C M/\findIn K (.ref C) f=some none /\
 ∀l,n l=none->l≠e->D.nx σ (ri (ri n l (.xd [(f,y)])) e (RY e C (some l)))
def afg(ha:PE X o ta)(hv:PE X t tv)(hs:lZ t (some (.Attribute o f B)) pos.line X.env=pure false):PS X (.Assign [.Attribute o f B] t pos) (sXF X.K ta tv f):=by
 intro oA s σ H D I h;refine mv (uN (hv oA s σ H _ I h) λu s1 U=>?_) hs
 obtain⟨y,H1,I1,ry,q⟩:=U;refine uN (ha oA s1 σ H1 _ I1 q) λov s2 Y=>?_
 obtain⟨x,S,E,rx,e,c,C,M,ex,he,rf,nf,q2⟩:=Y;subst ex;obtain rfl:ov=ag e:=rx;obtain⟨t0,hx⟩:=Od E.hok he;obtain⟨⟨N,q',bs,sn,sub,ab,col,dd,k0,k1,k2,k3,k5,hC⟩,_,T⟩:=zK rf.xc;have L:=rf.lks (Mo:=kf X.prog X.w) E.kIn;have LN:=looks_findIn (M:=kf X.prog X.w) E.kIn nf;obtain⟨hh,g,d,tk,os⟩:=s2;refine Wa (T _ E.kIn) (E.kIn _ _ hC) hx L.sa LN λh' O tk' n1 n2 P hns hk=>?_
 have nd:S O=none:=E.hok.fresh n1;refine⟨σ,_,?_,q2 O nd n2⟩;have ne:∀b l,S b=none->hh.get? b=some l->b≠e:=λb l z _=>λq=>by rw[q,he]at z;cases z
 have nx:∀b l,hh.get? b=some l->b≠O:=λb l z=>aF (aJ (ai z) n1)
 have Q:∀b l,S b=some l->b≠O:=λb l z q=>by rw[q,nd]at z;cases z
 have J:∀(b:Addr) (l:HO),S b=some l->(∀φ,l ≠ .ext φ)->b≠e:=λb l z k q=>by rw[q,he]at z;cases z;exact k _ rfl
 refine E.un (t':=tk') ⟨λb l z n _ _=>hk b l (ne b l n z) z,λb l z n _ _=>⟨l.slots,hk b l (ne b l n z) z⟩,λb l z n _=>by rw[pe (ne b l n z),pe (nx b l z)];exact n,λb l z _=>?_,
  λb xs z=>by rw[pe (J b _ z λφ w=>by cases w),pe (Q b _ z)];exact z,λb o' u' z=>by rw[pe (J b _ z λφ w=>by cases w),pe (Q b _ z)];exact z,
  λb ps z=>⟨#[],by rw[pe (J b _ z λφ w=>by cases w),pe (Q b _ z),z];simp⟩⟩ λb u z=>?_
 .by_cases hb:b=e
  .subst hb;exact⟨_,P⟩
  .exact⟨l,hk b l hb z⟩
 .by_cases hb:b=e
  .subst hb;rw[pE]at z;cases z;exact NI P
  .rw[pe hb]at z
   by_cases R:b=O
   .subst R;rw[pE]at z;cases z;refine⟨_,hns,λg=>?_⟩
    by_cases hg:g=f
    .subst hg;simpa[cm,CG]using ry
    .have:(g == f)=false:=by simpa using hg
     simp[cm,this,hg,CG]
   .rw[pe R]at z;refine(E.hok b u z).stay (λG v' hc r=>hk G v' ?_ r) (λG r=>?_) λG xs r=>?_
    .rcases hc with rfl|hc
     .exact hb
     .exact J G _ hc λφ w=>by cases w
    .rw[pe (J G _ r λφ w=>by cases w),pe (Q G _ r)];exact r
    .rw[pe (J G _ r λφ w=>by cases w),pe (Q G _ r)];exact r
def X4(K:Frag)(c fld:Str):Sp:=λvs H Q _=>∃e v C M,vs=[.ref e,v]/\H e=some (RY e C none)/\Ref K c C M/\findIn K (.ref C) fld=some none /\
 ∀l,H l=none->l≠e->Q .non (ri (ri H l (.xd [(fld,v)])) e (RY e C (some l)))
def ajg(K:Frag)(c fld:Str)(t:TA):TE:=λσ H Q=>t σ H λvs n=>∃v C M,vs=[v]/\Ref K c C M/\findIn K (.ref C) fld=some none /\
 ∀e l,n e=none->n l=none->l≠e->Q (.ref e) (ri (ri n l (.xd [(fld,v)])) e (RY e C (some l)))
structure Ini (P:kr)(w:kz)(K:Frag)(mg:Str->Υ)(base:Heap)(k:Nat)(c fld prm:Str)(C M f:Addr)(fd:ky):Prop where
 rf:Ref K c C M
 ini:findIn K (.ref C) "__init__" = some (some (.ref f))
 fn:isFn K (.ref f)=true
 kp:keepIn K (.ref C)=true
 nf:findIn K (.ref C) fld=some none
 m:mg c=some (.ref C)
 b:qY K fd ["self", prm] []
 ok:yT P w K mg base QC k f fd ["self", prm] (X4 K c fld)
def aco:ri (ri (ri H e a) l b) e c=ri (ri H l b) e c:=by
 funext x;unfold ri;split
 .rfl
 .rename_i h;split
  .rfl
  .first|rfl|rw[qj h]
section
variable {fld:Str}
def aeo{σ:St}(G:Ini X.prog X.w X.K X.mg X.base k c fld prm C M f fd)(hr:tY (k+1) X.A)(s:qb X z σ n s1)(L:rK v u)
  (q:∀e x,n e=none->n x=none->x≠e->Q (.ref e) (ri (ri n x (.xd [(fld,v)])) e (RY e C (some x)))):ki (kf X.prog X.w) X.A (call (.ref C) [u]) (EP X z σ Q) X.xe s1:=by
 obtain⟨⟨N,q',bs,sn,sub,ab,O,dd,k0,k1,k2,k3,k5,P⟩,_,T⟩:=zK G.rf.xc;obtain⟨hh,g,d,H,os⟩:=s1;refine WN (T _ s.kIn) (s.kIn _ _ P) (looks_findIn s.kIn G.ini) (λself=>bind_fn s.kIn self (beq_iff_eq.mp G.fn)) (λR e hm I=>?_) (by rw[kL];simp)
 have S:n e=none:=s.hok.fresh I;obtain⟨t0,U,_,_⟩:=hm.there;have B:qb X z σ (ri n e (RY e C none)) ⟨R,g,d,H,os⟩:=s.laid (t':=H) hm.keeps I (NI U);have E:X4 X.K c fld [.ref e,v] (ri n e (RY e C none)) (λJ Y=>J = .non/\Q (.ref e) Y) E0:=by
  refine⟨e,v,C,M,rfl,pE,G.rf,G.nf,λx nd ne=>⟨rfl,?_⟩⟩
  rw[aco];rw[pe ne]at nd;exact q e x S nd ne
 refine lB (lH (G.ok.run _ X.stack _ _ ⟨[.ref e,u],[]⟩ [.ref e,u] [.ref e,v] _ E0 (hr.make C [u] []) (B.env0.make C [u] []) (G.b _ [.ref e,u] B.kIn rfl) (.cons rfl (.cons L .nil)) E) λr s' l=>?_)
 cases r with
 |error e=>exact False.elim l
 |ok fl=>
  cases fl with
  |ret u=>
   obtain⟨J,H',I3,rv,ev,q3⟩:=B.after l;subst ev;exact⟨rv,⟨V.ref e,H',I3,rfl,q3⟩⟩
  |next=>exact False.elim l
  |brk=>exact False.elim l
  |cont=>exact False.elim l
def RJ(G:Ini X.prog X.w X.K X.mg X.base k c fld prm C M f fd)(hr:tY (k+1) X.A)(ha:PA X [a] t)(B:Gl X c:=by rfl)(l:(c == ("__debug__" : Str))=false:=by decide)
  (E:kx [a] X.env=(false,eval a X.env)::kx [] X.env:=by rfl) (n:(kM pos (kx [] X.env)).any (·.1)=false:=by rfl) :
  PE X (.Call (.Name c p) [a] [] pos) (ajg X.K c fld t):=by
 intro J s σ H Q I h;refine kO (zg I B G.m ?_ l);refine W.callWith_K (h₀:=X.base) I.ok.mod.kin G.kp (uN (ha pos J s σ H _ I h) λus S u=>?_) E n
 obtain⟨T,U,z,r,v,Y,M',L,x,O,q⟩:=u;refine⟨z.kIn,?_⟩;obtain⟨rfl,rfl⟩:=G.rf.one x;subst L;cases r with
 |cons P R=>
  cases R;exact aeo G hr z P q
end
def Xs(P:kr)(w:kz):PQ:=λouter H s E n s'=>∃e C od l o vs,n = .ref e/\s'.os=s.os/\mi s'.gens/\Un (Rm outer) [] H l s.heap s'.heap/\CH P w l s'.heap/\l e=some (Ks e C od) /\
 s'.heap.get? e=some o/\o.data = .fields vs/\LP s'.heap vs/\E (.ref e) od l
def abC(X:Cx)(E:XK):Prop:=∀l (σ:St) H s e C od o (vs:Ω) φ,qb X l σ H s->H e=some (.ext φ)->s.heap.get? e=some o ->
 o.cls = .ref C->o.dict=od->o.data = .fields vs->LP s.heap vs->E (.ref e) od (ri H e (Ks e C od))->X.xe (.ref e) s
section
variable {vs:Ω}
def QF(N:Ly fs e o T h h')(t:H e=some (.ext φ)):Un fs [] H (ri H e (Ks e C od)) h h':=by
 have ne:∀b,H b=none->b≠e:=λb z q=>by rw[q,t]at z;cases z
 have s:∀(b:Addr) (l:HO),H b=some l->(∀φ,l ≠ .ext φ)->b≠e:=λb l z k q=>by rw[q,t]at z;cases z;exact k _ rfl
 refine⟨λb l z n hb _=>N.keep b l (ne b n) hb z,λb l z n _ _=>N.slot b l (ne b n) z,λb l z n _=>by rw[pe (ne b n)];exact n,λb l z _=>?_,
  λb u z=>by rw[pe (s b _ z λφ w=>by cases w)];exact z,λb x B z=>by rw[pe (s b _ z λφ w=>by cases w)];exact z,
  λb E z=>⟨#[],by rw[pe (s b _ z λφ w=>by cases w),z];simp⟩⟩
 by_cases hb:b=e
 .subst hb;exact⟨_,N.exc⟩
 .obtain⟨G,q⟩:=N.slot b l hb z;exact⟨_,q⟩
def Pd(N:Ly fs e o T h h')(B:H e=some (.ext φ))(ok:CH P w H h)(E:∀b∈fs,H b=none)(l:o.cls = .ref C)(hd:o.dict=od)(t:o.data = .fields vs):CH P w (ri H e (Ks e C od)) h':=by
 have x:∀(b:Addr) (n:HO),H b=some n->(∀φ,n ≠ .ext φ)->b≠e:=λb n z k q=>by rw[q,B]at z;cases z;exact k _ rfl
 have nf:∀b n,H b=some n->b∉fs:=λb n z q=>by rw[E b q]at z;cases z
 intro b u z
 by_cases hb:b=e
 .subst hb;rw[pE]at z;cases z;refine ahK N.exc ?_ ?_ (Obj.data_mapFields t _)
  .rw[Obj.cls_mapFields];exact l
  .obtain⟨_,_,dt,_⟩:=o;cases dt <;> exact hd
 .rw[pe hb]at z;refine(ok b u z).stay (λs G l r=>N.keep s G ?_ ?_ r) (λs r=>?_) λs I r=>?_
  .rcases l with rfl|l
   .exact hb
   .exact x s _ l λφ w=>by cases w
  .rcases l with rfl|l
   .exact nf _ _ z
   .exact nf _ _ l
  .rw[pe (x s _ r λφ w=>by cases w)];exact r
  .rw[pe (x s _ r λφ w=>by cases w)];exact r
def HK(N:Ly fs e o T h h')(n:o.data = .fields vs)(t:1<vs.size):∃s l,h'.get? e=some s/\s.data = .fields l/\l[1]?=some (.ref T)/\LP h' l:=by
 obtain⟨u,x,z,B,E⟩:=N.ent;have q:(vs.setIfInBounds 1 (ag T))[1]?=some (.ref T):=by simp[t]
 exact⟨_,_,N.exc,Obj.data_mapFields n _,q,.inr ⟨T,u,x,q,z,B,E⟩⟩
def KC(q:LP h vs):1<vs.size:=by
 rcases q with q|⟨_,_,_,q,_⟩ <;> exact(aK.mp q).1
end
section
variable {K:Frag}
def xf:abC (Hm (Xs P w) P w K mg base N qual scope f cd A outer s H E) E:=by
 intro oA σ G J e C L o vs φ I R Y hc hd u S he;show ki (kf P w) (A.deeper (kH qual scope s.heap.objs.size f cd)) (ot (kH qual scope s.heap.objs.size f cd) (.ref e)) _ _ J;have fr:(A.deeper (kH qual scope s.heap.objs.size f cd)).frames=some (kH qual scope s.heap.objs.size f cd::outer):=I.ok.frames;have st:J.heap.FunFrames base (kH qual scope s.heap.objs.size f cd::outer):=I.stack;refine aja fr st rfl Y u S λh' T M=>?_
 have free:∀b∈(kH qual scope s.heap.objs.size f cd::outer).filterMap (·.frame),G b=none:=I.stkFree;have un:=QF (C:=C) (od:=L) M R;have ok:=Pd (P:=P) (w:=w) M R I.hok free hc hd u;obtain⟨o',O,g1,g2,g3,g4⟩:=HK M u (KC S);have B:Un (Rm outer) [] H G s.heap J.heap:=I.base;have nL:∀b l,s.heap.get? b=some l->b∉Rm outer->b∉(kH qual scope s.heap.objs.size f cd::outer).filterMap (·.frame):=λb l z nb m=>by
  rcases ah.mp (show b∈s.heap.objs.size::Rm outer from m)with q|q
  .rw[q]at z;exact absurd (ai z) (cV _)
  .exact nb q
 refine⟨e,C,L,ri G e (Ks e C L),o',O,rfl,I.os,I.bare,⟨λb l z n hb t=>un.keep b l (B.keep b l z n hb t) (B.free b l z n t) (nL b l z hb) t,λb l z n hb t=>?_,λb l z n t=>?_,λb l z t=>?_,λb U z=>un.tups b U (B.tups b U z),λb x X z=>un.frzs b x X (B.frzs b x X z),λb ps z=>?_⟩,ok,pE,g1,g2,g4,he⟩
 .obtain⟨sl,q⟩:=B.slot b l z n hb t;obtain⟨Q,q'⟩:=un.any q (B.free b l z n t) t;exact⟨Q,q'⟩
 .obtain⟨x,q⟩:=B.there b l z t;exact un.free b x q (B.free b l z n t) t
 .obtain⟨x,q⟩:=B.there b l z t;exact un.there b x q t
 .obtain⟨m1,e1⟩:=B.tbls b ps z;obtain⟨m2,e2⟩:=un.tbls b _ e1;exact⟨m1++m2,by rw[e2,jj]⟩
def qg:yR (Xs P w) (Hm (Xs P w) P w K mg base N qual scope f cd A outer s H E) E:=by
 intro u σ T U X x I h;obtain⟨e,C,B,G,o,J,rfl,os,bare,un,hok,l,n,hd,L,M⟩:=h;have O:=I.call' os un hok bare (λb z=>nomatch z)
 obtain⟨Y,Q,t,R,S,a4⟩:=FW hok l;rw[n]at t;cases t;exact xf u σ G x e C B o J _ O l n R S hd L (by rw[JJ l];exact M)
def okX{st}(F:AN K x qual st f fd)(S:oU N ps (oI st))(len:∀vs H Q E,sp vs H Q E->vs.length=ps.length)
  (l:∀n A outer s H vs Q E,tY k (A.deeper (kH qual (oI st) s.heap.objs.size f n))->sp vs H Q E ->
   ∃t,KJ (Hm (Xs P w) P w K mg base N qual (oI st) f n A outer s H E) (sS st) t/\t { nx:=λ_ B=>Q .non B,rt:=Q } (vm N vs) H):yT P w K mg base (Xs P w) (k+1) f fd ps sp:=by
 obtain⟨J,L,kV,G,pm,M,n,ct,I,rfl,lk,u⟩:=F.ex;exact af1 lk u S len λA outer s H vs Q E hr z=>l n A outer s H vs Q E hr z
end
def tRs(E:XK)(C:Addr)(te:TE):TS:=λ_ σ H=>te σ H λv l=>∃e od,v = .ref e/\l e=some (RY e C od)/\E (.ref e) od (ri l e (Ks e C od))
def zN(rf:Ref X.K c C M)(hl:abC X E)(J:X.calm=true)(L:PE X e te):PS X (.Raise (some e) none pos) (tRs E C te):=by
 intro u s σ H D I h;obtain⟨⟨N,O,bs,P,sub,Q,l,R,S,U,Y,k3,k5,hC⟩,_,T⟩:=zK rf.xc;rw[arm_exec_Raise];simp only[evalOpt,Option.map];refine kj (mN (Rx (C:=C) (nm:=c) (q:=O) (N:=N) (bs:=bs) (bm:=.ref M::Ad) (hdct:=true) (sn:=P) (sub:=sub) (ab:=Q) (col:=l) (dd:=R) (k0:=S) (k1:=U) (k2:=Y) (k3:=k3) (k5:=k5) (newId:= "ValueError.__new__") (by rw[bE,show Ad.contains (dQ "BaseException")=true by decide,eh]) (I.ok.hd J)
  (kj (kG (L u s σ H _ I h) (λv s3 h3=>kj (mN (kC ?_))) λ_ _ x=>x))))
 obtain⟨v',H1,n,r,t,z,rfl,B,hE⟩:=h3;obtain rfl:v=ag t:=r;obtain⟨t0,G⟩:=Od n.hok B;exact⟨t,t0,z,rfl,n.kIn _ _ hC,G,hl u σ H1 s3 t C z _ _ _ n B G rfl rfl rfl (.inl rfl) hE⟩
structure OO (P:kr)(w:kz)(K:Frag)(mg:Str->Υ)(base:Heap)(k:Nat)(x:Str)(st:Stmt)(ps:List Str)(sp:Sp)(f:Addr)(fd:ky):Prop where
 D:xN K mg x st ps f fd
 ok:yT P w K mg base (Xs P w) k f fd ps sp
noncomputable abbrev VS(X:Cx)(e:Addr):Cx:={ X with A:=X.A.mark (some (.ref e)),calm:=false,xe:=λ_ _=>False }
section
variable {σ:St}
def UV(I:qb X oA σ H s):qb (VS X e) oA σ H s:=
 ⟨⟨I.ok.mod,I.ok.kind,I.ok.glob,I.ok.blt,I.ok.above,I.ok.inj,I.ok.has,I.ok.cab,λz=>jx z,I.ok.frames,I.ok.stk,I.ok.exf,I.ok.bs,I.ok.bsz,I.ok.noex,I.ok.exfs,I.ok.funs,I.ok.frf⟩,I.os,I.bare,I.base,I.loc,I.cell,I.free,I.freeC,I.pin,I.hok,I.len⟩
def XX(ok:X.Ok)(I:qb (VS X e) oA σ H s):qb X oA σ H s:=⟨ok,I.os,I.bare,I.base,I.loc,I.cell,I.free,I.freeC,I.pin,I.hok,I.len⟩
def qb.gone{v:Υ}(I:qb X oA σ H s)(Q:X.N.Nodup)(hi:X.N[i]?=some n)
  (hm:∀(j:Nat) y G,X.N[j]?=some y->σ[j]?=some (some G)->Vis X.env.scope y->∃u,rK G u/\aj1 X.env s.heap m y u)
  (M:h'.Ns X.env.locals (λx=>if x=n then v else m x)) (l:eM X.env.locals s.heap h') (hn:s.heap.Ns X.env.locals m):qb X oA (σ.set i none) H { s with heap:=h',toks:=t' }:=by
 have B:i<σ.length:=by rw[I.len];exact(gSq.mp hi).1
 have cne:=I.cne;refine⟨I.ok,I.os,I.bare,⟨λb o e n hb E=>?_,λb o e n hb E=>?_,I.base.free,λb o e E=>?_,I.base.tups,I.base.frzs,I.base.tbls⟩,⟨_,M,λj y G t J R=>?_⟩,λy c e=>?_,I.free,I.freeC,λp S=>?_,λb T e=>?_,by simpa using I.len⟩
 .exact(l.2 b (aF (aJ (ai e) I.ok.above))).trans (I.base.keep b o e n hb E)
 .obtain⟨U,t⟩:=I.base.slot b o e n hb E;exact⟨U,(l.2 b (aF (aJ (ai e) I.ok.above))).trans t⟩
 .obtain⟨Y,t⟩:=I.base.there b o e E;exact⟨Y,(l.2 b (aF (aJ (ai e) I.ok.above))).trans t⟩
 .by_cases O:j=i
  .subst O;rw[aV B]at J;cases J
  .rw[aA (Ne.symm O)]at J;obtain⟨u',r',q⟩:=hm j y G t J R;refine⟨u',r',?_⟩;rcases q with⟨k,e⟩|⟨k,c,e,z⟩
   .refine .inl ⟨k,?_⟩;have:y≠n:=λe=>O (Kt Q t (e ▸ hi))
    simp[this,e]
   .exact .inr ⟨k,c,e,z.sameBut l (cne y c e)⟩
 .obtain⟨P,z⟩:=I.cell y c e;exact⟨P,z.sameBut l (cne y c e)⟩
 .obtain⟨e,n,ne,nf,d⟩:=I.pin p S;exact⟨(l.2 p.1 ne).trans e,n,ne,nf,d⟩
 .refine(I.hok b T e).stay (λc P L q=>(l.2 c ?_).trans q) (λ_ q=>q) λ_ _ q=>q
  rintro rfl;rcases L with z|L
  .rw[←z,I.free]at e;cases e
  .rw[I.free]at L;cases L
end
abbrev XH:=Addr->Addr->Option Addr->yQ->St->Hp->Prop
def PH(X:Cx)(u:List ExceptHandler)(x:XH):Prop:=∀l s (σ:St) H D e C od o (vs:Ω) T,qb X l σ H s->H e=some (Ks e C od) ->
 s.heap.get? e=some o->o.data = .fields vs->vs[1]?=some (.ref T)->(∃n t,s.heap.get? T=some n/\n.data = .fields t/\t[3]?=some .none)->x e C od D σ H ->
 ki (kf X.prog X.w) X.A (nh (.ref e) X.env u) (SP X l D) X.xe s
def hAs(K:Frag)(s:Addr)(i:Nat)(t:TS)(rest:XH):XH:=λe C od D σ H=>∃c M b,Ref K c C M/\mroIn K C (.ref s)=some b /\
 if b=true then t { nx:=λl n=>D.nx (l.set i none) n,rt:=D.rt,bk:=λl n=>D.bk (l.set i none) n,ct:=λl n=>D.ct (l.set i none) n } (σ.set i (some (.ref e))) H else rest e C od D σ H
def ajY:XH:=λ_ _ _ _ _ _=>False
section
variable {rest:List ExceptHandler}
def ai8{K}(X:K.In s.heap)(rf:Ref K c C Mp)(t:AJ K c' C' bm'=true)(l:bm'.contains (.type "BaseException")=true)(hb:mroIn K C (.ref C')=some b)
  (G:s.heap.get? e=some o) (H:o.cls = .ref C):Mt M e (.ref C') b s:=by
 obtain⟨⟨N,q',bs,sn,sub,ab,I,dd,k0,k1,k2,k3,k5,J⟩,⟨cd,u,hm,_⟩,_⟩:=zK rf.xc;obtain⟨⟨N',L,O,P,z,R,B,S,T,U,Y,k3',k5',x⟩,_,_⟩:=zK t;intro A Q E hq;obtain⟨hh,g,d,tk,os⟩:=s;refine Qx (X _ _ J) (X _ _ x) l G H ?_;unfold mroIn at hb;rw[u,dZ,hm]at hb;simp only[fA,cg,if_false,aY.injEq]at hb;rw[hb];exact hq
def afB(P:AJ X.K c' C' bm'=true)(x:bm'.contains (.type "BaseException")=true)(hm:X.mg c'=some (.ref C'))(hN:X.N.Nodup)(hi:X.N[i]?=some n)(hl:X.env.kindOf n=some .local)(hb:∀e,KJ (VS X e) (b₀::suite) tb)(hr:PH X rest tr)
  (hg:Gl X c':=by rfl) (R:(c' == ("__debug__" : Str))=false:=by decide):PH X (.ExceptHandler (some (.Name c' np)) (some n) (b₀::suite) pos::rest) (hAs X.K C' i tb tr):=by
 intro G s σ H D e C od o vs T I hA L hd h1 hT h;obtain⟨c,M,b,rf,E,h⟩:=h;obtain⟨o',vs',a1,a2,a3,a4⟩:=FW I.hok hA;rw[L]at a1;cases a1;have mt:Mt (kf X.prog X.w) e (.ref C') b s:=ai8 I.kIn rf P x E L a2;have ev:∀S:Value->kc->Prop,S (.ref C') s->ki (kf X.prog X.w) (X.A.mark (some (.ref e))) (eval (.Name c' np) X.env) S (λ_ _=>False) s:=λS q=>zg (X:=VS X e) (UV I) hg hm q R
 cases b with
 |false=>
  rw[qj ⋯]at h
  exact ajR mt ev (hr G s σ H D e C od o vs T I hA L hd h1 hT h)
 |true=>
  rw[qf rfl]at h;obtain⟨oT,ts,t1,t2,t3⟩:=hT;refine abb mt ev ?_;refine wpAny_setFlight_none L hd h1 t1 t2 (aK.mp t3).1 ?_;rw[gV s.heap T oT ts 3 .none t1 t2 t3];refine Gi (X:=VS X e) (v:=.ref e) (UV I) hN hi (.inl hl) rfl (λs3 I3=>?_) (.inr hl)
  refine uN (hb e G s3 _ H _ I3 h) λf s4 O=>?_
  have gone:∀{l:St}{t:Hp}{Q:Unit->kc->Prop},qb (VS X e) G l t s4->(∀B,qb X G (l.set i none) t B->Q () B)->ki (kf X.prog X.w) X.A (do bindName X.env n .none;nY X.env n pos) Q X.xe s4:=λ{l t Q} J k=>by
   obtain⟨m,hn,U⟩:=J.loc;refine wpAny_nameGoes_keeps hl hn (by show(X.env.scope.kind == .class || (X.env.scope.kind == .module && X.env.locals != X.env.globals))=false;rw[I.ok.kind];rfl) λh' v Y hs=>?_
   exact k _ (qb.gone (XX I.ok J) hN hi U Y hs hn)
  cases f with
  |next=>obtain⟨l,t,J,q⟩:=O;exact gone J λB z=>⟨_,t,z,q⟩
  |brk=>obtain⟨l,t,J,q⟩:=O;exact gone J λB z=>⟨_,t,z,q⟩
  |cont=>obtain⟨l,t,J,q⟩:=O;exact gone J λB z=>⟨_,t,z,q⟩
  |ret u=>obtain⟨v,l,t,J,r,q⟩:=O;exact gone J λB z=>⟨v,_,t,z,r,q⟩
def aaS:PH X [] ajY:=λ_ _ _ _ _ _ _ _ _ _ _ _ _ _ _ _ _ h=>h.elim
end
def X2{σ:St}(ok:yT X.prog X.w X.K X.mg X.base (Xs X.prog X.w) k f fd ps sp)(hb:qY X.K fd ps [])(hr:tY k X.A)
  (l:X.stack=X.env::X.outer) (U:X.env.frame=some X.env.locals) (hh:PH X (h₀::hs) th) (M:qb X n σ S s1) (r:qI vs us)
  (q:sp vs S Q λv _ H2=>∀e,v = .ref e->∃C od,H2 e=some (Ks e C od)/\th e C od D σ H2) (hQ:∀u s',EP X n σ Q u s'->QQ u s') :
  ki (kf X.prog X.w) X.A (call (.ref f) us) QQ (λe s=>ki (kf X.prog X.w) X.A (oq e X.env) (λ_ B=>ki (kf X.prog X.w) X.A (mK e none) (λ_ E=>
   ki (kf X.prog X.w) X.A (nh e X.env (h₀::hs)) (SP X n D) X.xe E) X.xe B) X.xe s) s1:=by
 have hl:us.length=ps.length:=by rw[←r.length];exact ok.len _ _ _ _ q
 refine lB (lH (ok.run X.A X.stack s1 S ⟨us,[]⟩ us vs Q _ hr M.env0 (by have:=hb s1 us M.kIn (by rw[aNq];exact hl);rw[aNq]at this;exact this) r q) λY s' G=>?_)
 cases Y with
 |ok fl=>
  cases fl with
  |ret u=>exact hQ u s' (M.after G)
  |next=>exact False.elim G
  |brk=>exact False.elim G
  |cont=>exact False.elim G
 |error ev=>
  obtain⟨e,C,od,H',o,vs',rfl,os,bare,un,hok,O,ho,hd,H,hE⟩:=G;have I:=M.call' os un hok bare (λb z=>nomatch z)
  obtain⟨o',vs'',a1,a2,a3,a4⟩:=FW hok O;rw[ho]at a1;cases a1;have fr:X.A.frames=some (X.env::X.outer):=by rw[←l];exact I.ok.frames
  have sk:s'.heap.FunFrames X.base (X.env::X.outer):=by rw[←l];exact I.stack
  refine ajd fr sk U ho hd H λh' T R=>?_
  have free:∀b∈(X.env::X.outer).filterMap (·.frame),H' b=none:=by
   have z:=I.stkFree;rw[l]at z;exact z
  have J:=QF (C:=C) (od:=od) R O;have L:=Pd (P:=X.prog) (w:=X.w) R O hok free a2 a3 hd;rw[JJ O]at J L;have I2:qb X n σ H' { s' with heap:=h' }:=I.call' (s':={ s' with heap:=h' }) rfl (by rw[l];exact J) L I.bare (λb z=>absurd z ⋯)
  obtain⟨o2,vs2,g1,g2,g3,g4⟩:=HK R hd (KC H);obtain⟨C2,od2,hA2,hth⟩:=hE e rfl;exact hh n _ σ H' D e C2 od2 o2 vs2 T I2 hA2 g1 g2 g3 R.ent hth
def afc(i:Nat)(sp:Sp)(t:TA)(th:XH):TS:=λD σ H=>t σ H λvs n=>sp vs n (λv l=>D.nx (σ.set i (some v)) l) λv _ l=>∀e,v = .ref e->∃C od,l e=some (Ks e C od)/\th e C od D σ l
def tXF(K:Frag)(ta:TE)(f:Str):TE:=λσ H Q=>ta σ H λx l=>∃e c C M s fs n,x = .ref e/\l e=some (Ks e C (some s))/\l s=some (.xd fs)/\Ref K c C M/\findIn K (.ref C) f=some none/\fs.lookup f=some (.int n)/\Q (.int n) l
def UC(Y:PE X o ta)(hb:lU o f X.env (eval o X.env)=eval o X.env):PE X (.Attribute o f pos) (tXF X.K ta f):=by
 intro oA s σ H Q I h;refine Tu hb (uN (Y oA s σ H _ I h) λu R G=>?_)
 obtain⟨x,S,B,rx,e,c,C,M,U,fs,n,ex,ea,ed,rf,nf,l,q⟩:=G;subst ex;obtain rfl:u=ag e:=rx;obtain⟨o',vs',a1,a2,a3,a4⟩:=FW B.hok ea;obtain⟨mA,J,E⟩:=(show sI X.prog X.w S R.heap U (.xd fs)from B.hok U _ ed)
 obtain⟨⟨N,q',bs,sn,sub,ab,col,dd,k0,k1,k2,k3,k5,hC⟩,_,T⟩:=zK rf.xc;have L:=rf.lks (Mo:=kf X.prog X.w) B.kIn;have LN:=looks_findIn (M:=kf X.prog X.w) B.kIn nf;have hr:=E f;rw[l]at hr;cases O:mA f with
 |none=>rw[O]at hr;exact hr.elim
 |some u=>
  rw[O]at hr;obtain⟨P,rfl⟩:=(show ∃P,u=gO n P from hr)
  obtain⟨hh,g,d,t,os⟩:=R;exact Wb (T _ B.kIn) (B.kIn _ _ hC) a1 a2 (λz w=>by rw[a4]at w;cases w) a3 LN L.ga L.gt J O rfl ⟨.int n,S,B.tok _,⟨P,rfl⟩,q⟩
def QK{K}(rf:Ref K c C M):KitX K (.ref e) (.ref C) (λh=>∃o vs,h.get? e=some o/\o.cls = .ref C/\o.dict=od/\o.data = .fields vs):=by
 obtain⟨⟨N,R,bs,S,sub,U,G,H,Y,k1,k2,k3,k5,l⟩,⟨cd,I,_,_⟩,T⟩:=zK rf.xc;refine⟨λJ h X ⟨o,vs,u,x,_⟩=>x ▸ (Looks.ld u).andThen .now,λJ h X _=>?_,λh O H P n sl X B=>?_,λ{prog w A E Q s} X ⟨o,vs,u,x,_⟩ hq=>?_⟩
 .intro A' Q' E' s' k q;unfold isType loadHead;exact kj (wpAny_loadPart (k _ _ (X _ _ l)) (kC q))
 .refine hU.mpr λq=>?_
  have e:C=O:=ag.inj (beq_iff_eq.mp q);subst e;have z:=congrArg (λo:Option Obj=>o.map (·.cls)) ((X _ _ l).symm.trans B)
  simp at z
 .have L:=rf.lks (Mo:=kf prog w) X;obtain⟨hh,g,d,t,os⟩:=s;exact Rl (T _ X) (X _ _ l) u x L.cl L.ga L.gt hq
noncomputable def M7:V->Υ
 | .ty n=>some (.type n)
 | .ref a=>some (.ref a)
 |_=>none
def agm(K:Frag):List V->Hp->VK->Prop:=λvs H Q=>∃e c C M od n b,vs=[.ref e,n]/\H e=some (Ks e C od)/\Ref K c C M /\
 ((∃u,M7 n=some u/\kitOne K (.ref C) u=some b)∨∃s l us,n = .ref s/\H s=some (.tup l)/\l.mapM M7=some us/\kitAny K (.ref C) us=some b)/\Q (.bl b) H
def QB(h:M7 v=some u)(r:rK v l):l=u:=by
 cases v <;> simp[M7]at h <;> (subst h;exact r)
theorem QJ:∀{l:List V}{us n:Ξ},l.mapM M7=some us->qI l n->n=us
 | [],us,n,h,r=>by cases r;simp at h;exact h.symm
 |v::l,us,n,h,r=>by
  cases r with
  |cons x z=>
   rw[jG]at h;cases s:M7 v with
   |none=>rw[s]at h;simp at h
   |some u=>
    cases t:l.mapM M7 with
    |none=>rw[s,t]at h;simp at h
    |some B=>
     rw[s,t]at h;simp at h;rw[←h,QB s x,QJ t z]
def Dg:uX X (.builtin "isinstance") (agm X.K):=by
 intro oA s σ H vs us Q I r h;obtain⟨e,c,C,M,od,cv,b,rfl,J,rf,hk,q⟩:=h;cases r with
 |cons L O=>
  cases O with
  |cons B P=>
   cases P;obtain rfl:=(show _=ag e from L)
   have a:=FW I.hok J;rcases hk with⟨u,R,hk⟩|⟨l,t,us,rfl,ht,x,hk⟩
   .obtain rfl:=QB R B;exact kia_one (QK rf) I.kIn a hk (λz=>nomatch z) λS=>⟨.bl b,H,I.tok _,rfl,q⟩
   .obtain rfl:=(show _=ag l from B)
    obtain⟨_,T,U,o,Y,E,n,G⟩:=(show sI X.prog X.w H s.heap l (.tup t)from I.hok l _ ht)
    obtain rfl:=QJ x U;obtain⟨oc,od',oda,osl⟩:=o;dsimp only at E G;subst E G;exact kia_tup (QK rf) I.kIn a Y hk (λz=>nomatch z) λS=>⟨.bl b,H,I.tok _,rfl,q⟩
noncomputable def Iti(o:Obj)(d:Addr)(l:List (qM×V)):It:=
  ⟨λi H=>H d=some (.frz o (.dK l))/\∃p,l[i]?=some p,
   λi H x n=>∃T p,H T=none/\x = .ref T/\n=ri H T (.tup [kV p.1,p.2])/\l[i]?=some p,
   λi H=>H d=some (.frz o (.dK l))/\l.length<=i⟩
def kv_get{l:List (qM×V)}(r:KV l vs):∀{i:Nat}{p},l[i]?=some p->∃u,vs[i]?=some (p.1,u)/\rK p.2 u:=by
 induction r with
 |nil=>intro i p h;simp at h
 | @cons a b _ _ r t n=>
  intro i p h;cases i with
  |zero=>simp at h;subst h;exact⟨b.2,by simp[r.1],r.2⟩
  |succ i=>obtain⟨u,s,g2⟩:=n (by simpa using h);exact⟨u,by simpa using s,g2⟩
def Rn{K:Frag}o d n R vs ep(hne:d≠n)
  (ho:∀h:Heap,h.get? d=some o->h.DictAt (uj P w) d vs ep) (kv:KV R vs):Pc P w K (.Tuple J kk pos) (Iti o d R) [n] n (λi h=>∃ok G,IsItemIter h n d i vs.length ep ok G) where
 mem:=by simp
 obj:=λi h st b hb=>by
  have e:b=n:=by simpa using hb
  subst e;obtain⟨ok,G,e⟩:=st;exact⟨_,e,λv z=>by
   have z':Data.fields _=Data.cell v:=z;cases z'⟩
 keep:=λi h h' st k=>by
  obtain⟨ok,G,e⟩:=st;exact⟨ok,G,k n ⋯ _ e⟩
 item:=by
  intro X U hw Y hc i oA s σ H E I S st hg;subst U hw Y;obtain⟨hd,p,hp⟩:=hg;obtain⟨ok,G,x⟩:=st;have e1:s.heap.get? d=some o:=(show sI X.prog X.w H s.heap d (.frz o (.dK R))from I.hok d _ hd).1
  obtain⟨u,hx,ru⟩:=kv_get kv hp;have L:n<s.heap.objs.size:=ai x;have hn:H s.heap.objs.size=none:=I.hok.fresh (ae _);refine wpAny_pyNext_items_item x (ho _ e1) hx λkey h1 M O ht hsz hk=>⟨_,rfl,?_⟩
  refine wpAny_letOwnedTupleGo_items O λh2 Q B=>?_
  replace B:eM n h1 h2:=B;have rk:rK (kV p.1) key:=by
   rcases tK M with⟨j,t,e,rfl⟩|⟨z,t,e,rfl⟩
   .rw[e];exact⟨t,rfl⟩
   .rw[e];exact⟨t,rfl⟩
  refine⟨.ref s.heap.objs.size,ri H s.heap.objs.size (.tup [kV p.1,p.2]),?_,rfl,⟨_,p,hn,rfl,rfl,hp⟩,⟨_,_,Q⟩,λb hb=>?_⟩
  .show L2.qb X oA σ _ { s with heap:=h2,toks:=s.toks }
   refine OY (s:=s) (fp:=[n]) I (λb T hb q=>?_) S (ae _) ⟨by simp only[lCq,cO];rw[kL];decide,[key,u],.cons rk (.cons ru .nil),_,B.extBut _ _ (ef L) ht,rfl,_,rfl⟩
   have b1:b≠n:=λz=>hb (by simp[z])
   exact B.extBut b T b1 (hk b T b1 q)
  .have e:b=n:=by simpa using hb
   subst e;rw[pe (aF L)];exact(S b hb).1
 done:=by
  intro X U hw Y hc i oA s σ H E I S st hg;subst U hw Y;obtain⟨hd,hl⟩:=hg;obtain⟨ok,G,x⟩:=st;have e1:s.heap.get? d=some o:=(show sI X.prog X.w H s.heap d (.frz o (.dK R))from I.hok d _ hd).1
  have l:=Paired.length kv;exact wpAny_pyNext_items_end (I.ok.hd hc) x (ho _ e1) (bJ ∅) λh1 eb=>⟨rfl,TU (t':=s.toks) (fp:=[n]) I (λb T hb q=>eb b T (λz=>hb (by simp[z])) q) S⟩
 self:=λ_ _ _ _ _ st h=>by
  obtain⟨ok,G,e⟩:=st;exact kcp_self e h
def Zz(te:TE):TI:=λσ H R=>te σ H λx n=>∃d l,x = .ref d/\n d=some (.dK l)/\∀o,R (Iti o d l) (ri n d (.frz o (.dK l)))
def aao(ho:PE X o te)(B:lU o "items" X.env (eval o X.env)=eval o X.env:=by rfl)(E:(t.endLine == z.line)=true:=by rfl) :
  PI X (.Tuple L kk M) (.Call (.Attribute o "items" t) [] [] z) (Zz te):=by
 intro oA s σ H R I h;refine nq B E (uN (ho oA s σ H _ I h) λv l Y=>?_)
 obtain⟨x,H1,S,r1,d,T,ex,ha,q⟩:=Y;subst ex;obtain rfl:=(show v=ag d from r1)
 obtain⟨hz,sa,G,kv,O⟩:=(show sI X.prog X.w H1 l.heap d (.dK T)from S.hok d _ ha)
 refine⟨"dict","dict.items", PySem.F.plainAttrs_dict,ip,PySem.F.type_dict_items,O.typeIs,O.mapOf.noDict,?_⟩;refine method_meetsIn ip PySem.F.entry_dict_items rfl (PySem.evalArgs_none ⟨rfl,O.typeIs,PySem.F.args_dict_items_1 _,_,meets_dict_items _ d sa,⟨G,O⟩,?_⟩);obtain⟨U,J,es,n,rest⟩:=O.dictAt;have da:∀h:Heap,h.get? d=some J->h.DictAt (uj X.prog X.w) d G U:=λh e=>⟨J,es,e,rest⟩
 have P:d<l.heap.objs.size:=ai n;refine wpAny_pyIter_items (s:={ l with heap:=l.heap.push { cls:=.type "dict_items", data:=.fields #[.ref d] } }) ⟨_,bf _ rfl,rfl,rfl⟩ (da _ (aa _ n)) ?_
 have kp:∀b u,l.heap.get? b=some u->((l.heap.push { cls:=.type "dict_items", data:=.fields #[.ref d] }).push { cls:=.type "dict_itemiterator", data:=.fields #[.none,.bool false,.ref d,.int 0 0,.int G.length 0,.int U 0,.none,.none] }).get? b=some u:=λb u e=>aa _ (aa _ e)
 have Q:(l.heap.push { cls:=.type "dict_items", data:=.fields #[.ref d] }).objs.size=l.heap.objs.size+1:=eJ ..;have I2:L2.qb X oA σ (ri H1 d (.frz J (.dK T))) { l with heap:=((l.heap.push { cls:=.type "dict_items", data:=.fields #[.ref d] }).push { cls:=.type "dict_itemiterator", data:=.fields #[.none,.bool false,.ref d,.int 0 0,.int G.length 0,.int U 0,.none,.none] }) }:=
  (S.kept (t':=l.toks) kp).write (x:=d) (e:=d) (o:=.frz J (.dK T)) (t':=l.toks) (by rw[ha];trivial) (.inl rfl) (λb u _ e=>e) ⟨_,kp _ _ n⟩ ⟨kp _ _ n,hz,sa,G,kv,(da _ (kp _ _ n)).dictOf⟩
 refine⟨l.heap.objs.size+1,[l.heap.objs.size+1],_,_,_,by rw[Q],I2,Rn J d _ T G U (aF (bW P)) da kv,⟨.none,.none,?_⟩,λb hb=>?_,q J⟩
 .show(((l.heap.push _).push _).get? (l.heap.objs.size+1))=_;rw[←Q];exact bf _ rfl
 .have e:b=l.heap.objs.size+1:=by simpa using hb
  subst e;exact S.fpOk (bP _) (by rw[pe (ef (bW P))];exact S.hok.fresh (bP _))
end Xe
namespace Xe
open PySem
section
variable {os:ox}
variable {bs bm:Ξ}{sub:Ξ}{k0 k1 k2 k3 k5:Υ}
def Ik(T:kT h Ad bm){rest:Ξ}
  (s:h.get? C=some (kJ nm q C N bs bm hdct sn sub ab col dd k0 k1 k2 k3 k5 "ValueError.__new__"))
  (hi:Lk (kf prog w) h (kE (.ref C) "__init__") (some (.builtin "ValueError.__init__")))
  (z:∀h' e,gA h h' e (.ref C) rest->h.objs.size<=e->Q (.done (.ret (.ref e))) ⟨h',g,d,t,os⟩) (hrest:rest.length<=ku) :
  ki (kf prog w) A (Builtin.«type.__call__» ⟨.ref C::rest,[]⟩) Q E ⟨h,g,d,t,os⟩:=by
 have F:=eP
 repeat (first|with_reducible refine kA s ?_|with_reducible refine wpAny_madeBy_exc s ?_|wp_step)
 refine mU (Code.quiet_builtin _ F.quiet) (nX F T s ?_);refine og F T s ?_ hrest;show ki _ _ _ _ _ _;have l:=aa { cls:=.ref C,data:=.fields #[.ref h.objs.size,.none,.none,.none,.bool false,.none] }
  (aa { cls:=.type "tuple", data:=.seq rest.toArray } s)
 have n:((h.push { cls:=.type "tuple", data:=.seq rest.toArray }).push
   { cls:=.ref C,data:=.fields #[.ref h.objs.size,.none,.none,.none,.bool false,.none] }).get? (h.objs.size+1)=some
   { cls:=.ref C,data:=.fields #[.ref h.objs.size,.none,.none,.none,.bool false,.none] }:=by heap_get
 have x:(ag C::bm).contains (.ref C)=true:=by simp
 have B:∀b o,h.get? b=some o->((h.push { cls:=.type "tuple", data:=.seq rest.toArray }).push { cls:=.ref C,data:=.fields #[.ref h.objs.size,.none,.none,.none,.bool false,.none] }).get? b=some o:=λb o e=>aa _ (aa _ e)
 have u:=T.keeps (h':=(h.push { cls:=.type "tuple", data:=.seq rest.toArray }).push { cls:=.ref C,data:=.fields #[.ref h.objs.size,.none,.none,.none,.bool false,.none] })
  λb o e=>aa _ (aa _ e)
 unfold mV
 repeat (first|with_reducible refine kA n ?_|(with_reducible refine kK l ?_;rw[x])|wp_step)
 show ki _ _ (kE (.ref C) _) _ _ _;refine hi _ _ _ _ B ?_;refine mO (kj (wpAny_of_eq (F.init.bind _) ?_));refine kj (lB (kP F.init.plain F.initEntry (nP F u l n rfl ?_)))
 wp_walk
 refine z _ _ ⟨λb o hb=>?_,cI (bP _),h.objs.size+2,?_,cI ∅,?_⟩ (bP _)
 .rw[bO _ _ (ef (bW (ai hb)))];exact aa _ (aa _ (aa _ hb))
 .rw[dr _ (aa _ n) rfl];simp only[eJ];rfl
 .rw[bO _ _ (show h.objs.size+1≠h.objs.size+2 by lia)]
  exact gY (by simp only[eJ]) rfl
def RW(T:kT h Ad bm){rest:Ξ}
  (l:h.get? C=some (kJ nm q C N bs bm hdct sn sub ab col dd k0 k1 k2 k3 k5 "ValueError.__new__"))
  (hi:Lk (kf prog w) h (kE (.ref C) "__init__") (some (.builtin "ValueError.__init__")))
  (n:∀h' e,gA h h' e (.ref C) rest->h.objs.size<=e->Q (.ref e) ⟨h',g,d,t,os⟩) (hrest:rest.length<=ku) :
  ki (kf prog w) A (call (.ref C) rest) Q E ⟨h,g,d,t,os⟩:=by
 have u:=tc_lookup;have x:=tc_bind (.ref C);have z:(⟨h,g,d,t,os⟩:kc).TypeIs (.ref C) "type" := ⟨_,l,rfl⟩;refine lB (codeAny_of_tree ?_);show ki _ _ (callAny (.ref C) _) _ _ _
 repeat (any_goals (first|assumption|with_reducible refine kA l ?_|wp_step))
 refine⟨rfl,?_⟩;refine nr (Code.quiet_builtin _ (by trivial)) entry_typeCall (mS l (Ik (hrest:=hrest) T l hi λh' e hm s=>?_))
 exact n h' e hm s
end
end Xe
namespace Xe
open PySem PySem.Spec PySem.W PyProof.Rows L2 Mr
def ai7(K:Frag)(c:Str):TE:=λ_ H Q=>∃C M,Ref K c C M/\∀e,H e=none->Q (.ref e) (ri H e (RY e C none))
structure ajb (K:Frag)(mg:Str->Υ)(c:Str)(C M:Addr):Prop where
 rf:Ref K c C M
 ini:findIn K (.ref C) "__init__" = some (some (.builtin "ValueError.__init__"))
 kp:keepIn K (.ref C)=true
 m:mg c=some (.ref C)
def OF(G:ajb X.K X.mg c C M)(u:Gl X c:=by rfl)(l:(c == ("__debug__" : Str))=false:=by decide):PE X (.Call (.Name c p) [] [] pos) (ai7 X.K c):=by
 intro J s σ H Q I h;refine kO (zg I u G.m ?_ l);refine W.callWith_K0 I.kIn G.kp ?_;obtain⟨L,O,n,q⟩:=h;obtain⟨rfl,rfl⟩:=G.rf.one n;obtain⟨⟨N,P,bs,R,sub,S,x,U,Y,k1,k2,k3,k5,z⟩,_,T⟩:=zK G.rf.xc;obtain⟨hh,g,d,B,os⟩:=s;refine RW (rest:=[]) (T _ I.kIn) (I.kIn _ _ z) (looks_findIn I.kIn G.ini) (λh' e hm t=>?_) (by rw[kL];simp)
 obtain⟨t0,E,_,_⟩:=hm.there;exact⟨.ref e,_,I.laid (t':=B) hm.keeps t (NI E),rfl,q e (I.hok.fresh t)⟩
end Xe
namespace Mr
open PySem PyProof.Rows L2
section
variable {X:Cx}
def Zq(_ j:Int):Prop:=0<j/\j.natAbs.log2<9000
def aaM:Ip X (lG .FloorDiv) (rI Zq λi j=>.int (i / j)):=opI λi j _ _ _ _ _ l q=>by
 have n:=l.1;exact floordiv_int ∅ (by rw[gI i ∅];exact q) (.inl (PyProof.noPylong_of_log2 l.2))
end
end Mr
namespace Mr
open PySem PySem.Calls PySem.Spec PyProof.Rows L2
def aiB(K:Ζ)(x:V)(H:Hp)(T:String):Prop:=match x with
 | .int _=>T = "list" ∨ T = "tuple" ∨ T = "str"
 | .str _=>T = "list" ∨ T = "tuple"
 | .non=>T = "list" ∨ T = "tuple"
 | .ref p=>(T = "tuple" /\ ∃xs,uO K H p xs)∨(T = "list" /\ ∃xs,GW K H p xs)
 |_=>False
def wD:uX X (.builtin "isinstance") (λxs H Q=>∃x T,xs=[x,.ty T]/\aiB X.K x H T/\Q (.bl false) H):=by
 intro l s σ H xs us Q I r h;obtain⟨x,T,rfl,e,q⟩:=h;obtain⟨u,v,rfl,n,E⟩:=TB r;cases E;cases x with
 |int i=>
  obtain⟨t,rfl⟩:=n;rcases e with rfl|rfl|rfl
  .exact kF (lL (by trivial) F.isi_meta_list F.sub_int_list) (show EP X l σ Q (.bool false) { s with toks:=s.toks+1 } from ⟨.bl false,H,I.tok _,rfl,q⟩)
  .exact kF (lL (by trivial) F.isi_meta_tuple F.sub_int_tuple) (show EP X l σ Q (.bool false) { s with toks:=s.toks+1 } from ⟨.bl false,H,I.tok _,rfl,q⟩)
  .exact kF (lL (by trivial) F.isi_meta_str F.sub_int_str) (show EP X l σ Q (.bool false) { s with toks:=s.toks+1 } from ⟨.bl false,H,I.tok _,rfl,q⟩)
 |str i=>
  obtain⟨t,rfl⟩:=n;rcases e with rfl|rfl
  .exact kF (oa (by trivial) F.isi_meta_list F.sub_str_list) (show EP X l σ Q (.bool false) { s with toks:=s.toks+1 } from ⟨.bl false,H,I.tok _,rfl,q⟩)
  .exact kF (oa (by trivial) F.isi_meta_tuple F.sub_str_tuple) (⟨.bl false,H,I.tok _,rfl,q⟩)
 |non=>
  cases n;rcases e with rfl|rfl
  .exact kF (nQ (by trivial) F.isi_meta_list F.sub_NoneType_list) (⟨.bl false,H,I.tok _,rfl,q⟩)
  .exact kF (nQ (by trivial) F.isi_meta_tuple F.sub_NoneType_tuple) (⟨.bl false,H,I.tok _,rfl,q⟩)
 |ref p=>
  cases n;rcases e with⟨rfl,xs,z⟩|⟨rfl,xs,z⟩
  .obtain⟨B,G,J,L⟩:=I.list z;exact kF (isinstance_false_list (by trivial) F.isi_meta_tuple F.sub_list_tuple) ⟨J.isList.typeIs,⟨.bl false,H,I.tok _,rfl,q⟩⟩
  .obtain⟨B,G,⟨o,M,O,_⟩,L⟩:=I.tuple z;exact kF (isinstance_false_tuple (by trivial) F.isi_meta_list F.sub_tuple_list) ⟨⟨o,M,O⟩,⟨.bl false,H,I.tok _,rfl,q⟩⟩
 |_=>exact(e).elim
end Mr
namespace Z
open PySem L2 Mr
abbrev St:=L2.St
inductive D where
 |non|bl (b:Bool)|int (i:Int)|str (x:Str)|ty (n:String)|list (xs:List D)|tup (xs:List D)|dict (oX:List (qM×D))|scr (ns:Ϝ)|exc (c:Str) (fs:List (Str×Int))|cls (c:Str)|fd (oX:List (qM×D))|ins (c:Str) (fs:List (Str×D))
inductive ug (K:Ζ)(H:Hp):D->V->Prop
 |non:ug K H .non .non
 |bl {b:Bool}:ug K H (.bl b) (.bl b)
 |int {i:Int}:ug K H (.int i) (.int i)
 |str {x:Str}:ug K H (.str x) (.str x)
 |ty {n:String}:ug K H (.ty n) (.ty n)
 |list {p:Addr}{vs:List V}{ds:List D}(h:H p=some (.lst vs)) (l:ds.length=vs.length) (e:∀(i:Nat) (d:D) (v:V),ds[i]?=some d->vs[i]?=some v->ug K H d v):ug K H (.list ds) (.ref p)
 |tup {p:Addr}{vs:List V}{ds:List D}(h:H p=some (.tup vs)) (l:ds.length=vs.length) (e:∀(i:Nat) (d:D) (v:V),ds[i]?=some d->vs[i]?=some v->ug K H d v):ug K H (.tup ds) (.ref p)
 |dict {p:Addr}{oX:List (qM×V)}{ds:List (qM×D)}(h:H p=some (.dK oX)) (l:ds.map (·.1)=oX.map (·.1)) (e:∀(i:Nat) (d:qM×D) (v:qM×V),ds[i]?=some d->oX[i]?=some v->ug K H d.2 v.2):ug K H (.dict ds) (.ref p)
 |scr {p:Addr}{ns:Ϝ}(h:uO K H p (ns.map V.int)):ug K H (.scr ns) (.ref p)
 |exc {c:Str}{fs:List (Str×Int)}{e C M dx:Addr}(rf:Xe.Ref K c C M) (nf:∀p∈fs,W.findIn K (.ref C) p.1=some none) (h:H e=some (Xe.Ks e C (some dx))) (hx:H dx=some (.xd (fs.map λp=>(p.1,V.int p.2)))):ug K H (.exc c fs) (.ref e)
 |exc0 {c:Str}{e C M:Addr}(rf:Xe.Ref K c C M) (h:H e=some (Xe.Ks e C none)):ug K H (.exc c []) (.ref e)
 |cls {c:Str}{C:Addr}(h:Xe.IsC K c C):ug K H (.cls c) (.ref C)
 |fd {p:Addr}{o:Obj}{oX:List (qM×V)}{ds:List (qM×D)}(h:H p=some (.frz o (.dK oX))) (l:ds.map (·.1)=oX.map (·.1)) (e:∀(i:Nat) (d:qM×D) (v:qM×V),ds[i]?=some d->oX[i]?=some v->ug K H d.2 v.2):ug K H (.fd ds) (.ref p)
 |ins {c:Str}{a C dx:Addr}{gs:List (Str×V)}{fs:List (Str×D)}(rf:W.nsIn K ko c=some (some (.ref C))) (h:H a=some (.ins C dx gs)) (l:fs.map (·.1)=gs.map (·.1)) (e:∀(i:Nat) (d:Str×D) (v:Str×V),fs[i]?=some d->gs[i]?=some v->ug K H d.2 v.2):ug K H (.ins c fs) (.ref a)
def sq(K:Ζ)(H:Hp)(ds:List D)(vs:List V):Prop:=ds.length=vs.length/\∀(i:Nat) d v,ds[i]?=some d->vs[i]?=some v->ug K H d v
def xD(K:Ζ)(H:Hp)(ds:List (qM×D))(l:List (qM×V)):Prop:=ds.map (·.1)=l.map (·.1)/\∀(i:Nat) d v,ds[i]?=some d->l[i]?=some v->ug K H d.2 v.2
def ug.mono(h:ug K H d v)(s:qO H H'):ug K H' d v:=by
 induction h with
 |non=>exact .non
 |bl=>exact .bl
 |int=>exact .int
 |str=>exact .str
 |ty=>exact .ty
 |list h l _ n=>exact .list (s _ _ h) l n
 |tup h l _ n=>exact .tup (s _ _ h) l n
 |dict h l _ n=>exact .dict (s _ _ h) l n
 |scr h=>exact .scr (s.seq h)
 |exc rf nf h t=>exact .exc rf nf (s _ _ h) (s _ _ t)
 |exc0 rf h=>exact .exc0 rf (s _ _ h)
 |cls h=>exact .cls h
 |fd h l _ n=>exact .fd (s _ _ h) l n
 |ins rf h l _ n=>exact .ins rf (s _ _ h) l n
theorem sq.mono(h:sq K H ds vs)(s:qO H H'):sq K H' ds vs:=⟨h.1,λi d v a b=>(h.2 i d v a b).mono s⟩
theorem xD.mono(h:xD K H ds vs)(s:qO H H'):xD K H' ds vs:=⟨h.1,λi d v a b=>(h.2 i d v a b).mono s⟩
def sq.nil:sq K H [] []:=⟨rfl,λi d v a=>by simp at a⟩
def sq.cons(h:ug K H d v)(t:sq K H ds vs):sq K H (d::ds) (v::vs):=⟨by simp[t.1],λi e w a b=>by
 cases i with
 |zero=>
  simp at a b;subst a b;exact h
 |succ i=>exact t.2 i e w (by simpa using a) (by simpa using b)⟩
def sq.cons_iff:sq K H (d::ds) (v::vs)↔ug K H d v/\sq K H ds vs:=
 ⟨λh=>⟨h.2 0 d v rfl rfl,by have:=h.1;simpa using this,λi e w a b=>h.2 (i+1) e w (by simpa using a) (by simpa using b)⟩,λh=>.cons h.1 h.2⟩
def sq.nil_inv(h:sq K H [] vs):vs=[]:=by
 have:=h.1;cases vs with
 |nil=>rfl
 |cons _ _=>simp at this
def sq.cons_inv(h:sq K H (d::ds) vs):∃v l,vs=v::l/\ug K H d v/\sq K H ds l:=by
 cases vs with
 |nil=>have:=h.1;simp at this
 |cons v l=>exact⟨v,l,rfl,sq.cons_iff.mp h⟩
theorem sq.append:∀{ds l}{vs n},sq K H ds vs->sq K H l n->sq K H (ds++l) (vs++n)
 | [],l,vs,n,h,g=>by rw[h.nil_inv];exact g
 |d::ds,l,vs,n,h,g=>by
  obtain⟨v,us,rfl,s,t⟩:=h.cons_inv;exact .cons s (sq.append t g)
theorem sq.take(h:sq K H ds vs)n:sq K H (ds.take n) (vs.take n):=⟨by rw[lTq,lTq,h.1],λi d v a b=>by
 rw[List.getElem?_take]at a b;split at a
 .rename_i hi;rw[qf hi]at b;exact h.2 i d v a b
 .cases a⟩
theorem sq.drop(h:sq K H ds vs)n:sq K H (ds.drop n) (vs.drop n):=⟨by rw[aC,aC,h.1],λi d v a b=>by
 rw[dm]at a b;exact h.2 _ d v a b⟩
def sq.get(h:sq K H ds vs){i:Nat}(e:ds[i]?=some d):∃v,vs[i]?=some v/\ug K H d v:=by
 have hi:=(gSq.mp e).1;have l:=h.1 ▸ hi;exact⟨vs[i],gEg l,h.2 i d _ e (gEg l)⟩
def sq.get'(h:sq K H ds vs){i:Nat}(e:vs[i]?=some v):∃d,ds[i]?=some d/\ug K H d v:=by
 have hi:=(gSq.mp e).1;have l:=h.1.symm ▸ hi;exact⟨ds[i],gEg l,h.2 i _ v (gEg l) e⟩
def ug.list_inv(h:ug K H (.list ds) v):∃p vs,v = .ref p/\H p=some (.lst vs)/\sq K H ds vs:=by
 cases h with
 |list h l e=>exact⟨_,_,rfl,h,l,e⟩
def ug.tup_inv(h:ug K H (.tup ds) v):∃p vs,v = .ref p/\H p=some (.tup vs)/\sq K H ds vs:=by
 cases h with
 |tup h l e=>exact⟨_,_,rfl,h,l,e⟩
def ug.dict_inv(h:ug K H (.dict ds) v):∃p n,v = .ref p/\H p=some (.dK n)/\xD K H ds n:=by
 cases h with
 |dict h l e=>exact⟨_,_,rfl,h,l,e⟩
def ug.mk_tup(h:H p=some (.tup vs))(r:sq K H ds vs):ug K H (.tup ds) (.ref p):=.tup h r.1 r.2
def ug.mk_dict(h:H p=some (.dK vs))(r:xD K H ds vs):ug K H (.dict ds) (.ref p):=.dict h r.1 r.2
noncomputable def D.scal:D->Bool
 | .non=>true
 | .bl _=>true
 | .int _=>true
 | .str _=>true
 | .ty _=>true
 |_=>false
theorem ug.scal(h:ug K H d v)(s:d.scal=true):ug K l d v:=by
 cases h with
 |non=>exact .non
 |bl=>exact .bl
 |int=>exact .int
 |str=>exact .str
 |ty=>exact .ty
 |_=>cases s
inductive AV where
 |sh (d:D)|ow (avs:List AV)|owd (oX:List (qM×D))|owl (oX:List (qM×Ϝ))
abbrev i0(x:Int):Option AV:=some (.sh (.int x))
abbrev i3(x:List D):Option AV:=some (.sh (.list x))
noncomputable abbrev i4(x:Bool):Option AV:=some (.sh (.bl x))
mutual
def pD:AV->D
 | .sh d=>d
 | .ow l=>.list (Kz l)
 | .owd n=>.dict n
 | .owl n=>.dict (n.map λx=>(x.1,.list (x.2.map .int)))
def Kz:List AV->List D
 | []=>[]
 |a::as=>pD a::Kz as
end
theorem Lr:∀l:List AV,Kz l=l.map pD
 | []=>by simp[Kz]
 |a::as=>by simp[Kz,Lr as]
@[simp] theorem Ky d:pD (.sh d)=d:=by simp[pD]
@[simp] theorem vi l:pD (.ow l) = .list (l.map pD):=by simp[pD,Lr]
@[simp] theorem V6 l:pD (.owd l) = .dict l:=by simp[pD]
inductive rG (K:Ζ)(Hf H:Hp):AV->V->Δ->Prop
 |sh {d:D}{v:V}(r:ug K Hf d v):rG K Hf H (.sh d) v []
 |ow {p:Addr}{vs:List V}{avs:List AV}{Fs:List Δ}(h:H p=some (.lst vs)) (n:Hf p=none) (l:avs.length=vs.length) (lf:avs.length=Fs.length)
   (e:∀(i:Nat) (a:AV) (v:V) (F:Δ),avs[i]?=some a->vs[i]?=some v->Fs[i]?=some F->rG K Hf H a v F):rG K Hf H (.ow avs) (.ref p) (p::Fs.flatten)
 |owd {p:Addr}{oX:List (qM×V)}{ds:List (qM×D)}(h:H p=some (.dK oX)) (n:Hf p=none) (r:xD K Hf ds oX):rG K Hf H (.owd ds) (.ref p) [p]
 |owl {p:Addr}{oX:List (qM×Ϝ)}{qs:Δ}(h:H p=some (.dK (jO (λx q=>(x.1,V.ref q)) oX qs))) (n:Hf p=none) (l:oX.length=qs.length) (e:∀(i:Nat) (q:Addr) (x:qM×Ϝ),qs[i]?=some q->oX[i]?=some x->H q=some (.lst (x.2.map V.int))/\Hf q=none):rG K Hf H (.owl oX) (.ref p) (p::qs)
def U0{n:List (qM×Ϝ)}{qs:Δ}(h:H p=some (.dK (jO (λx q=>(x.1,V.ref q)) n qs)))(l:n.length=qs.length)(e:∀(i:Nat) q x,qs[i]?=some q->n[i]?=some x->H q=some (.lst (x.2.map V.int))):ug K H (.dict (n.map λx=>(x.1,.list (x.2.map .int)))) (.ref p):=by
 refine .dict h ?_ λi d v t s=>?_
 .refine fu λi=>?_
  rw[gMq,gMq,gMq,iG]
  by_cases c:i<n.length
  .rw[gEg c,gEg (l ▸ c)];rfl
  .rw[bJ (jw c)];rfl
 .rw[gMq]at t;rw[iG]at s;cases hk:n[i]? with
  |none=>rw[hk]at t;cases t
  |some x=>
   cases z:qs[i]? with
   |none=>rw[hk,z]at s;cases s
   |some q=>
    rw[hk]at t s;rw[z]at s;cases t;cases s;refine .list (e i q x z hk) (by rw[lMq,lMq]) λj d v u B=>?_
    rw[gMq]at u B;cases E:x.2[j]? with
    |none=>rw[E]at u;cases u
    |some m=>
     rw[E]at u B;cases u;cases B;exact .int
def aiE{n:List (qM×Ϝ)}{qs:Δ}(l:n.length=qs.length)(s:q∈qs):∃(i:Nat) (x:qM×Ϝ),qs[i]?=some q/\n[i]?=some x:=by
 obtain⟨i,hi⟩:=bK.mp s;have hl:=(gSq.mp hi).1;exact⟨i,_,hi,gEg (l ▸ hl)⟩
def rG.owned(h:rG K Hf H av v F):∀q∈F,H q≠none/\Hf q=none:=by
 induction h with
 |sh _=>intro q s;cases s
 | @ow p u t B h n l O e E=>
  intro q s;rcases ah.mp s with rfl|s
  .exact⟨by rw[h];simp,n⟩
  .obtain⟨F,G,s⟩:=mFq.mp s;obtain⟨i,hi,rfl⟩:=cJ.mp G;exact E i t[i] u[i] B[i] ⋯ ⋯ ⋯ q s
 |owd h n r=>
  intro q s;have:=mSq.mp s;subst this;exact⟨by rw[h];simp,n⟩
 |owl h n l e=>
  intro q s;rcases ah.mp s with z|z
  .rw[z];exact⟨by rw[h];simp,n⟩
  .obtain⟨i,x,I,J⟩:=aiE l z;obtain⟨L,M⟩:=e i q x I J;exact⟨by rw[L];simp,M⟩
def rG.keep(h:rG K Hf H av v F)(s:qO Hf Hf')(hk:∀q∈F,H' q=H q)(hn:∀q∈F,Hf' q=none):rG K Hf' H' av v F:=by
 induction h with
 |sh r=>exact .sh (r.mono s)
 | @ow p J E L h n l G e I=>
  refine .ow (by rw[hk p ⋯];exact h) (hn p ⋯) l G λi a v F t u z=>I i a v F t u z (λq B=>hk q ?_) λq B=>hn q ?_
  all_goals exact mCo _ (mFq.mpr ⟨F,mGq z,B⟩)
 |owd h n r=>exact .owd (by rw[hk _ ⋯];exact h) (hn _ ⋯) (r.mono s)
 | @owl p M qs h n l e=>
  refine .owl (by rw[hk _ (aq ..)];exact h) (hn _ (aq ..)) l λi q x t u=>?_
  have m:q∈p::qs:=mCo _ (mGq t);exact⟨by rw[hk q m];exact(e i q x t u).1,hn q m⟩
def rG.rep(h:rG K Hf H av v F)(s:qO Hf H):ug K H (pD av) v:=by
 induction h with
 |sh r=>exact r.mono s
 | @ow p J z E h n l G e I=>
  rw[vi];refine .list h (by simp[l]) λi d v t B=>?_
  rw[gMq]at t;cases u:z[i]? with
  |none=>rw[u]at t;cases t
  |some a=>
   rw[u]at t;cases t;have hi:=G ▸ (gSq.mp u).1;exact I i a v E[i] u B (gEg hi)
 |owd h n r=>exact .mk_dict h (r.mono s)
 |owl h n l e=>exact U0 h l λi q x t B=>(e i q x t B).1
noncomputable def frz(Hf H:Hp)(F:Δ):Hp:=λb=>if b∈F then H b else Hf b
def CJ(h:b∈F):frz Hf H F b=H b:=qf h
def yq(h:b∉F):frz Hf H F b=Hf b:=qj h
def ur(h:∀q∈F,Hf q=none):qO Hf (frz Hf H F):=λb o e=>by
 rw[yq λm=>by rw[h b m]at e;cases e]
 exact e
def adT(s:qO Hf H):qO (frz Hf H F) H:=λb o e=>by
 by_cases m:b∈F
 .rw[CJ m]at e;exact e
 .rw[yq m]at e;exact s b o e
def rG.frozen(h:rG K Hf H av v F)(s:qO Hf Hf')(hk:∀q∈F,Hf' q=H q):ug K Hf' (pD av) v:=by
 induction h with
 |sh r=>exact r.mono s
 | @ow p L z E h n l G e I=>
  rw[vi];refine .list (by rw[hk p ⋯];exact h) (by simp[l]) λi d v t B=>?_
  rw[gMq]at t;cases u:z[i]? with
  |none=>rw[u]at t;cases t
  |some a=>
   rw[u]at t;cases t;have hi:=G ▸ (gSq.mp u).1;exact I i a v E[i] u B (gEg hi) λq J=>hk q (mCo _ (mFq.mpr ⟨E[i],gRq hi,J⟩))
 |owd h n r=>exact .mk_dict (by rw[hk _ ⋯];exact h) (r.mono s)
 |owl h n l e=>exact U0 (by rw[hk _ (aq ..)];exact h) l λi q x t B=>by rw[hk q (mCo _ (mGq t))];exact(e i q x t B).1
abbrev AS:=List (Option AV)
structure rq (K:Ζ)(H₀ Hf₀ Hf:Hp)(S:AS)(σ:St)(H:Hp)(Fs:List Δ):Prop where
 len:S.length=σ.length
 lenF:Fs.length=S.length
 rep:∀(i:Nat) (av:AV),S[i]?=some (some av)->∃v F,σ[i]?=some (some v)/\Fs[i]?=some F/\rG K Hf H av v F
 emp:∀i:Nat,S[i]?=some none->Fs[i]?=some []
 nd:Fs.flatten.Nodup
 fresh:∀p∈Fs.flatten,H₀ p=none
 sub:qO Hf H
 fr:qO H₀ H
 lim:∀b,Hf₀ b=none->H₀ b≠none->Hf b=none
 sf:qO Hf₀ Hf
structure C5 (Hf H:Hp)(Fs:List Δ)(Hf' H':Hp)(Fs':List Δ):Prop where
 sf:qO Hf Hf'
 sh:qO H H'
 own:∀p∈Fs'.flatten,p∈Fs.flatten
 gr:∀b,Hf b=none->Hf' b≠none->H b=none∨b∈Fs.flatten
theorem C5.refl:C5 Hf H l Hf H l:=⟨.refl _,.refl _,λ_ h=>h,λb h g=>absurd h g⟩
def Vf(s:qO H l)(h:H b≠none):l b≠none:=by
 cases e:H b with
 |none=>exact absurd e h
 |some o=>rw[s b o e];simp
theorem C5.trans(a:C5 Hf H t Hf1 n Fs1)(b:C5 Hf1 n Fs1 l s Fs2):C5 Hf H t l s Fs2:=
 ⟨a.sf.trans b.sf,a.sh.trans b.sh,λp h=>a.own p (b.own p h),λc h g=>by
  by_cases e:Hf1 c=none
  .rcases b.gr c e g with q|q
   .exact .inl (a.sh.free q)
   .exact .inr (a.own c q)
  .exact a.gr c h e⟩
section
variable {Fs:List Δ}
def Ut(s:qO H H')(h:H b≠none):H' b=H b:=by
 cases e:H b with
 |none=>exact absurd e h
 |some o=>exact s b o e
def rq.mem(R:rq K H₀ Hf₀ Hf S σ H Fs)(h:q∈Fs.flatten):H q≠none/\Hf q=none:=by
 obtain⟨F,t,n⟩:=mFq.mp h;obtain⟨i,hi,rfl⟩:=cJ.mp t;have l:=R.lenF ▸ hi;cases e:S[i]with
 |none=>
  have:=R.emp i (by rw[gEg l,e])
  rw[gEg hi]at this;rw[aY.inj this]at n;cases n
 |some u=>
  obtain⟨v,F,_,s,r⟩:=R.rep i u (by rw[gEg l,e])
  rw[gEg hi]at s;rw[aY.inj s]at n;exact r.owned q n
def rq.more(R:rq K H₀ Hf₀ Hf S σ H Fs)(s:qO H H')(sf:qO Hf Hf')(sub:qO Hf' H')(hn:∀q∈Fs.flatten,Hf' q=none)(lim:∀b,Hf₀ b=none->H₀ b≠none->Hf' b=none):rq K H₀ Hf₀ Hf' S σ H' Fs where
 len:=R.len
 lenF:=R.lenF
 rep:=λi t e=>by
  obtain⟨v,F,u,n,r⟩:=R.rep i t e;refine⟨v,F,u,n,r.keep sf (λq l=>Ut s (r.owned q l).1) λq l=>hn q (mFq.mpr ⟨F,mGq n,l⟩)⟩
 emp:=R.emp
 nd:=R.nd
 fresh:=R.fresh
 sub:=sub
 fr:=R.fr.trans s
 lim:=lim
 sf:=R.sf.trans sf
def rq.laid(R:rq K H₀ Hf₀ Hf S σ H Fs)(s:qO H H'):rq K H₀ Hf₀ Hf S σ H' Fs:=R.more s (.refl _) (R.sub.trans s) (λq h=>(R.mem h).2) R.lim
def vg(h:p∈(Fs.set i F).flatten):p∈F∨p∈Fs.flatten:=by
 obtain⟨G,n,l⟩:=mFq.mp h;rcases List.mem_or_eq_of_mem_set n with q|q
 .exact .inr (mFq.mpr ⟨G,q,l⟩)
 .subst q;exact .inl l
theorem uh:∀{Fs:List Δ}{F}i,Fs.flatten.Nodup->F.Nodup->(∀p∈F,p∉Fs.flatten)->(Fs.set i F).flatten.Nodup
 | [],F,i,h,_,_=>by simp
 |G::Gs,F,0,h,hF,hd=>by
  rw[fc,fCq,nAq];rw[fCq,nAq]at h;refine⟨hF,h.2.1,λa ha b hb e=>hd a ha ?_⟩
  exact ay _ (e ▸ hb)
 |G::Gs,F,i+1,h,hF,hd=>by
  rw[gF,fCq,nAq];rw[fCq,nAq]at h;refine⟨h.1,uh i h.2.1 hF λp l m=>hd p l (by exact ay _ m),λa ha b hb e=>?_⟩
  rcases vg hb with q|q
  .exact hd b q (by exact bw _ (e ▸ ha))
  .exact h.2.2 a ha b q e
theorem rq.set(R:rq K H₀ Hf₀ Hf S σ H Fs)i(r:rG K Hf H s v F)(nd:F.Nodup)(t:∀q∈F,H₀ q=none/\q∉Fs.flatten) :
  rq K H₀ Hf₀ Hf (S.set i (some s)) (σ.set i (some v)) H (Fs.set i F) where
 len:=by simp[R.len]
 lenF:=by simp[R.lenF]
 rep:=λj a e=>by
  rw[bx]at e
  by_cases l:i=j
  .subst l;rw[qf rfl]at e;split at e
   .rename_i hi;cases e;exact⟨v,F,by rw[aV (R.len ▸ hi)],by rw[aV (R.lenF.symm ▸ hi)],r⟩
   .cases e
  .rw[qj l]at e;obtain⟨w,G,u,x,q⟩:=R.rep j a e;exact⟨w,G,by rw[aA l];exact u,by rw[aA l];exact x,q⟩
 emp:=λj e=>by
  rw[bx]at e
  by_cases l:i=j
  .subst l;rw[qf rfl]at e;split at e <;> cases e
  .rw[qj l]at e;rw[aA l];exact R.emp j e
 nd:=uh i R.nd nd λp n=>(t p n).2
 fresh:=λp n=>by
  rcases vg n with q|q
  .exact(t p q).1
  .exact R.fresh p q
 sub:=R.sub
 fr:=R.fr
 lim:=R.lim
 sf:=R.sf
def tI(h:p∈(Fs.set i []).flatten):p∈Fs.flatten:=by
 rcases vg h with q|q
 .cases q
 .exact q
theorem xT:∀{Fs:List Δ}{F}{i}{p},Fs.flatten.Nodup->Fs[i]?=some F->p∈F->p∉(Fs.set i []).flatten
 | [],F,i,p,_,e,_,_=>by simp at e
 |G::Gs,F,0,p,h,e,l,m=>by
  simp at e;subst e;rw[fCq,nAq]at h;exact h.2.2 p l p m rfl
 |G::Gs,F,i+1,p,h,e,l,m=>by
  rw[fCq,nAq]at h;have n:=by simpa using e
  rcases mAq.mp m with q|q
  .exact h.2.2 p q p (mFq.mpr ⟨F,mGq n,l⟩) rfl
  .exact xT h.2.1 n l q
def rq.move(R:rq K H₀ Hf₀ Hf S σ H Fs)(e:S[i]?=some (some u)):∃v F,σ[i]?=some (some v)/\Fs[i]?=some F/\rG K Hf H u v F/\F.Nodup/\(∀q∈F,H₀ q=none/\q∉(Fs.set i []).flatten) /\
  rq K H₀ Hf₀ Hf (S.set i none) σ H (Fs.set i []):=by
 obtain⟨v,F,B,s,r⟩:=R.rep i u e;have x:∀q∈F,q∈Fs.flatten:=λq t=>mFq.mpr ⟨F,mGq s,t⟩
 refine⟨v,F,B,s,r,bo.sublist (ax (mGq s)) R.nd,λq t=>⟨R.fresh q (x q t),xT R.nd s t⟩,?_⟩
 refine⟨by simp[R.len],by simp[R.lenF],λj a n=>?_,λj n=>?_,uh i R.nd ba (λp z=>by cases z),λp z=>R.fresh p (tI z),R.sub,R.fr,R.lim,R.sf⟩
 .rw[bx]at n
  by_cases l:i=j
  .subst l;rw[qf rfl]at n;split at n <;> cases n
  .rw[qj l]at n;obtain⟨w,G,E,I,q⟩:=R.rep j a n;exact⟨w,G,E,by rw[aA l];exact I,q⟩
 .rw[bx]at n
  by_cases l:i=j
  .subst l;rw[qf rfl]at n;split at n
   .rename_i hi;rw[aV (R.lenF.symm ▸ hi)]
   .cases n
  .rw[qj l]at n;rw[aA l];exact R.emp j n
theorem rq.frz(R:rq K H₀ Hf₀ Hf S σ H Fs)(l:∀q∈F,H₀ q=none/\q∉Fs.flatten)(hn:∀q∈F,Hf q=none):rq K H₀ Hf₀ (frz Hf H F) S σ H Fs:=by
 refine R.more (.refl _) (ur hn) (adT R.sub) (λq n=>?_) λb t s=>?_
 .rw[yq λm=>(l q m).2 n]
  exact(R.mem n).2
 .rw[yq λm=>s (l b m).1]
  exact R.lim b t s
end
abbrev ME:=AS->Option (D×AS)
abbrev MK:=AS->Option (AV×AS)
abbrev ML:=AS->Option (List D×AS)
abbrev MT:=AS->Option (Bool×AS)
abbrev MA:=AS->Option (List AV×AS)
def qC(K:Ζ)(Hf H:Hp)(l:List AV)(vs:List V)(n:List Δ):Prop:=
 l.length=vs.length/\l.length=n.length/\∀(i:Nat) a v F,l[i]?=some a->vs[i]?=some v->n[i]?=some F->rG K Hf H a v F
structure D5 (H₀ H:Hp)(Fs Fs':List Δ)(F:Δ):Prop where
 nd:F.Nodup
 fr:∀q∈F,H₀ q=none
 out:∀q∈F,q∉Fs'.flatten
 new:∀q∈F,H q=none∨q∈Fs.flatten
def D5.nil:D5 H₀ H n l []:=⟨ba,λq h=>(by cases h),λq h=>(by cases h),λq h=>(by cases h)⟩
section
variable (K:Ζ)
def SR(te:TE)(m:ME):Prop:=∀{H₀ l Hf}{S}{σ}{H}{u}{d}{S'},rq K H₀ l Hf S σ H u->m S=some (d,S')->∀Q:VK,
 (∀n t s v,C5 Hf H u n t s->rq K H₀ l n S' σ t s->ug K t d v->Q v t)->te σ H Q
def SK(te:TE)(m:MK):Prop:=∀{H₀ l Hf}{S}{σ}{H}{u}{a}{S'},rq K H₀ l Hf S σ H u->m S=some (a,S')->∀Q:VK,
 (∀n t s v F,C5 Hf H u n t s->rq K H₀ l n S' σ t s->rG K n t a v F->D5 H₀ H u s F->Q v t)->te σ H Q
def SL(te:TE)(m:ML):Prop:=∀{H₀ l Hf}{S}{σ}{H}{u}{ds}{S'},rq K H₀ l Hf S σ H u->m S=some (ds,S')->∀Q:VK,
 (∀n t s p vs,C5 Hf H u n t s->rq K H₀ l n S' σ t s->t p=some (.lst vs)->sq K n ds vs->Q (.ref p) t)->te σ H Q
def MB(x:TT)(m:MT):Prop:=∀{H₀ l Hf}{S}{σ}{H}{u}{b}{S'},rq K H₀ l Hf S σ H u->m S=some (b,S')->∀Q:Bool->Hp->Prop,
 (∀n t s,C5 Hf H u n t s->rq K H₀ l n S' σ t s->Q b t)->x σ H Q
def SA(z:TA)(m:MA):Prop:=∀{H₀ l Hf}{S}{σ}{H}{u}{as}{S'},rq K H₀ l Hf S σ H u->m S=some (as,S')->∀Q:List V->Hp->Prop,
 (∀n t s vs x,C5 Hf H u n t s->rq K H₀ l n S' σ t s->qC K n t as vs x->D5 H₀ H u s x.flatten->Q vs t)->z σ H Q
def Yu(x:TA)(m:ML):Prop:=∀{H₀ l Hf}{S}{σ}{H}{u}{ds}{S'},rq K H₀ l Hf S σ H u->m S=some (ds,S')->∀Q:List V->Hp->Prop,
 (∀n t s vs,C5 Hf H u n t s->rq K H₀ l n S' σ t s->sq K t ds vs->Q vs t)->x σ H Q
end
def rG.stp(r:rG K Hf H n v F)(s:∀q∈F,q∉Fs.flatten)(t:C5 Hf H Fs Hf' H' Fs'):rG K Hf' H' n v F:=
 r.keep t.sf (λq l=>Ut t.sh (r.owned q l).1) λq l=>by
  by_cases e:Hf' q=none
  .exact e
  .rcases t.gr q (r.owned q l).2 e with z|z
   .exact absurd z (r.owned q l).1
   .exact absurd z (s q l)
def rq.new(R:rq K H₀ Hf₀ Hf S σ H Fs)(l:H p=none):C5 Hf H Fs Hf (ri H p o) Fs/\rq K H₀ Hf₀ Hf S σ (ri H p o) Fs/\Hf p=none/\H₀ p=none/\p∉Fs.flatten:=
 ⟨⟨.refl _,tO l,λ_ h=>h,λb h g=>absurd h g⟩,R.laid (tO l),R.sub.free l,R.fr.free l,λm=>(R.mem m).1 l⟩
def vv n:(aE n ([]:Δ)).flatten=[]:=by
 induction n with
 |zero=>rfl
 |succ n l=>rw[jb,fCq,l];rfl
def rG.new(h:H p=some (.lst vs))(n:Hf p=none)(r:sq K Hf ds vs):rG K Hf H (.ow (ds.map .sh)) (.ref p) [p]:=by
 have e:[p]=p::(aE ds.length ([])).flatten:=by rw[vv]
 rw[e];refine .ow h n (by simp[r.1]) ⋯ λi a v F l s t=>?_
 rw[gMq]at l;cases q:ds[i]? with
 |none=>rw[q]at l;cases l
 |some d=>
  rw[q]at l;cases l;have:=eV (mGq t);subst this;exact .sh (r.2 i d v q s)
def rG.news(h:H p=some (.lst vs))(n:Hf p=none)(r:qC K Hf H l vs s):rG K Hf H (.ow l) (.ref p) (p::s.flatten):=.ow h n r.1 r.2.1 r.2.2
def rG.ow_inv(h:rG K Hf H (.ow s) v F):∃p vs t,v = .ref p/\F=p::t.flatten/\H p=some (.lst vs)/\Hf p=none/\qC K Hf H s vs t:=by
 cases h with
 |ow h n l u e=>exact⟨_,_,_,rfl,rfl,h,n,l,u,e⟩
def rG.owd_inv(h:rG K Hf H (.owd ds) v F):∃p l,v = .ref p/\F=[p]/\H p=some (.dK l)/\Hf p=none/\xD K Hf ds l:=by
 cases h with
 |owd h n r=>exact⟨_,_,rfl,rfl,h,n,r⟩
def rG.sh_inv(h:rG K Hf H (.sh d) v F):F=[]/\ug K Hf d v:=by
 cases h with
 |sh r=>exact⟨rfl,r⟩
def rq.give(R:rq K H₀ Hf₀ Hf' S σ l Fs1)(t:C5 Hf H Fs Hf' l Fs1)(r:rG K Hf' l u v F)(o:D5 H₀ H Fs Fs1 F) :
  rq K H₀ Hf₀ (Z.frz Hf' l F) S σ l Fs1/\ug K (Z.frz Hf' l F) (pD u) v/\C5 Hf H Fs (Z.frz Hf' l F) l Fs1:=by
 have n:=λq s=>(r.owned q s).2
 refine⟨R.frz (λq s=>⟨o.fr q s,o.out q s⟩) n,r.frozen (ur n) λq s=>CJ s,t.sf.trans (ur n),t.sh,t.own,λb h g=>?_⟩
 by_cases m:b∈F
 .exact o.new b m
 .rw[yq m]at g;exact t.gr b h g
def qC.nil:qC K Hf H [] [] []:=⟨rfl,rfl,λi a v F h=>by simp at h⟩
def qC.cons(h:rG K Hf H a v F)(t:qC K Hf H as vs u):qC K Hf H (a::as) (v::vs) (F::u):=
 ⟨by simp[t.1],by simp[t.2.1],λi b w G l n s=>by
  cases i with
  |zero=>
   simp at l n s;subst l n s;exact h
  |succ i=>exact t.2.2 i b w G (by simpa using l) (by simpa using n) (by simpa using s)⟩
def qC.nil_inv(h:qC K Hf H [] vs l):vs=[]/\l=[]:=by
 obtain⟨a,b,_⟩:=h;exact⟨bz.mp a.symm,bz.mp b.symm⟩
def qC.cons_inv(h:qC K Hf H (a::as) vs s):∃v n F l,vs=v::n/\s=F::l/\rG K Hf H a v F/\qC K Hf H as n l:=by
 obtain⟨t,u,x⟩:=h;cases vs with
 |nil=>simp at t
 |cons v n=>
  cases s with
  |nil=>simp at u
  |cons F l=>exact⟨v,n,F,l,rfl,rfl,x 0 a v F rfl rfl rfl,by simpa using t,by simpa using u,λi b w G q1 z B=>x (i+1) b w G (by simpa using q1) (by simpa using z) (by simpa using B)⟩
theorem qC.frozen(h:qC K Hf H as vs Gs)(s:qO Hf Hf')(hk:∀q∈Gs.flatten,Hf' q=H q):sq K Hf' (as.map pD) vs:=
 ⟨by simp[h.1],λi d v l t=>by
  rw[gMq]at l;cases n:as[i]? with
  |none=>rw[n]at l;cases l
  |some a=>
   rw[n]at l;cases l;have hi:=h.2.1 ▸ (gSq.mp n).1;exact(h.2.2 i a v Gs[i] n t (gEg hi)).frozen s λq u=>hk q (mFq.mpr ⟨Gs[i],gRq hi,u⟩)⟩
theorem qC.owned(h:qC K Hf H as vs Gs):∀q∈Gs.flatten,H q≠none/\Hf q=none:=λq l=>by
 obtain⟨F,s,l⟩:=mFq.mp l;obtain⟨i,hi,rfl⟩:=cJ.mp s;have n:=h.2.1.symm ▸ hi;have t:=h.1 ▸ n;exact(h.2.2 i as[i] vs[i] Gs[i] (gEg n) (gEg t) (gEg hi)).owned q l
def rq.gives(R:rq K H₀ Hf₀ Hf' S σ l Fs1)(t:C5 Hf H Fs Hf' l Fs1)(r:qC K Hf' l as vs s)(o:D5 H₀ H Fs Fs1 s.flatten) :
  rq K H₀ Hf₀ (Z.frz Hf' l s.flatten) S σ l Fs1/\sq K (Z.frz Hf' l s.flatten) (as.map pD) vs/\C5 Hf H Fs (Z.frz Hf' l s.flatten) l Fs1:=by
 have n:=λq u=>(r.owned q u).2
 refine⟨R.frz (λq u=>⟨o.fr q u,o.out q u⟩) n,r.frozen (ur n) λq u=>CJ u,t.sf.trans (ur n),t.sh,t.own,λb h g=>?_⟩
 by_cases m:b∈s.flatten
 .exact o.new b m
 .rw[yq m]at g;exact t.gr b h g
def D5.stp(o:D5 H₀ H Fs Fs1 F)(t:C5 Hf1 n Fs1 l s Fs2):D5 H₀ H Fs Fs2 F:=⟨o.nd,o.fr,λq h m=>o.out q h (t.own q m),o.new⟩
def D5.back(t:C5 Hf H Fs Hf1 l Fs1)(o:D5 H₀ l Fs1 Fs2 F):D5 H₀ H Fs Fs2 F:=⟨o.nd,o.fr,o.out,λq h=>(o.new q h).elim (λe=>.inl (t.sh.free e)) λm=>.inr (t.own q m)⟩
def D5.app(a:D5 H₀ H Fs Fs' F)(b:D5 H₀ H Fs Fs' G)(d:∀q∈F,q∉G):D5 H₀ H Fs Fs' (F++G):=
 ⟨nAq.mpr ⟨a.nd,b.nd,λx l y n e=>d x l (e ▸ n)⟩,λq h=>(mAq.mp h).elim (a.fr q) (b.fr q),λq h=>(mAq.mp h).elim (a.out q) (b.out q),λq h=>(mAq.mp h).elim (a.new q) (b.new q)⟩
def D5.apart{Hf1:Hp}(a:D5 H₀ H Fs Fs1 F)(ha:∀q∈F,l q≠none)(b:D5 H₀ l Fs1 Fs2 G):∀q∈F,q∉G:=λq h m=>by
 rcases b.new q m with e|e
 .exact ha q h e
 .exact a.out q h e
def D5.one(R:rq K H₀ Hf₀ Hf S σ H Fs)(l:H p=none):D5 H₀ H Fs Fs [p]:=
 ⟨by simp,λq h=>by rw[mSq.mp h];exact R.fr.free l,λq h m=>by rw[mSq.mp h]at m;exact(R.mem m).1 l,λq h=>by rw[mSq.mp h];exact .inl l⟩
noncomputable def oH(i:Nat):ME:=λS=>(S[i]?.join).map λa=>(pD a,S)
noncomputable def oW(i:Nat):MK:=λS=>(S[i]?.join).map λa=>(.sh (pD a),S.set i (some (.sh (pD a))))
noncomputable def Ba(i:Nat):MK:=λS=>(S[i]?.join).map λa=>(a,S.set i none)
noncomputable def C0(i:Nat):ML:=λS=>match S[i]?.join with
 |some (.sh (.list ds))=>some (ds,S)
 |some (.ow l)=>some (l.map pD,S.set i (some (.ow ((l.map pD).map .sh))))
 |_=>none
noncomputable def rOf(k:MK):ME:=λS=>(k S).map λx=>(pD x.1,x.2)
def kSc(m:ME):MK:=λS=>(m S).bind λx=>if x.1.scal then some (.sh x.1,x.2)else none
def lOf(k:MK):ML:=λS=>(k S).bind λx=>match x.1 with
 | .sh (.list ds)=>some (ds,x.2)
 | .ow l=>some (l.map pD,x.2)
 |_=>none
noncomputable def yF(k:MK):MK:=λS=>(k S).map λx=>(.sh (pD x.1),x.2)
def rC(d:D):ME:=λS=>if d.scal then some (d,S)else none
def rS{S:AS}{i:Nat}(h:S[i]?.join=some a):S[i]?=some (some a):=by
 cases e:S[i]? with
 |none=>rw[e]at h;cases h
 |some z=>rw[e]at h;exact congrArg some h
def oO i:SR K (xq i) (oH i):=by
 intro H₀ l Hf S σ H t d u R e Q q;obtain⟨a,n,e⟩:=oMq.mp e;cases e;obtain⟨v,F,s,x,r⟩:=R.rep i a (rS n);exact⟨v,s,q _ _ _ v .refl R (r.rep R.sub)⟩
def Eu i:SK K (xq i) (Ba i):=by
 intro H₀ n Hf S σ H B a E R e Q q;obtain⟨b,s,e⟩:=oMq.mp e;cases e;obtain⟨v,F,t,u,r,nd,o,x⟩:=R.move (rS s);exact⟨v,t,q _ _ _ v F ⟨.refl _,.refl _,λp z=>tI z,λb h g=>absurd h g⟩ x r ⟨nd,λq l=>(o q l).1,λq l=>(o q l).2,λq l=>.inr (mFq.mpr ⟨F,mGq u,l⟩)⟩⟩
def rq.again{S:AS}{n:List Δ}{F:Δ}(R:rq K H₀ l Hf (S.set i none) σ H (n.set i []))(s1:σ[i]?=some (some v))(r:rG K Hf H s v G)(nd:G.Nodup)(t:∀q∈G,H₀ q=none/\q∉(n.set i []).flatten) :
  rq K H₀ l Hf (S.set i (some s)) σ H (n.set i G):=by
 have R2:=R.set i r nd t;rw[jm,jm]at R2;have e:σ.set i (some v)=σ:=by
  obtain⟨hk,u⟩:=gSq.mp s1;rw[←u];exact fJ hk
 rw[e]at R2;exact R2
def oQ i:SK K (xq i) (oW i):=by
 intro H₀ l Hf S σ H I a J R e Q q;obtain⟨b,x,e⟩:=oMq.mp e;cases e;obtain⟨v,F,t,z,r,nd,o,B⟩:=R.move (rS x);have n:=λq s=>(r.owned q s).2
 have R2:=B.frz o n;have u:=r.frozen (ur n) λq s=>CJ s
 have E:=R2.again (F:=F) t (.sh u) ba λq h=>(by cases h)
 refine⟨v,t,q _ _ _ v [] ⟨ur n,.refl _,λp G=>tI G,λb h g=>?_⟩ E (.sh u) .nil⟩
 by_cases m:b∈F
 .exact .inr (mFq.mpr ⟨F,mGq z,m⟩)
 .rw[yq m]at g;exact absurd h g
def Hr i:SL K (xq i) (C0 i):=by
 intro H₀ u Hf S σ H Y ds S' R e Q q;unfold C0 at e;split at e
 .rename_i M x;cases e;obtain⟨v,F,s,B,r⟩:=R.rep i _ (rS x);obtain⟨p,E,rfl,t,G⟩:=r.sh_inv.2.list_inv;exact⟨_,s,q _ _ _ p E .refl R (R.sub _ _ t) G⟩
 .rename_i O x;cases e;obtain⟨v,F,s,B,r,nd,o,P⟩:=R.move (rS x);obtain⟨p,E,I,rfl,rfl,t,G,J⟩:=r.ow_inv;have n:=λq l=>(J.owned q l).2
  have R2:=P.frz (λq l=>o q (mCo _ l)) n
  have L:=J.frozen (ur n) λq l=>CJ l
  have T:=(ak.mp nd).1;have U:=rG.new t (by rw[yq T];exact G) L
  have X:=R2.again (F:=p::I.flatten) s U ⋯ λq l=>by rw[mSq.mp l];exact o p ⋯
  refine⟨_,s,q _ _ _ p E ⟨ur n,.refl _,λb hb=>?_,λb h g=>?_⟩ X t L⟩
  .rcases vg hb with z|z
   .rw[mSq.mp z];exact mFq.mpr ⟨_,mGq B,by simp⟩
   .exact z
  .by_cases m:b∈I.flatten
   .exact .inr (mFq.mpr ⟨_,mGq B,mCo _ m⟩)
   .rw[yq m]at g;exact absurd h g
 .cases e
theorem SK.rOf(h:SK K te k):SR K te (rOf k):=by
 intro H₀ l Hf S σ H B d E R e Q q;obtain⟨x,s,e⟩:=oMq.mp e;cases e;exact h R s Q λu G z v F t n r o=>q _ _ _ v t n (r.rep n.sub)
theorem SR.kSc(h:SR K te m):SK K te (kSc m):=by
 intro H₀ l Hf S σ H E a G R e Q q;obtain⟨x,n,e⟩:=oBq.mp e;split at e
 .rename_i s;cases e;exact h R n Q λu I z v t B r=>q _ _ _ v [] t B (.sh (r.scal s)) .nil
 .cases e
def SK.frz(h:SK K te k):SK K te (yF k):=by
 intro H₀ l Hf S σ H G a I R e Q q;obtain⟨x,n,e⟩:=oMq.mp e;cases e;refine h R n Q λs J u v F t z r o=>?_
 obtain⟨R2,B,E⟩:=z.give t r o;exact q _ _ _ v [] E R2 (.sh B) .nil
theorem SK.lOf(h:SK K te k):SL K te (lOf k):=by
 intro H₀ l Hf S σ H P T U R e Q q;obtain⟨x,G,e⟩:=oBq.mp e;refine h R G Q λI X J v F t n r o=>?_
 split at e
 .rename_i L s;cases e;rw[s]at r;obtain⟨p,u,rfl,z,B⟩:=r.sh_inv.2.list_inv;exact q _ _ _ p u t n (n.sub _ _ z) B
 .rename_i M s;cases e;obtain⟨R2,E,O⟩:=n.give t r o;rw[s,vi]at E;obtain⟨p,u,rfl,z,B⟩:=E.list_inv;exact q _ _ _ p u O R2 (R2.sub _ _ z) B
 .cases e
def abj(h:∀H,ug K H d v):SR K (tC v) (rC d):=by
 intro H₀ l Hf S σ H n s t R e Q q;unfold rC at e;split at e
 .cases e;exact q _ _ _ v .refl R (h _)
 .cases e
def pI:SR K (tC (.int i)) (rC (.int i)):=abj λ_=>.int
def tN:SR K (tC (.str i)) (rC (.str i)):=abj λ_=>.str
def C3:SR K (tC (.bl i)) (rC (.bl i)):=abj λ_=>.bl
def AM:SR K (tC .non) (rC .non):=abj λ_=>.non
def C4:SR K (tC (.ty T)) (rC (.ty T)):=abj λ_=>.ty
def yH{α:Type}(p:Prop)(x:Option α):Option α:=@ite (Option α) p (iq p) x none
def wI(h:p)(x:Option α):yH p x=x:=qf h
def AY(x:Option α):yH True x=x:=qf trivial
def qL{x y:Option α}(h:yH p x=y):(p/\x=y)∨none=y:=by
 by_cases c:p
 .rw[wI c]at h;exact .inl ⟨c,h⟩
 .exact .inr ((@if_neg p (iq p) c _ x none).symm.trans h)
noncomputable def qe(f:D->D->Option D)(a b:ME):ME:=λS=>(a S).bind λx=>(b x.2).bind λy=>(f x.1 y.1).map λd=>(d,y.2)
noncomputable def vJ(f:D->Option D)(a:ME):ME:=λS=>(a S).bind λx=>(f x.1).map λd=>(d,x.2)
def Lz(K:Ζ)(r:R2)(f:D->D->Option D):Prop:=∀{x y}{H}{Q}{l n d},ug K H l x->ug K H n y->f l n=some d->(∀v,ug K H d v->Q v H)->r x y H Q
def UnD(K:Ζ)(r:V->Hp->VK->Prop)(f:D->Option D):Prop:=∀{x}{H}{Q}{l d},ug K H l x->f l=some d->(∀v,ug K H d v->Q v H)->r x H Q
def qc(hr:Lz K r f)(ha:SR K ta a)(hb:SR K tb b):SR K (tOp r ta tb) (qe f a b):=by
 intro H₀ l Hf S σ H O d P R e Q q;obtain⟨x,s,e⟩:=oBq.mp e;obtain⟨y,t,e⟩:=oBq.mp e;obtain⟨z,u,e⟩:=oMq.mp e;cases e;refine ha R s _ λB T Fs1 U E G I=>hb G t _ λJ X Fs2 Y n R2 L=>?_
 exact hr (I.mono n.sh) L u λv M=>q _ _ _ v (E.trans n) R2 M
def Cw{r}{f}(hr:UnD K r f)(ha:SR K ta a):SR K (tUn r ta) (vJ f a):=by
 intro H₀ l Hf S σ H I d J R e Q q;obtain⟨x,n,e⟩:=oBq.mp e;obtain⟨z,s,e⟩:=oMq.mp e;cases e;exact ha R n _ λt L Fs1 M u B E=>hr E s λv G=>q _ _ _ v u B G
def Sg(c:Int->Int->Prop)(g:Int->Int->D):D->D->Option D
 | .int i,.int j=>yH (c i j) (some (g i j))
 |_,_=>none
noncomputable def dI1(g:Int->D):D->Option D
 | .int i=>some (g i)
 |_=>none
abbrev yN:=Sg (λ_ _=>True) λi j=>.int (i+j)
abbrev aeg:=Sg (λ_ _=>True) λi j=>.int (i-j)
abbrev K4:=Sg Yp λi j=>.int (i*j)
abbrev xZ:=Sg (λ_ j=>0<j) λi j=>.int (i % j)
abbrev GR:=Sg agj λi j=>.int (i / j)
abbrev Ie:=Sg agB λi j=>.int (i ^ j.toNat)
abbrev Wx:=Sg (λ_ _=>True) λi j=>.bl (decide (i<j))
abbrev dLe:=Sg (λ_ _=>True) λi j=>.bl (decide (i<=j))
abbrev dGt:=Sg (λ_ _=>True) λi j=>.bl (decide (j<i))
abbrev dGe:=Sg (λ_ _=>True) λi j=>.bl (decide (j<=i))
abbrev wu:=dI1 λi=>.int (-i)
noncomputable def Xr(b:Bool):Option D:=some (.bl b)
def CI(x y:D):Option D:=match x with
 | .int i=>(match y with|.int j=>Xr (decide (i=j))|.non=>Xr false|.str _=>Xr false|_=>none)
 | .str i=>(match y with|.str j=>Xr (decide (i=j))|.non=>Xr false|.int _=>Xr false|_=>none)
 | .bl i=>(match y with|.bl j=>Xr (decide (i=j))|.non=>Xr false|_=>none)
 | .non=>(match y with|.non=>Xr true|.int _=>Xr false|.str _=>Xr false|.bl _=>Xr false|_=>none)
 |_=>none
noncomputable def Xj:D->Option D
 | .bl b=>some (.bl (!b))
 |_=>none
def WZ(x y:D):Option D:=(CI x y).bind Xj
def P3(l:∀H i j,ug K H (g' i j) (g i j)):Lz K (rI C g) (Sg C g'):=by
 intro x y H Q t u d n s e q;unfold Sg at e;split at e
 .rename_i i j;cases n;cases s;rcases qL e with⟨h,e⟩|e
  .cases e;exact⟨i,j,rfl,rfl,h,q _ (l H i j)⟩
  .cases e
 .cases e
def Oo(l:∀H i j,ug K H (g' i j) (g i j)):Lz K (Y0 g) (Sg (λ_ _=>True) g'):=by
 intro x y H Q t u d n s e q;unfold Sg at e;split at e
 .rename_i i j;cases n;cases s;rw[AY]at e;cases e;exact⟨i,j,rfl,rfl,q _ (l H i j)⟩
 .cases e
def Nj:Lz K (Y0 λi j=>.int (i+j)) yN:=Oo λ_ _ _=>.int
def age:Lz K (Y0 λi j=>.int (i-j)) aeg:=Oo λ_ _ _=>.int
def aiR:Lz K (rI Yp λi j=>.int (i*j)) K4:=P3 λ_ _ _=>.int
def Jp:Lz K (rI (λ_ j=>0<j) λi j=>.int (i % j)) xZ:=P3 λ_ _ _=>.int
def Sh:Lz K (rI agj λi j=>.int (i / j)) GR:=P3 λ_ _ _=>.int
def ag5:Lz K (rI agB λi j=>.int (i ^ j.toNat)) Ie:=P3 λ_ _ _=>.int
def U2:Lz K (Y0 λi j=>.bl (decide (i<j))) Wx:=Oo λ_ _ _=>.bl
def UJ:Lz K (Y0 λi j=>.bl (decide (j<i))) dGt:=Oo λ_ _ _=>.bl
def yV:UnD K (rU λi=>.int (-i)) wu:=by
 intro x H Q n d l e q;cases l <;> simp only[dI1]at e
 all_goals first|(simp at e;done)|skip
 rename_i i;cases e;exact⟨i,rfl,q _ .int⟩
def Ap:Lz K rEq CI:=by
 intro x y H Q s t d l n e q;cases l <;> first|(cases e;)|(cases n <;> first|(cases e;done)|skip)
 all_goals (cases e;refine⟨rfl,q _ ?_⟩;simp only[reduceCtorEq,decide_false,decide_true,V.int.injEq,V.str.injEq,V.bl.injEq];exact .bl)
def LG:Lz K rNe WZ:=by
 intro x y H Q B E d l n e q;obtain⟨b,s,t⟩:=oBq.mp e;obtain⟨u,z⟩:=Ap l n s (Q:=λv _=>ug K H b v) λv h=>h
 cases z;cases t;exact⟨u,q _ .bl⟩
noncomputable def Qr(a b:ME):ME:=λS=>(a S).bind λx=>match x.1 with
 | .bl true=>b x.2
 | .bl false=>some (.bl false,x.2)
 |_=>none
noncomputable def rOr(a b:ME):ME:=λS=>(a S).bind λx=>match x.1 with
 | .bl true=>some (.bl true,x.2)
 | .bl false=>b x.2
 |_=>none
def ag9(a:ME):ME:=vJ Xj a
noncomputable def tJ(a:ME):MT:=λS=>(a S).bind λx=>match x.1 with
 | .bl b=>some (b,x.2)
 |_=>none
noncomputable def am4(a b:MT):MT:=λS=>(a S).bind λx=>if x.1=true then b x.2 else some (false,x.2)
noncomputable def M5(a b:MT):MT:=λS=>(a S).bind λx=>if x.1=true then some (true,x.2)else b x.2
noncomputable def xy(a:MT):MT:=λS=>(a S).map λx=>(!x.1,x.2)
noncomputable def rIf(c:MT)(a b:ME):ME:=λS=>(c S).bind λx=>if x.1=true then a x.2 else b x.2
noncomputable def kIf(c:MT)(a b:MK):MK:=λS=>(c S).bind λx=>if x.1=true then a x.2 else b x.2
def KI(ha:SR K ta a)(hb:SR K tb b):SR K (afK ta tb) (Qr a b):=by
 intro H₀ n Hf S σ H L d M R e Q q;obtain⟨x,z,e⟩:=oBq.mp e;refine ha R z _ λB O Fs1 P t u l=>?_
 split at e
 .rename_i s;rw[s]at l;cases l;exact⟨true,rfl,VZ (hb u e Q λE T Fs2 G I R2 J=>q _ _ _ G (t.trans I) R2 J)⟩
 .rename_i s;rw[s]at l;cases l;cases e;exact⟨false,rfl,Se (q _ _ _ _ t u .bl)⟩
 .cases e
def ain(ha:SR K ta a):SR K (af4 ta) (ag9 a):=by
 intro H₀ n Hf S σ H I d J R e Q q;obtain⟨x,t,e⟩:=oBq.mp e;obtain⟨z,l,e⟩:=oMq.mp e;cases e;refine ha R t _ λu L Fs1 M B E s=>?_
 cases G:x.1 <;> rw[G]at l s <;> simp only[Xj]at l
 all_goals first|(simp at l;done)|skip
 cases s;cases l;exact⟨_,rfl,q _ _ _ _ B E .bl⟩
def xS(ha:SR K ta a):MB K (tB ta) (tJ a):=by
 intro H₀ l Hf S σ H E d G R e Q q;obtain⟨x,s,e⟩:=oBq.mp e;refine ha R s _ λt I Fs1 J u z n=>?_
 split at e
 .rename_i b B;rw[B]at n;cases n;cases e;exact⟨_,rfl,q _ _ _ u z⟩
 .cases e
def rD(ha:SR K ta a):MB K (afu ta) (tJ a):=xS ha
def Qn(ha:MB K ca ma)(hb:MB K cb mb):MB K (tOr ca cb) (M5 ma mb):=by
 intro H₀ n Hf S σ H G d I R e Q q;obtain⟨x,u,e⟩:=oBq.mp e;refine ha R u _ λz J Fs1 s t=>?_
 split at e
 .rename_i l;cases e;rw[l];exact VZ (q _ _ _ s t)
 .rename_i l;rw[ee]at l;rw[l];exact Se (hb t e Q λB L Fs2 E R2=>q _ _ _ (s.trans E) R2)
def AI(ha:MB K ca ma):MB K (akQ ca) (xy ma):=by
 intro H₀ l Hf S σ H z d B R e Q q;obtain⟨x,n,e⟩:=oMq.mp e;cases e;exact ha R n _ λs E Fs1 t u=>q _ _ _ t u
abbrev tH:Nat:=16777216
def EA:ku=tH:=kL
def SQ(K:Ζ)(te:TE)(m:ML):Prop:=∀{H₀ l Hf}{S}{σ}{H}{u}{ds}{S'},rq K H₀ l Hf S σ H u->m S=some (ds,S')->∀Q:VK,
 (∀n t s p vs,C5 Hf H u n t s->rq K H₀ l n S' σ t s->uO K t p vs->sq K n ds vs->Q (.ref p) t)->te σ H Q
theorem SL.q(h:SL K te m):SQ K te m:=by
 intro H₀ l Hf S σ H B E G R e Q q;exact h R e Q λn I s p u t x z r=>q _ _ _ p u t x (uO.of z) r
def wj(i:Nat):ML:=λS=>match S[i]?.join with
 |some (.sh (.scr ns))=>some (ns.map .int,S)
 |some (.sh (.list ds))=>some (ds,S)
 |some (.ow l)=>some (l.map pD,S.set i (some (.ow ((l.map pD).map .sh))))
 |_=>none
theorem zA:∀ns:Ϝ,sq K H (ns.map .int) (ns.map V.int)
 | []=>.nil
 |n::ns=>.cons .int (zA ns)
def xa{K}i:SQ K (xq i) (wj i):=by
 intro H₀ n Hf S σ H L M O R e Q q;unfold wj at e;split at e
 .rename_i ns l;cases e;obtain⟨v,F,E,P,r⟩:=R.rep i _ (rS l);cases r.sh_inv.2 with
  |scr h=>exact⟨_,E,q _ _ _ _ _ .refl R (R.sub.seq h) (zA ns)⟩
 .rename_i G l;cases e;refine Hr i R ?_ Q λs I u p x t z B r=>q _ _ _ p x t z (uO.of B) r
  unfold C0;rw[l]
 .rename_i J l;refine Hr i R ?_ Q λs I u p x t z B r=>q _ _ _ p x t z (uO.of B) r
  unfold C0;rw[l];exact e
 .cases e
theorem qC.stp(r:qC K Hf H as vs l)(s:∀q∈l.flatten,q∉Fs.flatten)(t:C5 Hf H Fs Hf' H' Fs'):qC K Hf' H' as vs l:=
 ⟨r.1,r.2.1,λi a v F u x n=>(r.2.2 i a v F u x n).stp (λq z=>s q (mFq.mpr ⟨F,mGq n,z⟩)) t⟩
def rq.layF(R:rq K H₀ Hf₀ Hf S σ H Fs)(l:H p=none):C5 Hf H Fs (ri Hf p o) (ri H p o) Fs/\rq K H₀ Hf₀ (ri Hf p o) S σ (ri H p o) Fs:=by
 have n:=R.sub.free l;refine⟨⟨tO n,tO l,λ_ h=>h,λb h g=>?_⟩,R.more (tO l) (tO n) (λb u e=>?_) (λq s=>?_) λb x t=>?_⟩
 .by_cases m:b=p
  .subst m;exact .inl l
  .rw[pe m]at g;exact absurd h g
 .by_cases m:b=p
  .subst m;rw[pE]at e ⊢;exact e
  .rw[pe m]at e ⊢;exact R.sub b u e
 .rw[pe λe=>(R.mem s).1 (by rw[e];exact l)]
  exact(R.mem s).2
 .rw[pe λe=>t (by rw[e];exact R.fr.free l)]
  exact R.lim b x t
def oV:MA:=λS=>some ([],S)
noncomputable def oE(k:MK)(r:MA):MA:=λS=>(k S).bind λx=>(r x.2).map λy=>(x.1::y.1,y.2)
def ph:ML:=λS=>some ([],S)
noncomputable def oK(k:ME)(r:ML):ML:=λS=>(k S).bind λx=>(r x.2).map λy=>(x.1::y.1,y.2)
def oP:SA K xY oV:=by
 intro H₀ l Hf S σ H n s t R e Q q;cases e;exact q _ _ _ [] [] .refl R .nil .nil
def oC(hk:SK K te k)(hr:SA K tr r):SA K (vG te tr) (oE k r):=by
 intro H₀ l Hf S σ H T U X R e Q q;obtain⟨x,E,e⟩:=oBq.mp e;obtain⟨y,G,e⟩:=oMq.mp e;cases e;refine hk R E _ λn Y Fs1 v F u I z s=>hr I G _ λJ H2 Fs2 L M t R2 O B=>?_
 refine q _ _ _ (v::L) (F::M) (u.trans t) R2 (.cons (z.stp s.out t) O) ?_;exact(s.stp t).app (B.back u) (s.apart (Hf1:=n) (λq P=>(z.owned q P).1) B)
def pP:Yu K xY ph:=by
 intro H₀ l Hf S σ H n s t R e Q q;cases e;exact q _ _ _ [] .refl R .nil
def oR(hk:SR K te k)(hr:Yu K tr r):Yu K (vG te tr) (oK k r):=by
 intro H₀ l Hf S σ H L M O R e Q q;obtain⟨x,s,e⟩:=oBq.mp e;obtain⟨y,t,e⟩:=oMq.mp e;cases e;refine hk R s _ λu P Fs1 v z B E=>hr B t _ λG T Fs2 I n R2 J=>?_
 exact q _ _ _ (v::I) (z.trans n) R2 (.cons (E.mono n.sh) J)
def sZ(a:MA):MK:=λS=>(a S).bind λx=>yH (x.1.length<=tH) (some (.ow x.1,x.2))
def wz(a:MA):MK:=λS=>(a S).bind λx=>yH (x.1.length<=tH) (some (.sh (.tup (x.1.map pD)),x.2))
def uK(ha:SA K ta a):SK K (Zy ta) (sZ a):=by
 intro H₀ l Hf S σ H O P T R e Q q;obtain⟨x,E,e⟩:=oBq.mp e;rcases qL e with⟨hl,e⟩|e
 .cases e;refine ha R E _ λG U Fs1 X I t u n z=>⟨by rw[←n.1];exact hl,λp s=>?_⟩
  obtain⟨B,R2,J,Y,n3⟩:=u.new s;refine q _ _ _ (.ref p) (p::I.flatten) (t.trans B) R2 (rG.news pE J (n.stp z.out B)) ?_;have L:=(D5.one u s).back t;refine(L.app z λq M m=>?_)
  rw[mSq.mp M]at m;exact(n.owned p m).1 s
 .cases e
def yh(ha:SA K ta a):SK K (ajE ta) (wz a):=by
 intro H₀ l Hf S σ H M O P R e Q q;obtain⟨x,t,e⟩:=oBq.mp e;rcases qL e with⟨hl,e⟩|e
 .cases e;refine ha R t _ λu T Fs1 U X z B n E=>⟨by rw[←n.1];exact hl,λp G=>?_⟩
  obtain⟨R2,I,J⟩:=B.gives z n E;obtain⟨s,L⟩:=R2.layF G;exact q _ _ _ (.ref p) [] (J.trans s) L (.sh (.mk_tup pE (I.mono s.sf))) .nil
 .cases e
def D7(a b:ML):MK:=λS=>(a S).bind λx=>(b x.2).bind λy=>yH (x.1.length+y.1.length<=tH) (some (.ow ((x.1++y.1).map .sh),y.2))
def JI(ha:SL K ta a)(hb:SL K tb b):SK K (tOp akU ta tb) (D7 a b):=by
 intro H₀ n Hf S σ H Fs av S' R e Q q;obtain⟨x,G,e⟩:=oBq.mp e;obtain⟨y,I,e⟩:=oBq.mp e;rcases qL e with⟨hl,e⟩|e
 .cases e;refine ha R G _ λJ H1 Fs1 L s u M O z=>hb M I _ λP H2 Fs2 T t l R2 U B=>?_
  refine⟨L,T,s,t,rfl,rfl,l.sh _ _ O,U,by rw[←z.1,←B.1];exact hl,λp E=>?_⟩
  obtain⟨X,Y,n1,n2,n3⟩:=R2.new E;exact q _ _ _ (.ref p) [p] ((u.trans l).trans X) Y (rG.new pE n1 ((z.mono l.sf).append B)) ((D5.one R2 E).back (u.trans l))
 .cases e
abbrev MO:=AS->Option (Option Int×AS)
def SO(K:Ζ)(to:TO)(m:MO):Prop:=∀{H₀ l Hf}{S}{σ}{H}{u}{o}{S'},rq K H₀ l Hf S σ H u->m S=some (o,S')->∀Q:Option Int->Hp->Prop,
 (∀n t s,C5 Hf H u n t s->rq K H₀ l n S' σ t s->Q o t)->to σ H Q
def zb:MO:=λS=>some (none,S)
noncomputable def yd(m:ME):MO:=λS=>(m S).bind λx=>match x.1 with
 | .int i=>some (some i,x.2)
 |_=>none
def yw{α:Type}(xs:List α)(lo hi:Option Int):List α:=(xs.drop (HT.L9 xs.length 0 lo)).take (HT.L9 xs.length xs.length hi-HT.L9 xs.length 0 lo)
def Py(l:ML)(lo hi:MO):MK:=λS=>(l S).bind λx=>(lo x.2).bind λy=>(hi y.2).map λz=>(.ow ((yw x.1 y.1 z.1).map .sh),z.2)
def GD:SO K T8 zb:=by
 intro H₀ n Hf S σ H s o t R e Q q;cases e;exact q _ _ _ .refl R
def Bq(h:SR K te m):SO K (afP te) (yd m):=by
 intro H₀ n Hf S σ H G o I R e Q q;obtain⟨x,t,e⟩:=oBq.mp e;refine h R t _ λu J Fs1 v z B s=>?_
 split at e
 .rename_i i E;rw[E]at s;cases s;cases e;exact⟨i,rfl,q _ _ _ z B⟩
 .cases e
def sq.cut(r:sq K H ds vs)lo hi:sq K H (yw ds lo hi) (Wl vs lo hi):=by
 unfold yw Wl;rw[r.1];exact(r.drop _).take _
def LR(hl:SQ K te l)(t:SO K tl lo)(u:SO K th hi):SK K (tSl (akg K) te tl th) (Py l lo hi):=by
 intro H₀ B Hf S σ H Fs av S' R e Q q;obtain⟨x,L,e⟩:=oBq.mp e;obtain⟨y,M,e⟩:=oBq.mp e;obtain⟨z,O,e⟩:=oMq.mp e;cases e;refine hl R L _ λP H1 Fs1 T E G U X Y=>t U M _ λHf2 H2 Fs2 n R2=>u R2 O _ λHf3 H3 Fs3 s I=>?_
 refine⟨T,E,rfl,(n.sh.trans s.sh).seq X,λp J=>?_⟩
 obtain⟨t4,R4,n1,n2,n3⟩:=I.new J;exact q _ _ _ (.ref p) [p] (((G.trans n).trans s).trans t4) R4 (rG.new pE n1 ((Y.mono (n.sf.trans s.sf)).cut _ _)) ((D5.one I J).back ((G.trans n).trans s))
def HC:D->D->Option D
 | .list ds,.int i=>atI ds i
 | .scr ns,.int i=>(atI ns i).map .int
 |_,_=>none
def ahm:D->D->Option D
 | .tup ds,.int i=>atI ds i
 |_,_=>none
def Xp(l:ML)(b:ME):MK:=λS=>(l S).bind λx=>(b x.2).bind λy=>match y.1 with
 | .int i=>(atI x.1 i).map λd=>(.sh d,y.2)
 |_=>none
theorem sq.atI(r:sq K H ds vs)(h:L2.atI ds i=some d):∃v,L2.atI vs i=some v/\ug K H d v:=by
 unfold L2.atI at h ⊢;rw[r.1]at h;obtain⟨j,l,n⟩:=oBq.mp h;rw[l];exact r.get n
def yx:Lz K (X1 K) HC:=by
 intro x y H Q L M d u z e q;unfold HC at e;split at e
 .rename_i O i;cases z;obtain⟨p,B,rfl,h,r⟩:=u.list_inv;obtain⟨l,E⟩:=r;obtain⟨v,s,t⟩:=sq.atI ⟨l,E⟩ e;exact⟨p,B,i,v,rfl,rfl,uO.of h,s,q v t⟩
 .rename_i ns i;cases z;cases u;rename_i p h;obtain⟨n,s,t⟩:=oMq.mp e;subst t;obtain⟨v,G,I⟩:=sq.atI (zA ns) (by
   unfold L2.atI at s ⊢;rw[lMq];obtain⟨j,J,g2⟩:=oBq.mp s;rw[J];show(ns.map D.int)[j]?=_;rw[gMq,g2];rfl)
  exact⟨p,_,i,v,rfl,rfl,h,G,q v I⟩
 .cases e
def af8:Lz K (agW K) ahm:=by
 intro x y H Q z B d l n e q;unfold ahm at e;split at e
 .rename_i E i;cases n;obtain⟨p,s,rfl,h,r⟩:=l.tup_inv;obtain⟨v,t,u⟩:=sq.atI r e;exact⟨p,s,i,v,rfl,rfl,GW.of h,t,q v u⟩
 .cases e
def Ek(hl:SQ K ta l)(hb:SR K tb b):SK K (tOp (X1 K) ta tb) (Xp l b):=by
 intro H₀ n Hf S σ H X Y S' R e Q q;obtain⟨x,z,e⟩:=oBq.mp e;obtain⟨y,B,e⟩:=oBq.mp e;refine hl R z _ λE H1 Fs1 G s I J L M=>hb J B _ λO H2 Fs2 v2 t R2 u=>?_
 split at e
 .rename_i i P;rw[P]at u;cases u;obtain⟨d,T,e⟩:=oMq.mp e;cases e;obtain⟨v,U,g2⟩:=(M.mono t.sf).atI T;exact⟨G,s,i,v,rfl,rfl,t.sh.seq L,U,q _ _ _ v [] (I.trans t) R2 (.sh g2) .nil⟩
 .cases e
def CbD(K:Ζ)(r:List V->Hp->VK->Prop)(f:List D->Option D):Prop:=∀{vs}{H}{Q}{ds}{d},sq K H ds vs->f ds=some d->(∀v,ug K H d v->Q v H)->r vs H Q
noncomputable def ze(f:List D->Option D)(a:ML):ME:=λS=>(a S).bind λx=>(f x.1).map λd=>(d,x.2)
def vI(hr:CbD K r f)(ha:Yu K n a):SR K (tCB r n) (ze f a):=by
 intro H₀ l Hf S σ H J d L R e Q q;obtain⟨x,s,e⟩:=oBq.mp e;obtain⟨z,t,e⟩:=oMq.mp e;cases e;exact ha R s _ λu M Fs1 O B E G=>hr G t λv I=>q _ _ _ v B E I
def vZ:List D->Option D
 | [.list ds]=>some (.int ds.length)
 | [.tup ds]=>some (.int ds.length)
 | [.scr ns]=>some (.int ns.length)
 | [.str x]=>yH (x.length<=tH) (some (.int x.length))
 |_=>none
noncomputable def amq:List D->Option D
 | [.int i]=>some (.int (if i<0 then -i else i))
 |_=>none
noncomputable def amA:List D->Option D
 | [.int i,.int j]=>some (.int (if j>i then j else i))
 |_=>none
noncomputable def am8:List D->Option D
 | [.int i,.int j]=>some (.int (if j<i then j else i))
 |_=>none
noncomputable def amE:List D->Option D
 | [.int i]=>some (.int i)
 | [.bl k]=>some (.int (if k then 1 else 0))
 |_=>none
noncomputable def Rh:D->String->Option D
 | .int _,T=>if T = "int" then some (.bl true)else if T = "bool" then some (.bl false)else none
 | .bl _,T=>if T = "bool" ∨ T = "int" then some (.bl true)else none
 | .str _,T=>if T = "str" then some (.bl true)else none
 | .list _,T=>if T = "list" then some (.bl true)else none
 | .tup _,T=>if T = "tuple" then some (.bl true)else none
 | .dict _,T=>if T = "dict" then some (.bl true)else none
 |_,_=>none
def CS:List D->Option D
 | [x,.ty T]=>Rh x T
 |_=>none
noncomputable def vU:List D->Option Ϝ
 | []=>some []
 | .int i::ds=>(vU ds).map (i :: ·)
 |_=>none
theorem Bi:∀{ds}{ns},vU ds=some ns->ds=ns.map .int
 | [],ns,h=>by cases h;rfl
 |d::ds,ns,h=>by
  cases d with
  |int i=>
   obtain⟨s,l,n⟩:=oMq.mp (h);subst n;rw[Bi l];rfl
  |_=>cases h
@[simp] theorem vO ns:vU (ns.map .int)=some ns:=by
 induction ns with
 |nil=>rfl
 |cons n ns l=>show(vU (ns.map .int)).map (n :: ·)=_;rw[l];rfl
theorem wC:∀{ns:Ϝ}{vs},sq K H (ns.map .int) vs->vs=ns.map V.int
 | [],vs,h=>h.nil_inv
 |n::ns,vs,h=>by
  obtain⟨v,t,rfl,l,s⟩:=sq.cons_inv h;cases l;rw[wC s];rfl
noncomputable def Oz:Ϝ->Option Int
 | []=>none
 |n::ns=>some (ns.foldl min n)
theorem AF:∀(ns:Ϝ) n,ns.foldl min n∈n::ns
 | [],n=>by simp
 |m::ns,n=>by
  have h:=AF ns (min n m);rw[gf];rcases ah.mp h with e|e
  .rw[e]
   by_cases c:n<=m
   .rw[Int.min_eq_left c];simp
   .rw[Int.min_eq_right ∅];simp
  .exact mCo _ (mCo _ e)
theorem zq:∀(ns:Ϝ) n,(ns.foldl min n<=n)/\∀x∈ns,ns.foldl min n<=x
 | [],n=>⟨gJ _,λx h=>by cases h⟩
 |m::ns,n=>by
  obtain⟨t,l⟩:=zq ns (min n m);rw[gf];refine⟨by lia,λx s=>?_⟩
  rcases ah.mp s with e|e
  .lia
  .exact l x e
def WJ:List D->Option D
 | [.list ds]=>(vU ds).bind λns=>(Oz ns).map .int
 |_=>none
def BV:CbD K (λxs H Q=>∃x n,xs=[x]/\aj0 K x H n/\Q (.int n) H) vZ:=by
 intro B H Q E d r e q;unfold vZ at e;split at e
 .obtain⟨v,t,rfl,l,s⟩:=r.cons_inv;rw[s.nil_inv];obtain⟨p,us,rfl,u,z⟩:=l.list_inv;cases e;exact⟨_,_,rfl,.inl ⟨us,uO.of u,z.1⟩,q _ .int⟩
 .obtain⟨v,t,rfl,l,s⟩:=r.cons_inv;rw[s.nil_inv];obtain⟨p,us,rfl,u,z⟩:=l.tup_inv;cases e;exact⟨_,_,rfl,.inr ⟨us,GW.of u,z.1⟩,q _ .int⟩
 .obtain⟨v,t,rfl,l,s⟩:=r.cons_inv;rw[s.nil_inv];cases e;cases l with
  |scr h=>exact⟨_,_,rfl,.inl ⟨_,h,(lMq _).symm⟩,q _ .int⟩
 .rcases qL e with⟨hl,e⟩|e
  .obtain⟨v,t,rfl,l,s⟩:=r.cons_inv;rw[s.nil_inv];cases e;cases l;exact⟨_,_,rfl,⟨by exact hl,rfl⟩,q _ .int⟩
  .cases e
 .cases e
def ah5:CbD K (λxs H Q=>∃(a:Addr) (ns:Ϝ),xs=[.ref a]/\uO K H a (ns.map V.int)/\0<ns.length/\∀M,M∈ns->(∀x,x∈ns->M<=x)->Q (.int M) H) WJ:=by
 intro L H Q O d r e q;unfold WJ at e;split at e
 .obtain⟨v,P,rfl,l,B⟩:=r.cons_inv;rw[B.nil_inv];obtain⟨ns,E,e⟩:=oBq.mp e;obtain⟨m,s,e⟩:=oMq.mp e;cases e;rw[Bi E]at l;obtain⟨p,us,rfl,t,G⟩:=l.list_inv;rw[wC G]at t;cases ns with
  |nil=>cases s
  |cons n ns=>
   cases s;refine⟨p,_,rfl,uO.of t,by simp,λM I hm=>?_⟩
   have J:M=ns.foldl min n:=by
    have R:=hm _ (AF ns n);have u:=zq ns n;have S:ns.foldl min n<=M:=by
     rcases ah.mp I with z|z
     .subst z;exact u.1
     .exact u.2 M z
    lia
   rw[J];exact q _ .int
 .cases e
def agK:CbD K (λxs H Q=>∃x T b,xs=[x,.ty T]/\aiI K x H T b/\Q (.bl b) H) CS:=by
 intro G H Q I d r e q;unfold CS at e;split at e
 rotate_left
 .cases e
 rename_i x T;obtain⟨v,J,rfl,n,z⟩:=r.cons_inv;obtain⟨u,L,rfl,B,E⟩:=z.cons_inv;rw[E.nil_inv];cases B;unfold Rh at e;cases x <;> first|(cases e;)|dsimp only at e
 case int=>
  cases n;split at e
  .rename_i l;cases e;exact⟨_,_,_,rfl,.inl ⟨l,rfl⟩,q _ .bl⟩
  .split at e
   .rename_i l;cases e;exact⟨_,_,_,rfl,.inr ⟨l,rfl⟩,q _ .bl⟩
   .cases e
 case bl=>
  cases n;split at e
  .rename_i l;cases e;rcases l with l|l
   .exact⟨_,_,_,rfl,.inl ⟨l,rfl⟩,q _ .bl⟩
   .exact⟨_,_,_,rfl,.inr ⟨l,rfl⟩,q _ .bl⟩
  .cases e
 case str=>
  cases n;split at e
  .rename_i l;cases e;exact⟨_,_,_,rfl,⟨l,rfl⟩,q _ .bl⟩
  .cases e
 case list=>
  obtain⟨p,us,rfl,s,t⟩:=n.list_inv;split at e
  .rename_i l;cases e;exact⟨_,_,_,rfl,.inl ⟨l,rfl,us,uO.of s⟩,q _ .bl⟩
  .cases e
 case tup=>
  obtain⟨p,us,rfl,s,t⟩:=n.tup_inv;split at e
  .rename_i l;cases e;exact⟨_,_,_,rfl,.inr (.inr ⟨l,rfl,us,GW.of s⟩),q _ .bl⟩
  .cases e
 case dict=>
  obtain⟨p,us,rfl,s,t⟩:=n.dict_inv;split at e
  .rename_i l;cases e;exact⟨_,_,_,rfl,.inr (.inl ⟨l,rfl,us,s⟩),q _ .bl⟩
  .cases e
abbrev MF:=List D->Option AV
def rW(K:Ζ)(f:MF):Sp:=λvs H Q _=>∃Hf ds a,qO Hf H/\sq K Hf ds vs/\f ds=some a /\
 ∀l n v F,qO Hf l->qO H n->qO l n->(∀b,Hf b=none->H b≠none->l b=none)->rG K l n a v F->F.Nodup->(∀q∈F,H q=none)->Q v n
def pJ(f:MF)(a:MA):MK:=λS=>(a S).bind λx=>(f (x.1.map pD)).map λr=>(r,x.2)
def pA(ha:SA K E a):SK K (xX (rW K f) [] E0 E) (pJ f a):=by
 intro H₀ s Hf S σ H Fs M S' R e Q q;obtain⟨x,O,e⟩:=oBq.mp e;obtain⟨z,P,e⟩:=oMq.mp e;cases e;refine ha R O _ λt u Fs1 vs T G U X Y=>?_
 obtain⟨R2,r2,t2⟩:=U.gives G X Y;rw[aNq];refine⟨_,_,M,R2.sub,r2,P,λB H' v F I J s3 l r nd fr=>?_⟩
 have t3:C5 (Z.frz t u T.flatten) u Fs1 B H' Fs1:=⟨I,J,λ_ h=>h,λb h g=>.inl (by
  by_cases e:u b=none
  .exact e
  .exact absurd (l b h e) g)⟩
 have hn:=λq n=>l q (R2.mem n).2 (R2.mem n).1
 have R3:=R2.more J I s3 hn λb h1 L=>l b (R2.lim b h1 L) (Vf R2.fr L)
 refine q _ _ _ v F (t2.trans t3) R3 r ⟨nd,λq n=>R2.fr.free (fr q n),λq n m=>(R2.mem m).1 (fr q n),λq n=>.inl (G.sh.free (fr q n))⟩
inductive Lm where
 |nx (S:AS)|rt (a:AV)|bk (S:AS)|ct (S:AS)
abbrev MS:=AS->Option Lm
def Gv(K:Ζ)(H₀ n Hf:Hp)(D:yQ):Lm->Prop
 | .nx S=>∀l s t u,qO Hf l->rq K H₀ n l S s t u->D.nx s t
 | .bk S=>∀l s t u,qO Hf l->rq K H₀ n l S s t u->D.bk s t
 | .ct S=>∀l s t u,qO Hf l->rq K H₀ n l S s t u->D.ct s t
 | .rt a=>∀l t v F,qO n l->qO H₀ t->qO l t->(∀b,n b=none->H₀ b≠none->l b=none)->rG K l t a v F->F.Nodup->(∀q∈F,H₀ q=none)->D.rt v t
def SS(K:Ζ)(t:TS)(m:MS):Prop:=∀{H₀ l Hf}{S}{σ}{H}{n}{o},rq K H₀ l Hf S σ H n->m S=some o->∀D:yQ,Gv K H₀ l Hf D o->t D σ H
def Gv.mono{D}(s:qO Hf x)(h:Gv K H₀ l Hf D o):Gv K H₀ l x D o:=by
 cases o with
 |nx S=>exact λn t z u B R=>h n t z u (s.trans B) R
 |bk S=>exact λn t z u B R=>h n t z u (s.trans B) R
 |ct S=>exact λn t z u B R=>h n t z u (s.trans B) R
 |rt a=>exact h
def pX:MS:=λS=>some (.nx S)
def amh:MS:=λS=>some (.bk S)
def am0:MS:=λS=>some (.ct S)
def aml:MS:=λ_=>none
noncomputable def oZ(a b:MS):MS:=λS=>(a S).bind λo=>match o with
 | .nx S'=>b S'
 |o=>some o
noncomputable def pR(i:Nat)(k:MK):MS:=λS=>(k S).map λx=>.nx (x.2.set i (some x.1))
noncomputable def amX(k:MK):MS:=λS=>(k S).map λx=>.nx x.2
noncomputable def qh(k:MK):MS:=λS=>(k S).map λx=>.rt x.1
noncomputable def wZ(c:MT)(a b:MS):MS:=λS=>(c S).bind λx=>if x.1=true then a x.2 else b x.2
def ql:SS K afa pX:=by
 intro H₀ l Hf S σ H n o R e D h;cases e;exact h _ _ _ _ (.refl _) R
def pT(ha:SS K t a)(hb:SS K u b):SS K (Nu t u) (oZ a b):=by
 intro H₀ l Hf S σ H I o R e D h;obtain⟨x,n,e⟩:=oBq.mp e;refine ha R n _ ?_;cases x with
 |nx J=>exact λz B L E s G=>hb G e D (h.mono s)
 |rt a=>cases e;exact h
 |bk a=>cases e;exact h
 |ct a=>cases e;exact h
def qN(hk:SK K te k):SS K (Nd te (vo i)) (pR i k):=by
 intro H₀ l Hf S σ H J o R e D h;obtain⟨x,z,e⟩:=oMq.mp e;cases e;refine hk R z _ λB L Fs1 v F E G I n=>?_
 exact h _ _ _ _ E.sf (G.set i I n.nd λq s=>⟨n.fr q s,n.out q s⟩)
def qk(hk:SK K te k):SS K (VC te) (qh k):=by
 intro H₀ n Hf S σ H G o R e D h;obtain⟨x,z,e⟩:=oMq.mp e;cases e;exact hk R z _ λB I Fs1 v F J l E s=>h _ _ v F l.sf l.fr l.sub l.lim E s.nd s.fr
def um(B:MB K c m)(ha:SS K t a)(hb:SS K u b):SS K (YJ c t u) (wZ m a b):=by
 intro H₀ n Hf S σ H I o R e D h;obtain⟨x,E,e⟩:=oBq.mp e;refine B R E _ λG J Fs1 s z=>?_
 split at e
 .rename_i l;rw[l];exact VZ (ha z e D (h.mono s.sf))
 .rename_i l;rw[ee]at l;rw[l];exact Se (hb z e D (h.mono s.sf))
noncomputable def tM(S:AS)(i:Nat):Option (List AV):=match S[i]?.join with
 |some (.ow l)=>some l
 |_=>none
noncomputable def yZ(S:AS)(i:Nat):Option (List (qM×D)):=match S[i]?.join with
 |some (.owd l)=>some l
 |_=>none
def zf(i:Nat)(k:MK):MS:=λS=>(tM S i).bind λ_=>(k S).bind λx=>(tM x.2 i).bind λl=>
 yH (l.length<tH) (some (.nx (x.2.set i (some (.ow (l++[x.1]))))))
def Rz(i:Nat)(l:ML):MS:=λS=>(tM S i).bind λ_=>(l S).bind λx=>(tM x.2 i).bind λn=>
 yH (n.length+x.1.length<=tH) (some (.nx (x.2.set i (some (.ow (n++x.1.map .sh))))))
noncomputable def intOf:D->Option Int
 | .int i=>some i
 |_=>none
def ant(i:Nat)(b:ME)(k:MK):MS:=λS=>(yF k S).bind λx=>(tM x.2 i).bind λ_=>(b x.2).bind λy=>(tM y.2 i).bind λl=>(intOf y.1).bind λj=>(ON l.length j).map λn=>
 .nx (y.2.set i (some (.ow (((l.map pD).set n (pD x.1)).map .sh))))
noncomputable def yY:D->Option qM
 | .int i=>some (.inl i)
 | .str x=>some (.inr x)
 |_=>none
noncomputable def FC(n:List (qM×D))(k:qM)(d:D):List (qM×D):=if n.any (λl=>decide (l.1=k))then n.map (λl=>if l.1=k then (l.1,d)else l)else n++[(k,d)]
noncomputable def getD(l:List (qM×D))(k:qM):Option D:=(l.find? λn=>decide (n.1=k)).map (·.2)
def Ay(i:Nat)(b:ME)(k:MK):MS:=λS=>(yF k S).bind λx=>(yZ x.2 i).bind λ_=>(b x.2).bind λy=>(yZ y.2 i).bind λl=>(yY y.1).bind λkey=>
 yH (l.length<tH) (some (.nx (y.2.set i (some (.owd (FC l key (pD x.1)))))))
section
variable {Fs:List Δ}
def rq.turn(R:rq K H₀ Hf₀ Hf S σ H Fs)(s1:σ[i]?=some (some (.ref p)))(s2:Fs[i]?=some F)(s:p∈F)(r:rG K Hf (ri H p o) B (.ref p) F')(nd:F'.Nodup)
  (I:∀q∈F',H₀ q=none/\q∉(Fs.set i []).flatten):rq K H₀ Hf₀ Hf (S.set i (some B)) σ (ri H p o) (Fs.set i F'):=by
 have t:=mFq.mpr ⟨F,mGq s2,s⟩;have pn:=(R.mem t).2;have J:=R.fresh p t;have out:=xT R.nd s2 s;have L:rq K H₀ Hf₀ Hf (S.set i none) σ (ri H p o) (Fs.set i []):=by
  refine⟨by simp[R.len],by simp[R.lenF],λj a n=>?_,λj n=>?_,uh i R.nd ba (λp s=>by cases s),λp s=>R.fresh p (tI s),λb u e=>?_,λb u e=>?_,R.lim,R.sf⟩
  .rw[bx]at n
   by_cases l:i=j
   .subst l;rw[qf rfl]at n;split at n <;> cases n
   .rw[qj l]at n;obtain⟨w,G,M,E,q⟩:=R.rep j a n;refine⟨w,G,M,by rw[aA l];exact E,q.keep (.refl _) (λc x=>pe λe=>out ?_) λc x=>(q.owned c x).2⟩
    subst e;exact mFq.mpr ⟨G,mGq (by rw[aA l];exact E),x⟩
  .rw[bx]at n
   by_cases l:i=j
   .subst l;rw[qf rfl]at n;split at n
    .rename_i hi;rw[aV (R.lenF.symm ▸ hi)]
    .cases n
   .rw[qj l]at n;rw[aA l];exact R.emp j n
  .rw[pe λz=>by rw[z,pn]at e;cases e]
   exact R.sub b u e
  .rw[pe λz=>by rw[z,J]at e;cases e]
   exact R.fr b u e
 exact L.again (F:=F) s1 r nd I
def ti{i:Nat}(s2:Fs[i]?=some F)(h:q∈F):q∈Fs.flatten:=mFq.mpr ⟨F,mGq s2,h⟩
def qC.snoc(r:qC K Hf H as vs B)(s:rG K Hf H a v F):qC K Hf H (as++[a]) (vs++[v]) (B++[F]):=by
 obtain⟨u,x,E⟩:=r;refine⟨by simp[u],by simp[x],λi b w G l n t=>?_⟩
 by_cases hi:i<as.length
 .rw[gZq hi]at l;rw[gZq (u ▸ hi)]at n;rw[gZq (x ▸ hi)]at t;exact E i b w G l n t
 .have z:i=as.length:=by
   have:=(gSq.mp l).1;rw[lAq,lSq]at this;lia
  subst z;rw[gYq (ae _),cj]at l;rw[u,gYq (ae _),cj]at n;rw[x,gYq (ae _),cj]at t;cases l;cases n;cases t;exact s
def qC.keepUpd(r:qC K Hf H as vs l)(t:p∉l.flatten):qC K Hf (ri H p o) as vs l:=
 ⟨r.1,r.2.1,λi a v F u x s=>by
  have q:=r.2.2 i a v F u x s;refine q.keep (.refl _) (λc n=>pe λe=>t ?_) λc n=>(q.owned c n).2
  subst e;exact mFq.mpr ⟨F,mGq s,n⟩⟩
def rG.keepUpd(q:rG K Hf H a v F)(n:p∉F):rG K Hf (ri H p o) a v F:=
 q.keep (.refl _) (λc l=>pe λe=>n (e ▸ l)) λc l=>(q.owned c l).2
def NY(r:sq K Hf ds vs):qC K Hf H (ds.map .sh) vs (aE ds.length []):=
 ⟨by simp[r.1],by simp,λi a v F l n s=>by
  rw[gMq]at l;cases q:ds[i]? with
  |none=>rw[q]at l;cases l
  |some d=>
   rw[q]at l;cases l;have:=eV (mGq s);subst this;exact .sh (r.2 i d v q n)⟩
def qC.append(r:qC K Hf H as vs B)(s:qC K Hf H bs z E):qC K Hf H (as++bs) (vs++z) (B++E):=by
 obtain⟨u,x,I⟩:=r;refine⟨by simp[u,s.1],by simp[x,s.2.1],λi b w G l n t=>?_⟩
 by_cases hi:i<as.length
 .rw[gZq hi]at l;rw[gZq (u ▸ hi)]at n;rw[gZq (x ▸ hi)]at t;exact I i b w G l n t
 .rw[gYq ∅]at l
  rw[gYq ∅,←u]at n
  rw[gYq ∅,←x]at t
  exact s.2.2 _ b w G l n t
end
def rB(h:tM S i=some n):S[i]?=some (some (.ow n)):=by
 unfold tM at h;split at h
 .rename_i z e;cases h;exact rS e
 .cases h
def zJ(h:yZ S i=some n):S[i]?=some (some (.owd n)):=by
 unfold yZ at h;split at h
 .rename_i z e;cases h;exact rS e
 .cases h
theorem rq.ow(R:rq K H₀ n Hf S σ H u)(h:S[i]?=some (some (.ow t))):∃p vs s,σ[i]?=some (some (.ref p))/\u[i]?=some (p::s.flatten)/\H p=some (.lst vs)/\Hf p=none/\qC K Hf H t vs s /\
  p∉s.flatten/\s.flatten.Nodup/\∀q∈p::s.flatten,H₀ q=none/\q∉(u.set i []).flatten:=by
 obtain⟨v,F,x,z,r,nd,o,_⟩:=R.move h;obtain⟨p,vs,s,rfl,rfl,B,E,G⟩:=r.ow_inv;exact⟨p,vs,s,x,z,B,E,G,(ak.mp nd).1,(ak.mp nd).2,o⟩
def BU(hk:SK K te k):SS K (Dn (W0 K "list" Fl (xq i) (vG te xY))) (zf i k):=by
 intro H₀ G Hf S σ H Fs o R e D h;obtain⟨a0,U,e⟩:=oBq.mp e;obtain⟨x,X,e⟩:=oBq.mp e;obtain⟨Y,e2,e⟩:=oBq.mp e;rcases qL e with⟨hl,e⟩|e
 .cases e;obtain⟨p,vs,Gs,I,_,h1,_⟩:=R.ow (rB U);refine⟨.ref p,I,.inl ⟨rfl,vs,uO.of h1⟩,hk R X _ λHf1 H1 Fs1 v F t1 P r1 s=>?_⟩
  obtain⟨p',J,Gs',t,n,L,M,u,B,O,E⟩:=P.ow (rB e2);rw[I]at t;cases t;have Q:=λm=>s.out p m (ti n ⋯)
  refine⟨p,J,v,rfl,rfl,L,by rw[←u.1];exact hl,h _ _ _ _ t1.sf (P.turn I n ⋯ (rG.news pE M ((u.keepUpd B).snoc (r1.keepUpd Q))) ?_ λq T=>?_)⟩
  .rw[fAq,aR];refine ak.mpr ⟨λm=>(mAq.mp m).elim B Q,nAq.mpr ⟨O,s.nd,λa ha b hb e=>s.out b hb (ti n (mCo _ (e ▸ ha)))⟩⟩
  .rw[fAq,aR]at T;rcases ah.mp T with z|z
   .exact E q (by rw[z];simp)
   .rcases mAq.mp z with z|z
    .exact E q (mCo _ z)
    .exact⟨s.fr q z,λm=>s.out q z (tI m)⟩
 .cases e
def aiq(hl:SL K te l):SS K (Dn (W0 K "list" ID (xq i) (vG te xY))) (Rz i l):=by
 intro H₀ u Hf S σ H Fs o R e D h;obtain⟨a0,T,e⟩:=oBq.mp e;obtain⟨x,U,e⟩:=oBq.mp e;obtain⟨X,Y,e⟩:=oBq.mp e;rcases qL e with⟨z,e⟩|e
 .cases e;obtain⟨p,vs,Gs,B,_,h1,_⟩:=R.ow (rB T);refine⟨.ref p,B,.inl ⟨rfl,vs,uO.of h1⟩,hl R U _ λHf1 H1 Fs1 b ws t1 O hb P=>?_⟩
  obtain⟨p',E,Gs',n,G,I,J,s,t,L,M⟩:=O.ow (rB Y);rw[B]at n;cases n;refine⟨p,b,E,ws,rfl,rfl,I,hb,by rw[←s.1,←P.1];exact z,h _ _ _ _ t1.sf (O.turn B G ⋯ (rG.news pE J ((s.keepUpd t).append (NY P))) ?_ λq Q=>?_)⟩
  .rw[fAq,vv,aNq];exact ak.mpr ⟨t,L⟩
  .rw[fAq,vv,aNq]at Q;exact M q Q
 .cases e
theorem FV:∀{ds}{n}{key},xD K H ds n->match getD ds key with
  |some d=>∃v,Fx n key=some v/\ug K H d v
  |none=>Fx n key=none
 | [],n,key,h=>by
  have:n=[]:=by
   have:=congrArg bU h.1;simpa using this.symm
  subst this;rfl
 |d::ds,[],key,h=>by
  have:=congrArg bU h.1;simp at this
 |d::ds,v::n,key,h=>by
  have s:d.1=v.1/\ds.map (·.1)=n.map (·.1):=by
   have:=h.1;simpa using this
  have t:ug K H d.2 v.2:=h.2 0 d v rfl rfl;have ht:xD K H ds n:=⟨s.2,λi a b u x=>h.2 (i+1) a b (by simpa using u) (by simpa using x)⟩
  unfold getD Fx
  by_cases c:d.1=key
  .rw[eE (by simp[c]),eE (by simp[←s.1,c])]
   exact⟨v.2,rfl,t⟩
  .rw[dg (by simp[c]),dg (by simp[←s.1,c])]
   exact FV ht
def A4(h:yY d=some key)(r:ug K H d v):v=kV key:=by
 cases r <;> simp only[yY]at h
 all_goals first|(simp at h;done)|skip
 all_goals (cases h;rfl)
def xD.key(h:xD K H ds n){i:Nat}(s:ds[i]?=some d)(t:n[i]?=some v):d.1=v.1:=by
 have:=congrArg (λl=>l[i]?) h.1
 simp only[gMq,s,t,cw]at this;exact aY.inj this
def xD.len(h:xD K H ds n):ds.length=n.length:=by
 have:=congrArg bU h.1;simpa using this
def Q3(h:xD K H ds u)(r:ug K H d v):xD K H (FC ds key d) (Ha u key v):=by
 have ha:(ds.any λn=>decide (n.1=key))=u.any λn=>decide (n.1=key):=by
  have s:(ds.any λn=>decide (n.1=key))=(ds.map (·.1)).any λk=>decide (k=key):=by rw[jn];rfl
  have t:(u.any λn=>decide (n.1=key))=(u.map (·.1)).any λk=>decide (k=key):=by rw[jn];rfl
  rw[s,t,h.1]
 unfold FC Ha;rw[ha];split
 .refine⟨?_,λi a b s t=>?_⟩
  .rw[mPq,mPq];have s:((λn=>n.1)∘λn=>if n.1=key then (n.1,d)else n)=λn=>n.1:=by
    funext n;show(if n.1=key then (n.1,d)else n).1=n.1
    split <;> rfl
   have t:((λn=>n.1)∘λn=>if n.1=key then (n.1,v)else n)=λn=>n.1:=by
    funext n;show(if n.1=key then (n.1,v)else n).1=n.1
    split <;> rfl
   rw[s,t];exact h.1
  .rw[gMq]at s t;obtain⟨z,B,rfl⟩:=oMq.mp s;obtain⟨G,E,rfl⟩:=oMq.mp t;have hk:=h.key B E
   by_cases c:z.1=key
   .rw[qf c,qf (hk ▸ c)];exact r
   .rw[qj c,qj (hk ▸ c)];exact h.2 i z G B E
 .refine⟨by rw[mBq,mBq,h.1];rfl,λi a b s t=>?_⟩
  by_cases hi:i<ds.length
  .rw[gZq hi]at s;rw[gZq (h.len ▸ hi)]at t;exact h.2 i a b s t
  .have x:i=ds.length:=by
    have:=(gSq.mp s).1;rw[lAq,lSq]at this;lia
   subst x;rw[gYq (ae _),cj]at s;rw[h.len,gYq (ae _),cj]at t;cases s;cases t;exact r
noncomputable def As:MK:=λS=>some (.owd [],S)
def ad0:SK K ZY As:=by
 intro H₀ n Hf S σ H x z B R e Q q;cases e;intro p s;obtain⟨t,R2,u,E,G⟩:=R.new s;exact q _ _ _ (.ref p) [p] t R2 (.owd pE u ⟨rfl,λi d v h=>by simp at h⟩) (D5.one R s)
theorem rq.owd(R:rq K H₀ n Hf S σ H t)(h:S[i]?=some (some (.owd ds))):∃p s,σ[i]?=some (some (.ref p))/\t[i]?=some [p]/\H p=some (.dK s)/\Hf p=none/\xD K Hf ds s /\
  H₀ p=none/\p∉(t.set i []).flatten:=by
 obtain⟨v,F,u,x,r,nd,o,_⟩:=R.move h;obtain⟨p,s,rfl,rfl,z,B,E⟩:=r.owd_inv;exact⟨p,s,u,x,z,B,E,(o p ⋯).1,(o p ⋯).2⟩
def aei(hk:SK K te k)(hb:SR K tb b):SS K (aau (xq i) tb te) (Ay i b k):=by
 intro H₀ u Hf S σ H Fs o R e D h;obtain⟨x,M,e⟩:=oBq.mp e;obtain⟨a0,T,e⟩:=oBq.mp e;obtain⟨y,U,e⟩:=oBq.mp e;obtain⟨oX,X,e⟩:=oBq.mp e;obtain⟨key,Y,e⟩:=oBq.mp e;rcases qL e with⟨hl,e⟩|e
 .cases e;have z:SK K te (yF k):=SK.frz hk;refine z R M _ λHf1 H1 Fs1 v F t1 O P o1=>?_
  obtain⟨p',_,B,_⟩:=O.owd (zJ T);refine⟨_,B,hb O U _ λHf2 H2 Fs2 w Q R2 r2=>?_⟩
  obtain⟨q',kv,n,E,G,I,s,J,L⟩:=R2.owd (zJ X);rw[B]at n;cases n;obtain⟨x1,t⟩:∃d,x.1 = .sh d:=by
   obtain⟨w,_,e⟩:=oMq.mp M;rw[←e];exact⟨_,rfl⟩
  rw[t]at P;have rv:=(P.sh_inv.2).mono Q.sf;have hw:=A4 Y r2;subst hw;refine⟨p',_,rfl,Wi.k G (by rw[←s.len];exact hl),h _ _ _ _ (t1.sf.trans Q.sf) (R2.turn B E ⋯ (.owd pE I ?_) ⋯ λq hq=>by rw[mSq.mp hq];exact⟨J,L⟩)⟩
  rw[t];exact Q3 s rv
 .cases e
def alp(a b:ME):ME:=λS=>(a S).bind λx=>(b x.2).bind λy=>match y.1 with
 | .dict n=>(yY x.1).map λkey=>(.bl (getD n key).isSome,y.2)
 |_=>none
def vC(a b:ME):ME:=λS=>(a S).bind λx=>(b x.2).bind λy=>match y.1 with
 | .dict n=>(yY x.1).map λkey=>(.bl (!(getD n key).isSome),y.2)
 |_=>none
def FG(a b:ME):ME:=λS=>(a S).bind λx=>(b x.2).bind λy=>match x.1 with
 | .dict n=>(yY y.1).bind λkey=>(getD n key).map λd=>(d,y.2)
 |_=>none
def WK(r:ug K H (.dict n) x)(e:getD n key=some d):∃a v,x = .ref a/\IU H a (kV key) (some v)/\ug K H d v:=by
 obtain⟨p,z,rfl,s,t⟩:=r.dict_inv;have g:=FV (key:=key) t;rw[e]at g;obtain⟨v,u,g2⟩:=g;exact⟨p,v,rfl,by rw[←u];exact IU.k s,g2⟩
def aaL(r:ug K H (.dict n) x):∃a o,x = .ref a/\IU H a (kV key) o/\o.isSome=(getD n key).isSome:=by
 obtain⟨p,z,rfl,s,t⟩:=r.dict_inv;have g:=FV (key:=key) t;refine⟨p,_,rfl,IU.k s,?_⟩;cases e:getD n key with
 |none=>rw[e]at g;rw[g];rfl
 |some d=>rw[e]at g;obtain⟨v,u,_⟩:=g;rw[u];rfl
def WW(ha:SR K ta a)(hb:SR K tb b):SR K (MU ta tb) (vC a b):=by
 intro H₀ n Hf S σ H P d T R e Q q;obtain⟨x,t,e⟩:=oBq.mp e;obtain⟨y,u,e⟩:=oBq.mp e;refine ha R t _ λz U Fs1 X B E G=>hb E u _ λI Y Fs2 v2 J R2 s=>?_
 split at e
 .rename_i oX L;rw[L]at s;obtain⟨key,M,e⟩:=oMq.mp e;cases e;obtain⟨p,o,rfl,O,g2⟩:=aaL s;refine⟨p,o,rfl,by rw[A4 M G];exact O,?_⟩
  rw[g2];exact q _ _ _ _ (B.trans J) R2 .bl
 .cases e
def adS(ha:SR K ta a)(hb:SR K tb b):SR K (Zm ta tb) (FG a b):=by
 intro H₀ n Hf S σ H T d U R e Q q;obtain⟨x,u,e⟩:=oBq.mp e;obtain⟨y,z,e⟩:=oBq.mp e;refine ha R u _ λB X Fs1 Y E G s=>hb G z _ λI H2 Fs2 v2 t R2 J=>?_
 split at e
 .rename_i oX L;rw[L]at s;obtain⟨key,M,e⟩:=oBq.mp e;obtain⟨d',O,e⟩:=oMq.mp e;cases e;obtain⟨p,v,rfl,P,g2⟩:=WK (s.mono t.sh) O;exact⟨p,v,rfl,by rw[A4 M J];exact P,q _ _ _ _ (E.trans t) R2 g2⟩
 .cases e
noncomputable def uY(x:Nat)(body:MS):List D->AS->Option Lm
 | [],S=>some (.nx S)
 |d::ds,S=>(body (S.set x (some (.sh d)))).bind λo=>match o with
  | .nx S'=>uY x body ds S'
  | .ct S'=>uY x body ds S'
  | .bk S'=>some (.nx S')
  | .rt a=>some (.rt a)
noncomputable def vE:D->Option (List D)
 | .list ds=>some ds
 | .scr ns=>some (ns.map .int)
 |_=>none
def ET(x:Nat)(k:MK)(body:MS):MS:=λS=>(yF k S).bind λy=>(vE (pD y.1)).bind λds=>uY x body ds y.2
def sV(lo:Int)(n:Nat):List D:=(bT n).map λi:Nat=>.int (lo+i)
def Lc:List D->Option (List D)
 | [.int j]=>yH (-(2 ^ 62)<=j/\j<2 ^ 62) (some (sV 0 j.toNat))
 |_=>none
def alD:List D->Option (List D)
 | [.int i,.int j]=>yH (-(2 ^ 62)<=i/\i<2 ^ 62/\-(2 ^ 62)<=j/\j<2 ^ 62) (some (sV i (j-i).toNat))
 |_=>none
def Hw(x:Nat)(a:ML)(body:MS):MS:=λS=>(a S).bind λy=>(Lc y.1).bind λds=>uY x body ds y.2
def alC(x:Nat)(a:ML)(body:MS):MS:=λS=>(a S).bind λy=>(alD y.1).bind λds=>uY x body ds y.2
noncomputable def Rw(x y:Nat)(body:MS):Nat->List D->AS->Option Lm
 |_,[],S=>some (.nx S)
 |i,d::ds,S=>(body ((S.set x (some (.sh (.int i)))).set y (some (.sh d)))).bind λo=>match o with
  | .nx S'=>Rw x y body (i+1) ds S'
  | .ct S'=>Rw x y body (i+1) ds S'
  | .bk S'=>some (.nx S')
  | .rt a=>some (.rt a)
def ajo(x y:Nat)(k:MK)(body:MS):MS:=λS=>(yF k S).bind λz=>(vE (pD z.1)).bind λds=>Rw x y body 0 ds z.2
noncomputable def Hb(x y:Nat)(body:MS):List D->List D->AS->Option Lm
 |d::ds,e::es,S=>(body ((S.set x (some (.sh d))).set y (some (.sh e)))).bind λo=>match o with
  | .nx S'=>Hb x y body ds es S'
  | .ct S'=>Hb x y body ds es S'
  | .bk S'=>some (.nx S')
  | .rt a=>some (.rt a)
 |_,_,S=>some (.nx S)
def Yg(x y:Nat)(k l:MK)(body:MS):MS:=λS=>(yF k S).bind λz=>(yF l z.2).bind λw=>(vE (pD z.1)).bind λds=>(vE (pD w.1)).bind λn=>
 if ds.length=n.length then Hb x y body ds n w.2 else none
noncomputable def vL(c:MT)(body:MS):Nat->MS
 |0,_=>none
 |n+1,S=>(c S).bind λx=>if x.1=true then (body x.2).bind λo=>match o with
   | .nx S'=>vL c body n S'
   | .ct S'=>vL c body n S'
   | .bk S'=>some (.nx S')
   | .rt a=>some (.rt a)
  else some (.nx x.2)
def DG(e:vE d=some ds)(r:ug K H d v):∃a vs,v = .ref a/\uO K H a vs/\sq K H ds vs:=by
 cases d with
 |list t=>
  cases e;obtain⟨p,vs,rfl,n,s⟩:=r.list_inv;exact⟨p,vs,rfl,uO.of n,s⟩
 |scr ns=>
  cases e;cases r with
  |scr h=>exact⟨_,_,rfl,h,zA ns⟩
 |_=>cases e
def Gk{te:TE}(e:yF k S=some z):∃d,z.1 = .sh d:=by
 obtain⟨w,_,e⟩:=oMq.mp e;rw[←e];exact⟨_,rfl⟩
def rq.setD(R:rq K H₀ n Hf S σ H s)i(r:ug K Hf d v):rq K H₀ n Hf (S.set i (some (.sh d))) (σ.set i (some v)) H (s.set i []):=
 R.set i (.sh r) ba λq h=>(by cases h)
def RD(hk:SK K te k)(hb:SS K tb body):SS K (VX (XY K te) (vo x) tb) (ET x k body):=by
 intro H₀ E Hf S σ H Fs o R e D h;obtain⟨z,e1,e⟩:=oBq.mp e;obtain⟨ds,e2,e⟩:=oBq.mp e;have Y:SK K te (yF k):=SK.frz hk;refine Y R e1 _ λI H1 Fs1 v F t1 R1 r1 o1=>?_
 obtain⟨d,hd⟩:=Gk (te:=te) e1;rw[hd]at r1;rw[hd]at e2;obtain⟨a,vs,rfl,g1,g2⟩:=DG e2 r1.sh_inv.2;refine⟨a,rfl,⟨vs,R1.sub.seq g1⟩,XN (λi s T=>∃n J t,rq K H₀ E n J s T t/\qO I n/\uY x body (ds.drop i) J=some o) ⟨I,z.2,Fs1,R1,.refl _,e⟩
  (λi s T _ ⟨n,J,t,L,B,_⟩=>L.sub.seq (B.seq g1)) ?_ ?_⟩
 .rintro i w s T hw ⟨n,J,t,L,B,G⟩;obtain⟨di,M,rw'⟩:=g2.get' hw;have hlt:=(gSq.mp M).1;rw[aQ hlt]at G;have O:=(gSq.mp M).2;rw[O]at G;obtain⟨ob,e3,U⟩:=oBq.mp G;refine hb (L.setD x (rw'.mono B)) e3 _ ?_;cases ob with
  |nx X=>exact λu P H2 Fs2 Q R2=>⟨u,X,Fs2,R2,B.trans Q,U⟩
  |ct X=>exact λu P H2 Fs2 Q R2=>⟨u,X,Fs2,R2,B.trans Q,U⟩
  |bk X=>cases U;exact λu P H2 Fs2 Q R2=>h _ _ _ _ ((t1.sf.trans B).trans Q) R2
  |rt a=>cases U;exact h
 .rintro s T ⟨n,J,t,L,B,G⟩;rw[←g2.1,de]at G;cases G;exact h _ _ _ _ (t1.sf.trans B) L
def WI{D}(hb:SS K tb body)(R1:rq K H₀ s Hf1 R σ X Fs1)(e:uY x body (sV lo n) R=some o)(h:Gv K H₀ s Hf1 D o) :
  ∃W:Nat->Nat->St->Hp->Prop,(∃m,W 0 m σ X)/\∀i m σ H,W i m σ H ->
   ((Itr lo n).stop i H/\D.nx σ H)∨((Itr lo n).go i H/\∃N:St->Hp->Prop,(∀t u,N t u->∃Y,Y<m/\W (i+1) Y t u)/\∀v u,(Itr lo n).yld i H v u->vo x v σ u λz M=>tb { D with nx:=N,ct:=N,bk:=D.nx } z M):=by
 refine Wu (λi t u=>∃B O G,rq K H₀ s B O t u G/\qO Hf1 B/\uY x body ((sV lo n).drop i) O=some o) ⟨Hf1,R,Fs1,R1,.refl _,e⟩ ?_ ?_
 .rintro i t u hi ⟨B,O,G,S,J,I⟩;have T:i<(sV lo n).length:=by unfold sV;rw[lMq,bq];exact hi
  rw[aQ T]at I;have U:(sV lo n)[i] = .int (lo+i):=by simp[sV]
  rw[U]at I;obtain⟨ob,e3,P⟩:=oBq.mp I;refine hb (S.setD x .int) e3 _ ?_;cases ob with
  |nx Q=>exact λE z M Fs2 L R2=>⟨E,Q,Fs2,R2,J.trans L,P⟩
  |ct Q=>exact λE z M Fs2 L R2=>⟨E,Q,Fs2,R2,J.trans L,P⟩
  |bk Q=>cases P;exact λE z M Fs2 L R2=>h _ _ _ _ (J.trans L) R2
  |rt a=>cases P;exact h
 .rintro t u ⟨B,O,G,S,J,I⟩;have hl:(sV lo n).length=n:=by unfold sV;rw[lMq,bq]
  rw[cu (ff hl)]at I;cases I;exact h _ _ _ _ J S
def Pf(ha:Yu K t a)(hb:SS K tb body):SS K (VX (ZR t) (vo x) tb) (Hw x a body):=by
 intro H₀ s Hf S σ H P o R e D h;obtain⟨z,E,e⟩:=oBq.mp e;obtain⟨Q,n,e⟩:=oBq.mp e;refine ha R E _ λG T Fs1 U I J u=>?_
 unfold Lc at n;split at n
 .rename_i j L;rcases qL n with⟨B,n⟩|n
  .cases n;rw[L]at u;obtain⟨v,X,rfl,M,O⟩:=u.cons_inv;rw[O.nil_inv];cases M;exact⟨j,rfl,B.1,B.2,WI hb J e (h.mono I.sf)⟩
  .cases n
 .cases n
def acf(hk:SK K te k)(hl:SK K tf l)(hb:SS K tb body):SS K (VX (ajW K (vG te (vG tf xY))) (S7 K 2 (Cr (vo x) (Cr (vo y) Sn))) tb) (Yg x y k l body):=by
 intro H₀ G Hf S σ H Fs o R e D h;obtain⟨z,e1,e⟩:=oBq.mp e;obtain⟨w,J,e⟩:=oBq.mp e;obtain⟨ds,e2,e⟩:=oBq.mp e;obtain⟨es,L,e⟩:=oBq.mp e;split at e
 .rename_i M;have hk':SK K te (yF k):=SK.frz hk;have hl':SK K tf (yF l):=SK.frz hl;refine hk' R e1 _ λHf1 H1 Fs1 v F t1 R1 r1 o1=>hl' R1 J _ λn H2 Fs2 v2 F2 t2 R2 r2 o2=>?_
  obtain⟨d,hd⟩:=Gk (te:=te) e1;obtain⟨d2,O⟩:=Gk (te:=te) J;rw[hd]at r1;rw[hd]at e2;rw[O]at r2;rw[O]at L;obtain⟨a,vs,rfl,g1,g2⟩:=DG e2 (r1.sh_inv.2.mono t2.sf);obtain⟨b,ws,rfl,g3,g4⟩:=DG L r2.sh_inv.2;refine⟨a,b,rfl,⟨vs,R2.sub.seq g1⟩,⟨ws,R2.sub.seq g3⟩,acB (λi B H'=>∃s P E,rq K H₀ G s P B H' E/\qO n s/\Hb x y body (ds.drop i) (es.drop i) P=some o) ⟨n,w.2,Fs2,R2,.refl _,e⟩ (by rw[←g2.1,←g4.1,M])
   (λi B H' _ ⟨s,P,E,I,t,_⟩=>⟨I.sub.seq (t.seq g1),I.sub.seq (t.seq g3)⟩) ?_ ?_⟩
  .rintro i u u' B H' T hu hu' ⟨s,P,E,I,t,Q⟩ hT;obtain⟨di,U,rw'⟩:=g2.get' hu;obtain⟨ei,X,rw2⟩:=g4.get' hu';have hlt:=(gSq.mp U).1;have Y:=(gSq.mp X).1;rw[aQ hlt,aQ Y,(gSq.mp U).2,(gSq.mp X).2]at Q;obtain⟨ob,e3,e4⟩:=oBq.mp Q;have R3:=(I.new (o:=.tup [u,u']) hT).2.1;refine hb ((R3.setD x (rw'.mono t)).setD y (rw2.mono t)) e3 _ ?_;cases ob with
   |nx S2=>exact λn σ2 H2 Fs2 s2 R2=>⟨n,S2,Fs2,R2,t.trans s2,e4⟩
   |ct S2=>exact λn σ2 H2 Fs2 s2 R2=>⟨n,S2,Fs2,R2,t.trans s2,e4⟩
   |bk S2=>cases e4;exact λn σ2 H2 Fs2 s2 R2=>h _ _ _ _ (((t1.sf.trans t2.sf).trans t).trans s2) R2
   |rt a=>cases e4;exact h
  .rintro B H' ⟨s,P,E,I,t,Q⟩;have e0:ds.drop vs.length=[]:=by rw[←g2.1,de]
   rw[e0]at Q;cases Q;exact h _ _ _ _ ((t1.sf.trans t2.sf).trans t) I
 .cases e
def Zk{c}n(hc:MB K c m)(hb:SS K tb body):SS K (aaI c tb) (vL m body n):=by
 intro H₀ t Hf S σ H Fs o R e D h;refine⟨λn I X=>∃s G B,rq K H₀ t s G I X B/\qO Hf s/\vL m body n G=some o,⟨n,Hf,S,Fs,R,.refl _,e⟩,?_⟩
 rintro n I X ⟨s,G,B,R',M,Y⟩;cases n with
 |zero=>cases Y
 |succ n=>
  obtain⟨z,e1,U⟩:=oBq.mp Y;refine hc R' e1 _ λHf1 H1 Fs1 O R1=>?_
  split at U
  .rename_i P;rw[P];refine VZ ⟨λu J=>∃s G B,rq K H₀ t s G u J B/\qO Hf s/\vL m body n G=some o,λu J w=>⟨n,cZ n,w⟩,?_⟩
   obtain⟨ob,e3,Q⟩:=oBq.mp U;refine hb R1 e3 _ ?_;cases ob with
   |nx T=>exact λE u J Fs2 L R2=>⟨E,T,Fs2,R2,(M.trans O.sf).trans L,Q⟩
   |ct T=>exact λE u J Fs2 L R2=>⟨E,T,Fs2,R2,(M.trans O.sf).trans L,Q⟩
   |bk T=>cases Q;exact λE u J Fs2 L R2=>h _ _ _ _ ((M.trans O.sf).trans L) R2
   |rt a=>cases Q;exact h
  .rename_i P;rw[ee]at P;rw[P];cases U;exact Se (h _ _ _ _ (M.trans O.sf) R1)
noncomputable def tj(l n:Nat)(m:MS):MF:=λds=>if ds.length=l then (m (ds.map (λd=>some (.sh d))++aE (n-ds.length) none)).bind λo=>match o with
  | .rt a=>some a
  | .nx _=>some (.sh .non)
  |_=>none
 else none
def LS{K}N(s:qO Hf H)(r:sq K Hf ds vs) :
  rq K H Hf Hf (ds.map (λd=>some (.sh d))++aE (N.length-ds.length) none) (L2.vm N vs) H (aE (ds.length+(N.length-ds.length)) []):=by
 have fl:=vv (ds.length+(N.length-ds.length));refine⟨by simp[L2.vm,r.1],by simp,λi B e=>?_,λi e=>?_,by rw[fl];exact ba,λp l=>(by rw[fl]at l;cases l),s,qO.refl _,λb h _=>h,qO.refl _⟩
 .by_cases hi:i<ds.length
  .rw[gZq (by simpa using hi),gMq]at e
   obtain⟨d,n,t⟩:=oMq.mp e;cases t;obtain⟨v,u,x⟩:=r.get n;refine⟨v,[],?_,?_,.sh x⟩
   .unfold L2.vm;rw[gZq (by simpa[←r.1]using hi),gMq,u]
    rfl
   .rw[bR,qf ∅]
  .rw[gYq (by simpa using hi)]at e
   have:=mGq e;have z:=eV this;cases z
 .rw[bR];have hi:=(gSq.mp e).1;rw[lAq,lMq,bG]at hi;rw[qf hi]
def FE{K}N(h:SS K t m)(I:rW K (tj G N.length m) vs H Q E):t { nx:=λ_ u=>Q .non u,rt:=Q } (L2.vm N vs) H:=by
 obtain⟨Hf,S,a,s,r,e,q⟩:=I;unfold tj at e;split at e
 .obtain⟨o,J,x⟩:=oBq.mp e;refine h (LS N s r) J _ ?_;cases o with
  |rt T=>
   cases x;exact λn u v F z L M l r nd fr=>q n u v F z L M l r nd fr
  |nx B=>
   cases x;exact λn O u P z R=>q n u .non [] R.sf R.fr R.sub R.lim (.sh .non) ba λq h=>(by cases h)
  |bk B=>cases x
  |ct B=>cases x
 .cases e
def Ox(t:rW K (tj l n m) vs H Q E):vs.length=l:=by
 obtain⟨Hf,u,a,s,r,e,q⟩:=t;unfold tj at e;split at e
 .rename_i h;rw[←r.1,h]
 .cases e
noncomputable def fzAll:Θ->AS->Option AS
 | [],S=>some S
 |j::js,S=>(S[j]?.join).bind λa=>fzAll js (S.set j (some (.sh (pD a))))
noncomputable def ahD:Option AV->Option AV
 |some (.sh d)=>some (.sh d)
 |_=>none
def KM(S:AS):Θ->Option AS
 | []=>some []
 |j::js=>(ahD S[j]?.join).bind λa=>(KM S js).map (some a :: ·)
noncomputable def uF(l:MT)(te:MK)(cap:AS):List D->Option (List AV)
 | []=>some []
 |d::ds=>(l (some (.sh d)::cap)).bind λb=>if b.1=true then (te b.2).bind λa=>(uF l te cap ds).map (a.1 :: ·)else uF l te cap ds
abbrev MI:=AS->Option (List D×AS)
def D8(k:MK):MI:=λS=>(yF k S).bind λy=>(vE (pD y.1)).map λds=>(ds,y.2)
def iR1(a:ML):MI:=λS=>(a S).bind λy=>(Lc y.1).map λds=>(ds,y.2)
def xQ(l:MI)(fr:Θ)(t:MT)(te:MK):MK:=λS=>(l S).bind λy=>(fzAll fr y.2).bind λs=>(KM s fr).bind λcap=>yH (y.1.length<=tH) ((uF t te cap y.1).map λn=>(.ow n,s))
def xp:MT:=λS=>some (true,S)
def rq.fz(R:rq K H₀ Hf₀ Hf S σ H Fs)(e:S[j]?.join=some a):∃Hf' Fs',C5 Hf H Fs Hf' H Fs'/\rq K H₀ Hf₀ Hf' (S.set j (some (.sh (pD a)))) σ H Fs':=by
 obtain⟨v,F,s,t,r,nd,o,u⟩:=R.move (rS e);have n:=λq l=>(r.owned q l).2
 have R2:=u.frz o n;have x:=r.frozen (ur n) λq l=>CJ l
 have z:=R2.again (F:=F) s (.sh x) ba λq h=>(by cases h)
 refine⟨_,_,⟨ur n,.refl _,λp B=>tI B,λb h g=>?_⟩,z⟩
 by_cases m:b∈F
 .exact .inr (mFq.mpr ⟨F,mGq t,m⟩)
 .rw[yq m]at g;exact absurd h g
theorem rq.fzAll:∀{fr}{Hf}{S S'}{Fs},rq K H₀ Hf₀ Hf S σ H Fs->fzAll fr S=some S'->∃Hf' Fs',C5 Hf H Fs Hf' H Fs'/\rq K H₀ Hf₀ Hf' S' σ H Fs'
 | [],Hf,S,S',Fs,R,e=>by
  cases e;exact⟨Hf,Fs,.refl,R⟩
 |j::js,Hf,S,S',Fs,R,e=>by
  obtain⟨a,n,s⟩:=oBq.mp e;obtain⟨t,Fs1,u,x⟩:=R.fz n;obtain⟨l,Fs2,z,R2⟩:=rq.fzAll x s;exact⟨l,Fs2,u.trans z,R2⟩
theorem PY(R:rq K H₀ Hf₀ Hf S σ H Fs):∀{fr}{cap},KM S fr=some cap->cap.length=fr.length/\∀(k:Nat) a,cap[k]?=some (some a)->∃d v,a = .sh d/\(slots σ fr)[k]?=some (some v)/\ug K Hf d v
 | [],cap,e=>by
  cases e;exact⟨rfl,λk a h=>by simp at h⟩
 |j::js,cap,e=>by
  obtain⟨a,l,t⟩:=oBq.mp e;obtain⟨s,u,x⟩:=oMq.mp t;subst x;obtain⟨z,B⟩:=PY R u;refine⟨by simp[z],λk b hk=>?_⟩
  cases k with
  |zero=>
   cases hk;cases n:S[j]?.join with
   |none=>rw[n]at l;cases l
   |some c=>
    rw[n]at l;cases c with
    |sh d=>
     cases l;obtain⟨v,F,E,G,r⟩:=R.rep j _ (rS n);refine⟨d,v,rfl,?_,r.sh_inv.2⟩;show some ((σ[j]?).join)=_;rw[E];rfl
    |_=>cases l
  |succ k=>exact B k b (by simpa using hk)
def Wv(R:rq K H₀ Hf₀ Hf S σ H Fs)(e:KM S fr=some cap)(s:ug K Hf d x) :
  rq K H₀ Hf₀ Hf (some (.sh d)::cap) (some x::slots σ fr) H (aE (cap.length+1) []):=by
 obtain⟨t,u⟩:=PY R e;have fl:=vv (cap.length+1);refine⟨by simp[slots,t],by simp,λi z l=>?_,λi l=>?_,by rw[fl];exact ba,λp n=>(by rw[fl]at n;cases n),R.sub,R.fr,R.lim,R.sf⟩
 .cases i with
  |zero=>
   cases l;exact⟨x,[],rfl,by simp,.sh s⟩
  |succ k=>
   have hk:=(gSq.mp (by simpa using l)).1
   obtain⟨E,v,rfl,B,r⟩:=u k z (by simpa using l)
   exact⟨v,[],by simpa using B,by rw[bR,qf ∅],.sh r⟩
 .rw[bR];have hi:=(gSq.mp l).1;rw[qf (by simpa using hi)]
def rq.updOut(R:rq K H₀ Hf₀ Hf S σ H Fs)(l:p∉Fs.flatten)(n:Hf p=none)(s:H₀ p=none):rq K H₀ Hf₀ Hf S σ (ri H p o) Fs where
 len:=R.len
 lenF:=R.lenF
 rep:=λi t e=>by
  obtain⟨v,F,s1,s2,r⟩:=R.rep i t e;exact⟨v,F,s1,s2,r.keepUpd λm=>l (ti s2 m)⟩
 emp:=R.emp
 nd:=R.nd
 fresh:=R.fresh
 sub:=λb u e=>by
  rw[pe λz=>by rw[z,n]at e;cases e]
  exact R.sub b u e
 fr:=λb u e=>by
  rw[pe λz=>by rw[z,s]at e;cases e]
  exact R.fr b u e
 lim:=R.lim
 sf:=R.sf
def rq.outer(R:rq K H₀ Hf₀ Hf S σ H Fs)(E:rq K H₀ Hf₀ l I u s n)(t:C5 Hf H Fs2 l s n)(J:Fs2.flatten=[]):C5 Hf H Fs l s Fs/\rq K H₀ Hf₀ l S σ s Fs:=by
 have g:=λb x B=>by
  by_cases e:l b=none
  .exact e
  .rcases t.gr b x e with z|z
   .exact absurd z B
   .rw[J]at z;cases z
 exact⟨⟨t.sf,t.sh,λ_ h=>h,λb x B=>.inl (by
  by_cases e:H b=none
  .exact e
  .exact absurd (g b x e) B)⟩,R.more t.sh t.sf E.sub (λq G=>g q (R.mem G).2 (R.mem G).1) E.lim⟩
def Wo{rest}{N:Hp->Prop}(hf:MB K tf mf)(he:SK K te me)
  (R:rq K H₀ n Hf S1 σ H Fs1) (t:C5 Hf1 O Fs1 Hf H Fs1) (ha:H l=some (.lst vs)) (hfa:Hf l=none) (ra:qC K Hf H as vs P) (ow:D5 H₀ O Fs1 Fs1 (l::P.flatten)) (la:as.length<=i) (hlm:as.length<tH) (ea:Q=as++rest)
  (Ri:rq K H₀ n Hf Si J H (aE nn [])) (er:((mf Si).bind λb=>if b.1=true then (me b.2).bind λa=>nx.map (a.1 :: ·)else nx)=some rest) (S:O l=none) (n2:H₀ l=none) (n3:l∉Fs1.flatten)
  (hN:∀{Hf H}{as}{vs}{P}{rest},rq K H₀ n Hf S1 σ H Fs1->C5 Hf1 O Fs1 Hf H Fs1->H l=some (.lst vs)->Hf l=none->qC K Hf H as vs P->D5 H₀ O Fs1 Fs1 (l::P.flatten)->as.length<=i+1->nx=some rest->Q=as++rest->N H) :
  tf J H λb H2=>if b=true then te J H2 λy H3=>∃ys,H3 l=some (.lst ys)/\ys.length<ku/\N (ri H3 l (.lst (ys++[y])))else N H2:=by
 obtain⟨b,e1,e2⟩:=oBq.mp er;have fl:=vv nn;refine hf Ri (b:=b.1) (S':=b.2) e1 _ λT H2 Fs2 t2 R2=>?_
 obtain⟨B,L⟩:=R.outer R2 t2 fl;have u:H2 l=some (.lst vs):=t2.sh _ _ ha;have E:T l=none:=by
  by_cases z:T l=none
  .exact z
  .rcases t2.gr l hfa z with z|z
   .rw[ha]at z;cases z
   .rw[fl]at z;cases z
 have M:=ra.stp (λq x=>ow.out q (mCo _ x)) B
 split at e2
 .rename_i hb;rw[hb];obtain⟨a,e3,e4⟩:=oBq.mp e2;obtain⟨rest',e5,e6⟩:=oMq.mp e4;subst e6;refine he R2 e3 _ λU H3 Fs3 v F t3 R3 r3 o3=>?_
  have fl2:Fs2.flatten=[]:=by
   cases hz:Fs2.flatten with
   |nil=>rfl
   |cons z zs=>
    have:=t2.own z (by rw[hz];simp)
    rw[fl]at this;cases this
  obtain⟨X,R3'⟩:=L.outer R3 t3 fl2;have ha3:=t3.sh _ _ u;have G:U l=none:=by
   by_cases z:U l=none
   .exact z
   .rcases t3.gr l E z with z|z
    .rw[u]at z;cases z
    .rw[fl2]at z;cases z
  have ra3:=M.stp (λq x=>ow.out q (mCo _ x)) X
  have s:=λq x=>(o3.new q x).elim id λz=>by rw[fl2]at z;cases z
  have I:l∉F:=λm=>by rw[s l m]at u;cases u
  have Y:=(ak.mp ow.nd).1;have tt:=(t.trans B).trans X;refine⟨vs,ha3,?_,?_⟩
  .rw[EA,←ra.1];lia
  .refine hN (R3'.updOut n3 G n2) ⟨tt.sf,λb o eb=>?_,λ_ h=>h,tt.gr⟩ pE G ((ra3.keepUpd Y).snoc (r3.keepUpd I)) ?_ (by rw[lAq,lSq];lia) e5 (by rw[ea];simp)
   .rw[pe λz=>by rw[z,S]at eb;cases eb]
    exact tt.sh b o eb
   .rw[fAq,aR];have oF:D5 H₀ O Fs1 Fs1 F:=⟨o3.nd,o3.fr,λq x m=>(L.mem m).1 (s q x),λq x=>.inl ((t.trans B).sh.free (s q x))⟩
    refine(ow.app oF λq x m=>?_)
    rcases ah.mp x with z|z
    .rw[z]at m;exact I m
    .exact(M.owned q z).1 (s q m)
 .rename_i hb;rw[ee]at hb;rw[hb];exact Se (hN L (t.trans B) u E M ow ∅ e2 ea)
def Ln{J:It}{Q:VK}(hf:MB K tf mf)(he:SK K te me)
  (R1:rq K H₀ s Hf1 L σ E Fs1) (ec:KM L fr=some cap) (hl:ds.length<=tH) (e:uF mf me cap ds=some z)
  (S:∀i H,qO Hf1 H->i<ds.length->J.go i H) (T:∀H,qO Hf1 H->J.stop ds.length H) (hy:∀i H x n,qO Hf1 H->i<ds.length->J.yld i H x n->n=H/\∃d,ds[i]?=some d/\ug K Hf1 d x)
  (q:∀G n v F,C5 Hf1 E Fs1 G n Fs1->rq K H₀ s G L σ n Fs1->rG K G n (.ow z) v F->D5 H₀ E Fs1 Fs1 F->Q v n) :
  ∀l,E l=none->∃W:Nat->Nat->Hp->Prop,(∃m,W 0 m (ri E l (.lst [])))/\∀i m H,W i m H ->
   (J.stop i H/\Q (.ref l) H) ∨
   (J.go i H/\∃N:Hp->Prop,(∀n,N n->∃m',m'<m/\W (i+1) m' n)/\∀x n,J.yld i H x n->tf (some x::slots σ fr) n λb H2=>
    if b=true then te (some x::slots σ fr) H2 λy H3=>∃U,H3 l=some (.lst U)/\U.length<ku/\N (ri H3 l (.lst (U++[y])))else N H2):=by
 intro l u;obtain⟨t0,R0,n1,n2,n3⟩:=R1.new u
 let P:=λi H=>∃Hf M X Y rest,rq K H₀ s Hf L σ H Fs1/\C5 Hf1 E Fs1 Hf H Fs1/\H l=some (.lst X)/\Hf l=none/\qC K Hf H M X Y/\D5 H₀ E Fs1 Fs1 (l::Y.flatten)/\M.length<=i /\
  uF mf me cap (ds.drop i)=some rest/\z=M++rest
 refine⟨λi m H=>m=ds.length-i/\i<=ds.length/\P i H,⟨ds.length,by simp,bb _,Hf1,[],[],[],z,R0,t0,pE,n1,.nil,D5.one R1 u,bb _,e,rfl⟩,?_⟩
 rintro i m H ⟨rfl,hi,Hf,M,X,Y,rest,R,t,ha,I,ra,ow,la,O,ea⟩;have hs:=t.sf.trans R.sub
 by_cases B:i<ds.length
 .refine .inr ⟨S i H hs B,P (i+1),λn p=>⟨ds.length-(i+1),by lia,rfl,B,p⟩,λx n y=>?_⟩
  obtain⟨rfl,d,hd,rx⟩:=hy i H x n hs B y;rw[aQ B,(gSq.mp hd).2]at O;exact Wo hf he R t ha I ra ow la ∅ ea (Wv R ec (rx.mono t.sf)) O u n2 n3 λa b c d e f g h i=>⟨_,_,_,_,_,a,b,c,d,e,f,g,h,i⟩
 .have e0:i=ds.length:=by lia
  subst e0;rw[de]at O;cases O;rw[aNq]at ea;subst ea;exact .inl ⟨T H hs,q Hf H (.ref l) _ t R (rG.news ha I ra) ow⟩
def Jk(hk:SK K tl k)(O:MB K tf mf)(P:SK K te me):SK K (Vc (XY K tl) fr tf te) (xQ (D8 k) fr mf me):=by
 intro H₀ B Hf S σ H Fs av S' R e Q q;obtain⟨y,l,e⟩:=oBq.mp e;obtain⟨z,I,l⟩:=oBq.mp l;obtain⟨ds,J,l⟩:=oMq.mp l;subst l;obtain⟨S2,T,e⟩:=oBq.mp e;obtain⟨U,X,e⟩:=oBq.mp e;rcases qL e with⟨hl,e⟩|e
 .obtain⟨Y,e5,e⟩:=oMq.mp e;cases e;have E:SK K tl (yF k):=SK.frz hk;refine E R I _ λHf1 H1 Fs1 v F L R1 M o1=>?_
  obtain⟨d,hd⟩:=Gk (te:=tl) I;rw[hd]at M;rw[hd]at J;obtain⟨Hf2,Fs2,G,R2⟩:=R1.fzAll T;obtain⟨a,n,rfl,u,g2⟩:=DG J (M.sh_inv.2.mono G.sf);refine⟨a,rfl,⟨n,R2.sub.seq u⟩,Ln O P R2 X hl e5 (λi H s hi=>⟨n,n[i]'(g2.1 ▸ hi),s.seq u,gEg (g2.1 ▸ hi)⟩) (λH s=>⟨n,s.seq u,ff g2.1.symm⟩) (λi H x H' s hi y=>?_) λHf' H' v F t R' r o=>q _ _ _ v F ((L.trans G).trans t) R' r (o.back (L.trans G))⟩
  obtain⟨y1,y2⟩:=y;obtain⟨di,h1,h2⟩:=g2.get' (y2 n (s.seq u));exact⟨y1,di,h1,h2⟩
 .cases e
def Em(h:i<n):(sV lo n)[i]?=some (.int (lo+i)):=by
 unfold sV;rw[gMq,eU h];rfl
def uJ(lo)n:(sV lo n).length=n:=by unfold sV;rw[lMq,bq]
def W9(ha:Yu K B a)(L:MB K tf mf)(M:SK K te me):SK K (Vc (ZR B) fr tf te) (xQ (iR1 a) fr mf me):=by
 intro H₀ u Hf S σ H Fs av S' R e Q q;obtain⟨y,n,e⟩:=oBq.mp e;obtain⟨z,O,n⟩:=oBq.mp n;obtain⟨ds,l,n⟩:=oMq.mp n;subst n;obtain⟨S2,P,e⟩:=oBq.mp e;obtain⟨T,U,e⟩:=oBq.mp e;rcases qL e with⟨hl,e⟩|e
 .obtain⟨X,Y,e⟩:=oMq.mp e;cases e;refine ha R O _ λHf1 H1 Fs1 vs E R1 G=>?_
  unfold Lc at l;split at l
  .rename_i j hz;rcases qL l with⟨I,l⟩|l
   .cases l;rw[hz]at G;obtain⟨v,ws,rfl,h1,h2⟩:=G.cons_inv;rw[h2.nil_inv];cases h1;obtain⟨Hf2,Fs2,J,R2⟩:=R1.fzAll P;refine⟨j,rfl,I.1,I.2,Ln L M R2 U hl Y (λi H s hi=>(by rw[uJ]at hi;exact hi)) (λH s=>(by rw[uJ];exact ae _)) (λi H x H' s hi y=>?_) λHf' H' v F t R' r o=>q _ _ _ v F ((E.trans J).trans t) R' r (o.back (E.trans J))⟩
    obtain⟨y1,y2⟩:=y;rw[uJ]at hi;exact⟨y1,_,Em hi,by rw[y2];exact .int⟩
   .cases l
  .cases l
 .cases e
def R9:MB K aju xp:=by
 intro H₀ l Hf S σ H n b s R e Q q;cases e;exact q _ _ _ .refl R
mutual
def py:D->Option PyData
 | .non=>some .none
 | .bl b=>some (.bool b)
 | .int i=>some (.int i)
 | .str x=>some (.str x)
 | .list ds=>(pyL ds).map .list
 | .tup ds=>(pyL ds).map .tuple
 |_=>none
def pyL:List D->Option (List PyData)
 | []=>some []
 |d::ds=>(py d).bind λx=>(pyL ds).map (x :: ·)
end
noncomputable def ZH(d e:D):Option D:=(py d).bind λa=>(py e).bind λb=>if SeqAt.shaped a=true/\SeqAt.shaped b=true/\SeqAt.noMix a b=true then some (.bl (PySem.Spec.same a b))else none
def ang(d e:D):Option D:=(ZH d e).bind Xj
noncomputable abbrev dI(ns:Ϝ):D:=.list (ns.map .int)
abbrev dM(rs:Λ):D:=.list (rs.map dI)
def ZP(ns:Ϝ):pyL (ns.map .int)=some (ns.map PyData.int):=by
 induction ns with
 |nil=>simp[pyL]
 |cons n ns l=>simp[pyL,py,l]
def ags ns:py (dI ns)=some (AU ns):=by
 simp only[py,ZP];rfl
def aaH(rs:Λ):pyL (rs.map dI)=some (rs.map AU):=by
 induction rs with
 |nil=>simp[pyL]
 |cons r rs l=>
  show pyL (dI r::rs.map dI)=_;simp only[pyL,ags,l];rfl
def ajf rs:py (dM rs)=some (Kn rs):=by
 simp only[py,aaH];rfl
def IT r:SeqAt.shaped (AU r)=true:=by
 have n:=W.depthAll_ints r;have l:PyData.depth (AU r)<=64:=by simp only[AU,PyData.depth];lia
 show(PyData.canLay0 (AU r) && decide (PyData.depth (AU r)<=64))=true;rw[dU];exact⟨by exact W.canLayAll0_ints r,d0 l⟩
@[simp] theorem alx ns ms:ZH (dI ns) (dI ms)=some (.bl (decide (ns=ms))):=by
 unfold ZH;rw[ags,ags];show(if _ then _ else _)=_
 rw[qf ⟨IT ns,IT ms,by exact W.noMix_ints ns ms⟩]
 simp only[AU,PySem.Spec.same,W.same_ints]
@[simp] theorem alQ rs l:ZH (dM rs) (dM l)=some (.bl (decide (rs=l))):=by
 unfold ZH;rw[ajf,ajf];show(if _ then _ else _)=_
 rw[qf ⟨HF rs,HF l,by exact JQ rs l⟩]
 simp only[Kn,PySem.Spec.same,LH]
def HN(l:ML):MK:=λS=>(l S).map λx=>(.ow (x.1.map .sh),x.2)
def Ss(l:ML):MK:=λS=>(l S).bind λx=>(vU x.1).map λns=>(.ow ((ER ns).map λn=>.sh (.int n)),x.2)
def zW:List D->Option Λ
 | []=>some []
 | .list ds::es=>(vU ds).bind λr=>(zW es).map (r :: ·)
 |_=>none
theorem D1:∀{ds}{rs},zW ds=some rs->ds=rs.map dI
 | [],rs,h=>by cases h;rfl
 |d::ds,rs,h=>by
  cases d with
  |list t=>
   obtain⟨r,l,h⟩:=oBq.mp (h);obtain⟨u,n,s⟩:=oMq.mp h;subst s;rw[D1 n,Bi l];rfl
  |_=>cases h
@[simp] theorem S9 rs:zW (rs.map dI)=some rs:=by
 induction rs with
 |nil=>rfl
 |cons r rs l=>
  show(vU (r.map .int)).bind (λr=>(zW (rs.map dI)).map (r :: ·))=_
  rw[vO,l];rfl
def alA(l:ML):MK:=λS=>(l S).bind λx=>(zW x.1).map λrs=>(.ow ((A7 rs).map λr=>.sh (dI r)),x.2)
def abT(hl:SQ K te l):SK K (tCB (λxs H Q=>∃p n,xs=[.ref p]/\(uO K H p n∨GW K H p n)/\∀l,H l=none->Q (.ref l) (ri H l (.lst n))) (vG te xY)) (HN l):=by
 intro H₀ s Hf S σ H T U X R e Q q;obtain⟨x,E,e⟩:=oMq.mp e;cases e;refine hl R E _ λG Y Fs1 I t u z J L=>⟨I,t,rfl,.inl J,λp B=>?_⟩
 obtain⟨M,O,P,n2,n3⟩:=z.new B;exact q _ _ _ (.ref p) [p] (u.trans M) O (rG.new pE P L) ((D5.one z B).back u)
def HD(ns:Ϝ):(ns.map λn=>AV.sh (.int n))=(ns.map D.int).map .sh:=by rw[mPq];rfl
def Yb(hl:SQ K te l):SK K (tCB (λxs H Q=>∃a ns,xs=[.ref a]/\uO K H a (ns.map V.int)/\∀p,H p=none->Q (.ref p) (ri H p (.lst ((ER ns).map V.int)))) (vG te xY)) (Ss l):=by
 intro H₀ n Hf S σ H T U X R e Q q;obtain⟨x,E,e⟩:=oBq.mp e;obtain⟨ns,G,e⟩:=oMq.mp e;cases e;refine hl R E _ λI Y Fs1 J L s t u z=>?_
 rw[Bi G]at z;rw[wC z]at u;refine⟨J,ns,rfl,u,λp B=>?_⟩
 obtain⟨M,O,P,n2,n3⟩:=t.new B;rw[HD]at q;exact q _ _ _ (.ref p) [p] (s.trans M) O (rG.new pE P (zA _)) ((D5.one t B).back s)
theorem yu:∀{rs}{vs},sq K H (rs.map dI) vs->∃ps,vs=ps.map V.ref/\tZ H ps rs
 | [],vs,h=>⟨[],h.nil_inv,.nil⟩
 |r::rs,vs,h=>by
  obtain⟨v,z,rfl,s,t⟩:=sq.cons_inv h;obtain⟨p,us,rfl,n,u⟩:=s.list_inv;rw[wC u]at n;obtain⟨ps,rfl,x⟩:=yu t;exact⟨p::ps,rfl,tZ.cons_iff.mpr ⟨n,x⟩⟩
noncomputable def tyD:String->D->Bool
 |T,.list _=>T == "list"
 |T,.scr _=>T == "list"
 |T,.str _=>T == "str"
 |_,_=>false
def rBM(T:String)(f:D->List D->Option D)(a:ME)(as:ML):ME:=λS=>(a S).bind λx=>if tyD T x.1=true then (as x.2).bind λy=>(f x.1 y.1).map λd=>(d,y.2)else none
def BmD(K:Ζ)(r:V->List V->Hp->VK->Prop)(f:D->List D->Option D):Prop:=∀{x}{vs}{H}{Q}{l}{ds}{d},ug K H l x->sq K H ds vs->f l ds=some d->(∀v,ug K H d v->Q v H)->r x vs H Q
def ah2(h:tyD T d=true)(s:ug K H d v):tyV K T v H:=by
 cases s <;> simp only[tyD]at h
 all_goals first|(simp at h;done)|skip
 .exact eq_of_beq h
 .rename_i p t u n l e;exact .inl ⟨eq_of_beq h,t,uO.of n⟩
 .rename_i p ns n;exact .inl ⟨eq_of_beq h,_,n⟩
def akR(hr:BmD K r f)(ha:SR K te a)(t:Yu K ta as):SR K (W0 K T r te ta) (rBM T f a as):=by
 intro H₀ l Hf S σ H U d X R e Q q;obtain⟨x,u,e⟩:=oBq.mp e;split at e
 .rename_i B;obtain⟨y,E,e⟩:=oBq.mp e;obtain⟨z,G,e⟩:=oMq.mp e;cases e;refine ha R u _ λI Y Fs1 v J L n=>⟨ah2 B n,t L E _ λM H2 Fs2 vs s R2 O=>?_⟩
  exact hr (n.mono s.sh) O G λv P=>q _ _ _ v (J.trans s) R2 P
 .cases e
def BN:D->List D->Option D
 | .list ds,[.int k]=>(vU ds).bind λns=>if k∈ns then some (.int (ns.idxOf k:Nat))else none
 |_,_=>none
def abm:BmD K (aax K) BN:=by
 intro x E H Q G I d l s e q;unfold BN at e;split at e
 .rename_i J k;obtain⟨ns,t,e⟩:=oBq.mp e;split at e
  .rename_i hk;cases e;obtain⟨v,L,rfl,u,z⟩:=s.cons_inv;rw[z.nil_inv];cases u;rw[Bi t]at l;obtain⟨p,us,rfl,n,B⟩:=l.list_inv;rw[wC B]at n;exact⟨p,ns,k,rfl,rfl,uO.of n,hk,q _ .int⟩
  .cases e
 .cases e
def abA(a:ME):ME:=λS=>(a S).bind λx=>match x.1 with
 | .list ds=>(zW ds).map λrs=>(.int (rs.countP (·=([]:Ϝ)):Nat),x.2)
 |_=>none
def adH(ha:SR K te a):SR K (W0 K "list" Yk te (vG (Zy xY) xY)) (abA a):=by
 intro H₀ l Hf S σ H X d Y R e Q q;obtain⟨x,z,e⟩:=oBq.mp e;refine ha R (d:=x.1) (S':=x.2) z _ λB E Fs1 v G I s=>?_
 split at e
 .rename_i ds J;obtain⟨L,M,e⟩:=oMq.mp e;cases e;rw[J,D1 M]at s;obtain⟨p,us,rfl,n,O⟩:=s.list_inv;obtain⟨P,rfl,t⟩:=yu O;refine⟨.inl ⟨rfl,_,uO.of n⟩,bb _,λb hb=>?_⟩
  obtain⟨u,U,n1,n2,n3⟩:=I.new (o:=.lst []) hb;refine⟨p,b,P,L,[],rfl,rfl,(by rw[pe (tE n hb)];exact n),t.same u.sh,pE,t.free (H:=E) hb,q _ _ _ _ (G.trans u) U .int⟩
 .cases e
noncomputable def K9:D->Option Bool
 | .non=>some false
 | .bl b=>some b
 | .int i=>some (i != 0)
 | .list ds=>some (!ds.isEmpty)
 | .tup ds=>some (!ds.isEmpty)
 | .dict ds=>some (!ds.isEmpty)
 |_=>none
def Pa(a:ME):MT:=λS=>(a S).bind λx=>(K9 x.1).map λb=>(b,x.2)
def Dq{α β:Type}{xs:List α}{l:List β}(h:xs.length=l.length):(!xs.isEmpty) = !l.isEmpty:=by
 cases xs <;> cases l <;> simp at h ⊢
def Y3(ha:SR K te a):MB K (λσ H Q=>te σ H λx z=>∃k,agP K x z k/\Q k z) (Pa a):=by
 intro H₀ u Hf S σ H L b M R e Q q;obtain⟨x,B,e⟩:=oBq.mp e;obtain⟨c,l,e⟩:=oMq.mp e;cases e;refine ha R B _ λE O Fs1 v G I n=>⟨_,?_,q _ _ _ G I⟩
 cases J:x.1 <;> rw[J]at l n <;> simp only[K9]at l
 all_goals first|(simp at l;done)|skip
 .cases n;cases l;rfl
 .cases n;cases l;rfl
 .cases n;cases l;rfl
 .obtain⟨p,us,rfl,s,t⟩:=n.list_inv;cases l;exact .inl ⟨us,uO.of s,Dq t.1⟩
 .obtain⟨p,us,rfl,s,t⟩:=n.tup_inv;cases l;exact .inr (.inl ⟨us,GW.of s,Dq t.1⟩)
 .obtain⟨p,us,rfl,s,t⟩:=n.dict_inv;cases l;exact .inr (.inr ⟨us,s,Dq t.len⟩)
noncomputable def rR:AV->Θ->Option (List AV)
 | .ow l,[]=>some l
 | .ow l,j::js=>(l[j]?).bind λa=>rR a js
 |_,_=>none
noncomputable def putAt:AV->Θ->List AV->AV
 | .ow _,[],as=>.ow as
 | .ow l,j::n,as=>match l[j]? with
  |some a=>.ow (l.set j (putAt a n as))
  |none=>.ow l
 |a,_,_=>a
def NT(H:Hp):V->Θ->V->Prop
 |v,[],w=>v=w
 |v,j::js,w=>∃p vs u,v = .ref p/\H p=some (.lst vs)/\vs[j]?=some u/\NT H u js w
section
variable {S:AS}
theorem Ct:∀{Fs:List Δ}{F G}i,Fs.flatten.Nodup->Fs[i]?=some G->F.Nodup->(∀p∈F,p∈G∨p∉Fs.flatten)->(Fs.set i F).flatten.Nodup
 | [],F,G,i,h,e,_,_=>by simp at e
 |E::Gs,F,G,0,h,e,hF,hd=>by
  simp at e;subst e;rw[fc,fCq,nAq];rw[fCq,nAq]at h;refine⟨hF,h.2.1,λa ha b hb e=>?_⟩
  subst e;rcases hd a ha with z|z
  .exact h.2.2 a z a hb rfl
  .exact z (by exact ay _ hb)
 |E::Gs,F,G,i+1,h,e,hF,hd=>by
  rw[gF,fCq,nAq];rw[fCq,nAq]at h;have l:=by simpa using e
  refine⟨h.1,Ct i h.2.1 l hF λp n=>(hd p n).imp id λz m=>z (by exact ay _ m),λa ha b hb e=>?_⟩
  subst e;rcases vg hb with q|q
  .rcases hd a q with z|z
   .exact h.2.2 a ha a (mFq.mpr ⟨G,mGq l,z⟩) rfl
   .exact z (by exact bw _ ha)
  .exact h.2.2 a ha a q rfl
theorem JG:∀{Fs:List Δ}{F G}{i j:Nat}{p},Fs.flatten.Nodup->Fs[i]?=some F->Fs[j]?=some G->i≠j->p∈F->p∉G
 | [],F,G,i,j,p,_,e,_,_,_,_=>by simp at e
 |E::Es,F,G,0,0,p,h,e,f,n,_,_=>n rfl
 |E::Es,F,G,0,j+1,p,h,e,f,n,hp,m=>by
  simp at e;subst e;rw[fCq,nAq]at h;exact h.2.2 p hp p (mFq.mpr ⟨G,mGq (by simpa using f),m⟩) rfl
 |E::Es,F,G,i+1,0,p,h,e,f,n,hp,m=>by
  simp at f;subst f;rw[fCq,nAq]at h;exact h.2.2 p m p (mFq.mpr ⟨F,mGq (by simpa using e),hp⟩) rfl
 |E::Es,F,G,i+1,j+1,p,h,e,f,n,hp,m=>by
  rw[fCq,nAq]at h;exact JG h.2.1 (by simpa using e) (by simpa using f) (λz=>n (by rw[z])) hp m
theorem rG.path:∀{path}{M}{v}{F}{as},rG K Hf H M v F->F.Nodup->rR M path=some as->∃p vs J,NT H v path (.ref p)/\H p=some (.lst vs)/\Hf p=none/\qC K Hf H as vs J/\p∈F/\p∉J.flatten/\J.flatten.Nodup/\(∀q∈J.flatten,q∈F) /\
  ∀t s l,qC K Hf (ri H p (.lst s)) t s l->(p::l.flatten).Nodup->(∀q∈l.flatten,q∈J.flatten∨q∉F)->∃F',rG K Hf (ri H p (.lst s)) (putAt M path t) v F'/\F'.Nodup/\∀q∈F',q∈F∨q∈l.flatten
 | [],M,v,F,as,r,nd,e=>by
  cases M with
  |ow u=>
   cases e;obtain⟨p,vs,J,rfl,rfl,U,X,E⟩:=r.ow_inv;have n:=ak.mp nd;refine⟨p,vs,J,rfl,U,X,E,by simp,n.1,n.2,λq B=>mCo _ B,λt s l r' O _=>⟨p::l.flatten,rG.news pE X r',O,λq B=>?_⟩⟩
   rcases ah.mp B with z|z
   .exact .inl (by rw[z];simp)
   .exact .inr z
  |_=>cases e
 |j::js,M,v,F,as,r,nd,e=>by
  cases M with
  |ow u=>
   obtain⟨a,e1,e2⟩:=oBq.mp (show(u[j]?).bind (λa=>rR a js)=some as from e)
   obtain⟨L,I,Gs0,rfl,rfl,U,X,E⟩:=r.ow_inv;have n:=ak.mp nd;have Q:j<u.length:=(gSq.mp e1).1;have Y:I[j]?=some (I[j]'(E.1 ▸ Q)):=gEg _;have R:Gs0[j]?=some (Gs0[j]'(E.2.1 ▸ Q)):=gEg _;generalize I[j]'(E.1 ▸ Q)=vj at Y;generalize Gs0[j]'(E.2.1 ▸ Q)=Fj at R;have rj:=E.2.2 j a vj Fj e1 Y R;have ndj:Fj.Nodup:=bo.sublist (ax (mGq R)) n.2;have sub:∀q∈Fj,q∈Gs0.flatten:=λq B=>ti R B
   obtain⟨p,vs,J,g1,g2,g3,g4,g5,g6,g6',g7,g8⟩:=rG.path rj ndj e2;have pne:L≠p:=λz=>n.1 (z ▸ sub p g5)
   refine⟨p,vs,J,⟨L,I,vj,rfl,U,Y,g1⟩,g2,g3,g4,mCo _ (sub p g5),g6,g6',λq B=>mCo _ (sub q (g7 q B)),λt s l r' O hd=>?_⟩
   obtain⟨F',k1,k2,k3⟩:=g8 t s l r' O λq B=>(hd q B).imp id λz m=>z (mCo _ (sub q m))
   have hF':∀q∈F',q∈Fj∨q∉Gs0.flatten:=λq B=>by
    rcases k3 q B with z|z
    .exact .inl z
    .rcases hd q z with y|y
     .exact .inl (g7 q y)
     .exact .inr λm=>y (mCo _ m)
   refine⟨L::(Gs0.set j F').flatten,?_,ak.mpr ⟨λm=>?_,Ct j n.2 R k2 hF'⟩,λq B=>?_⟩
   .show rG K Hf (ri H p (.lst s)) (match u[j]? with|some a=>.ow (u.set j (putAt a js t))|none=>.ow u) (.ref L) _
    rw[e1];refine .ow (vs:=I) (by rw[pe pne];exact U) X (by rw[lZq];exact E.1) (by rw[lZq,lZq];exact E.2.1) λi b w G q1 q2 T=>?_
    rw[bx]at q1 T
    by_cases P:j=i
    .subst P;rw[qf rfl,qf Q]at q1;rw[qf rfl,qf (E.2.1 ▸ Q)]at T;rw[Y]at q2;cases q1;cases q2;cases T;exact k1
    .rw[qj P]at q1 T;exact(E.2.2 i b w G q1 q2 T).keepUpd λm=>JG n.2 R T P g5 m
   .rcases vg m with z|z
    .rcases k3 L z with y|y
     .exact n.1 (sub L y)
     .rcases hd L y with x|x
      .exact n.1 (sub L (g7 L x))
      .exact x ⋯
    .exact n.1 z
   .rcases ah.mp B with z|z
    .exact .inl (by rw[z];simp)
    .rcases vg z with z|z
     .exact(k3 q z).imp (λy=>mCo _ (sub q y)) id
     .exact .inl (mCo _ z)
  |_=>cases e
def rq.turnAny(R:rq K H₀ Hf₀ Hf S σ H Fs)(s1:σ[i]?=some (some v))(s2:Fs[i]?=some F)(s:p∈F)(r:rG K Hf (ri H p o) B v F')(nd:F'.Nodup)
  (I:∀q∈F',H₀ q=none/\q∉(Fs.set i []).flatten):rq K H₀ Hf₀ Hf (S.set i (some B)) σ (ri H p o) (Fs.set i F'):=by
 have t:=mFq.mpr ⟨F,mGq s2,s⟩;have pn:=(R.mem t).2;have J:=R.fresh p t;have out:=xT R.nd s2 s;have L:rq K H₀ Hf₀ Hf (S.set i none) σ (ri H p o) (Fs.set i []):=by
  refine⟨by simp[R.len],by simp[R.lenF],λj a n=>?_,λj n=>?_,uh i R.nd ba (λp s=>by cases s),λp s=>R.fresh p (tI s),λb u e=>?_,λb u e=>?_,R.lim,R.sf⟩
  .rw[bx]at n
   by_cases l:i=j
   .subst l;rw[qf rfl]at n;split at n <;> cases n
   .rw[qj l]at n;obtain⟨w,G,M,E,q⟩:=R.rep j a n;refine⟨w,G,M,by rw[aA l];exact E,q.keep (.refl _) (λc x=>pe λe=>out ?_) λc x=>(q.owned c x).2⟩
    subst e;exact mFq.mpr ⟨G,mGq (by rw[aA l];exact E),x⟩
  .rw[bx]at n
   by_cases l:i=j
   .subst l;rw[qf rfl]at n;split at n
    .rename_i hi;rw[aV (R.lenF.symm ▸ hi)]
    .cases n
   .rw[qj l]at n;rw[aA l];exact R.emp j n
  .rw[pe λz=>by rw[z,pn]at e;cases e]
   exact R.sub b u e
  .rw[pe λz=>by rw[z,J]at e;cases e]
   exact R.fr b u e
 exact L.again (F:=F) s1 r nd I
def rq.kill(R:rq K H₀ Hf₀ Hf S σ H Fs)x:rq K H₀ Hf₀ Hf (S.set x none) σ H (Fs.set x []):=by
 refine⟨by simp[R.len],by simp[R.lenF],λj a n=>?_,λj n=>?_,uh x R.nd ba (λp s=>by cases s),λp s=>R.fresh p (tI s),R.sub,R.fr,R.lim,R.sf⟩
 .rw[bx]at n
  by_cases l:x=j
  .subst l;rw[qf rfl]at n;split at n <;> cases n
  .rw[qj l]at n;obtain⟨w,G,t,u,q⟩:=R.rep j a n;exact⟨w,G,t,by rw[aA l];exact u,q⟩
 .rw[bx]at n
  by_cases l:x=j
  .subst l;rw[qf rfl]at n;split at n
   .rename_i hi;rw[aV (R.lenF.symm ▸ hi)]
   .cases n
  .rw[qj l]at n;rw[aA l];exact R.emp j n
def rq.any(R:rq K H₀ Hf₀ Hf (S.set x none) σ H Fs)v:rq K H₀ Hf₀ Hf (S.set x none) (σ.set x (some v)) H Fs where
 len:=by rw[R.len,lZq]
 lenF:=R.lenF
 rep:=λi n e=>by
  by_cases l:x=i
  .subst l;rw[bx]at e;rw[qf rfl]at e;split at e <;> cases e
  .obtain⟨w,G,s,t,q⟩:=R.rep i n e;exact⟨w,G,by rw[aA l];exact s,t,q⟩
 emp:=R.emp
 nd:=R.nd
 fresh:=R.fresh
 sub:=R.sub
 fr:=R.fr
 lim:=R.lim
 sf:=R.sf
end
def aaT(d:D):List AV->Option (List AV)
 | []=>some []
 | .ow as::r=>yH (as.length<tH) ((aaT d r).map (.ow (as++[.sh d]) :: ·))
 |_=>none
def agv(i x:Nat)(d:D):MS:=λS=>if i=x∨S.length<=x then none else if d.scal=true then (tM S i).bind λl=>(aaT d l).map λbs=>.nx ((S.set i (some (.ow bs))).set x none)else none
noncomputable abbrev aI(ns:Ϝ):AV:=.ow (ns.map λn=>.sh (.int n))
noncomputable def L8:List AV->Option Ϝ
 | []=>some []
 | .sh (.int i)::r=>(L8 r).map (i :: ·)
 |_=>none
def Ms:List AV->Option Λ
 | []=>some []
 | .ow as::r=>(L8 as).bind λns=>(Ms r).map (ns :: ·)
 |_=>none
theorem OV:∀{as}{ns},L8 as=some ns->as=ns.map λn=>.sh (.int n)
 | [],ns,h=>by cases h;rfl
 |a::as,ns,h=>by
  cases a with
  |sh d=>
   cases d with
   |int i=>
    obtain⟨t,l,s⟩:=oMq.mp (h);subst s;rw[OV l];rfl
   |_=>cases h
  |_=>cases h
theorem O4:∀{as}{rs},Ms as=some rs->as=rs.map aI
 | [],rs,h=>by cases h;rfl
 |a::as,rs,h=>by
  cases a with
  |ow t=>
   obtain⟨r,l,h⟩:=oBq.mp (h);obtain⟨u,n,s⟩:=oMq.mp h;subst s;rw[O4 n,OV l];rfl
  |_=>cases h
@[simp] theorem VY ns:L8 (ns.map λn=>.sh (.int n))=some ns:=by
 induction ns with
 |nil=>rfl
 |cons n ns l=>show(L8 (ns.map λn=>.sh (.int n))).map (n :: ·)=_;rw[l];rfl
@[simp] theorem Wm rs:Ms (rs.map aI)=some rs:=by
 induction rs with
 |nil=>rfl
 |cons r rs l=>show(L8 (r.map λn=>.sh (.int n))).bind (λns=>(Ms (rs.map aI)).map (ns :: ·))=_;rw[VY,l];rfl
def IJ(k:MK):MK:=λS=>(k S).bind λx=>match x.1 with
 | .ow l=>(Ms l).map λrs=>(.ow ((A7 rs).map aI),x.2)
 |_=>none
def RQ(h:rG K Hf H (aI ns) v F):∃p,v = .ref p/\F=[p]/\H p=some (.lst (ns.map V.int))/\Hf p=none:=by
 obtain⟨p,l,s,rfl,rfl,t,u,x⟩:=h.ow_inv;have e:∀{ns:Ϝ}{l:List V}{s:List Δ},qC K Hf H (ns.map λn=>AV.sh (.int n)) l s->l=ns.map V.int/\s.flatten=[]:=by
  intro ns
  induction ns with
  |nil=>
   intro l s h;obtain⟨a,b⟩:=h.nil_inv;exact⟨a,by rw[b];rfl⟩
  |cons n ns z=>
   intro l s h;obtain⟨v,P,F,B,rfl,rfl,E,G⟩:=qC.cons_inv h;obtain⟨I,J⟩:=E.sh_inv;subst I;cases J;obtain⟨L,g2⟩:=z G;rw[L];exact⟨rfl,by rw[fCq,g2];rfl⟩
 obtain⟨M,O⟩:=e x;rw[O];subst M;exact⟨p,rfl,rfl,t,u⟩
def ahF(l:H p=some (.lst (ns.map V.int)))(n:Hf p=none):rG K Hf H (aI ns) (.ref p) [p]:=by
 have:=rG.new (K:=K) l n (zA ns);rw[←HD]at this;exact this
theorem CO:∀{rs}{vs}{l},qC K Hf H (rs.map aI) vs l->∃ps,vs=ps.map V.ref/\l=ps.map (λp=>[p])/\tZ H ps rs/\∀p∈ps,Hf p=none
 | [],vs,l,h=>by
  obtain⟨a,b⟩:=h.nil_inv;exact⟨[],a,b,.nil,λp n=>by cases n⟩
 |r::rs,vs,l,h=>by
  obtain⟨v,I,F,s,rfl,rfl,t,u⟩:=qC.cons_inv h;obtain⟨p,rfl,rfl,x,z⟩:=RQ t;obtain⟨ps,rfl,rfl,B,E⟩:=CO u;exact⟨p::ps,rfl,rfl,tZ.cons_iff.mpr ⟨x,B⟩,λq G=>(ah.mp G).elim (λe=>e ▸ z) (E q)⟩
theorem JE:∀{rs}{ps},tZ H ps rs->(∀p∈ps,Hf p=none)->qC K Hf H (rs.map aI) (ps.map V.ref) (ps.map λp=>[p])
 | [],[],_,_=>.nil
 | [],_::_,h,_=>by have:=h.length;simp at this
 |_::_,[],h,_=>by have:=h.length;simp at this
 |r::rs,p::ps,h,n=>by
  obtain⟨l,s⟩:=tZ.cons_iff.mp h;exact .cons (ahF l (n p ⋯)) (JE s λq t=>n q (mCo _ t))
def Qi(ps:Δ):(ps.map λp=>[p]).flatten=ps:=by
 induction ps with
 |nil=>rfl
 |cons p ps l=>rw[aw,fCq,l];rfl
def Xa(hk:SK K te k):SK K (tCB (λxs H Q=>∃a ps rs,xs=[.ref a]/\uO K H a (ps.map V.ref)/\tZ H ps rs /\
  ∀p qs,H p=none->qs.Perm ps->tZ (ri H p (.lst (qs.map V.ref))) qs (A7 rs)->Q (.ref p) (ri H p (.lst (qs.map V.ref)))) (vG te xY)) (IJ k):=by
 intro H₀ t Hf S σ H Fs av S' R e Q q;obtain⟨x,L,e⟩:=oBq.mp e;refine hk R L _ λM O Fs1 v F E P G n=>?_
 split at e
 .rename_i T U;obtain⟨rs,X,e⟩:=oMq.mp e;cases e;rw[U,O4 X]at G;obtain⟨I,vs,Gs,rfl,rfl,Y,h2,h3⟩:=G.ow_inv;obtain⟨ps,rfl,rfl,J,hn⟩:=CO h3;rw[Qi]at n;refine⟨I,ps,rs,rfl,uO.of Y,J,λp qs u s B=>?_⟩
  obtain⟨t4,R4,n1,n2,n3⟩:=P.new u;have pq:=λm=>J.free (H:=O) u (s.mem_iff.mp m)
  have hm:∀z∈qs,z∈I::ps:=λz l=>mCo _ (s.mem_iff.mp l)
  refine q _ _ _ (.ref p) (p::(qs.map λp=>[p]).flatten) (E.trans t4) R4 (rG.news pE n1 (JE B λz l=>hn z (s.mem_iff.mp l))) ?_
  rw[Qi];refine⟨ak.mpr ⟨pq,s.nodup_iff.mpr (ak.mp n.nd).2⟩,λz l=>?_,λz l=>?_,λz l=>?_⟩
  .rcases ah.mp l with y|y
   .rw[y];exact n2
   .exact n.fr z (hm z y)
  .rcases ah.mp l with y|y
   .rw[y];exact n3
   .exact n.out z (hm z y)
  .rcases ah.mp l with y|y
   .rw[y];exact .inl (E.sh.free u)
   .exact n.new z (hm z y)
 .cases e
def XB:AV->Option D
 | .sh d=>if d.scal=true then some d else none
 |_=>none
def uB(f:MF)(a:ML):ME:=λS=>(a S).bind λx=>(f x.1).bind λr=>(XB r).map λd=>(d,x.2)
def wQ(ha:Yu K u a):SR K (xX (rW K f) [] E0 u) (uB f a):=by
 intro H₀ t Hf S σ H Y d S' R e Q q;obtain⟨x,G,e⟩:=oBq.mp e;obtain⟨r,I,e⟩:=oBq.mp e;obtain⟨z,n,e⟩:=oMq.mp e;cases e;refine ha R G _ λs B Fs1 vs J L M=>?_
 rw[aNq];refine⟨B,x.1,r,.refl _,M,I,λO P v F s1 E s3 l T nd fr=>?_⟩
 have U:C5 s B Fs1 s P Fs1:=⟨.refl _,E,λ_ h=>h,λb h g=>absurd h g⟩
 cases r with
 |sh d'=>
  simp only[XB]at n;split at n
  .rename_i X;cases n;exact q _ _ _ v (J.trans U) (L.laid E) (T.sh_inv.2.scal X)
  .cases n
 |_=>cases n
section
variable (S:AS)
@[simp] theorem akS i:oH i S=(S[i]?.join).map λa=>(pD a,S):=rfl
@[simp] theorem ajP i:oW i S=(S[i]?.join).map λa=>(.sh (pD a),S.set i (some (.sh (pD a)))):=rfl
@[simp] theorem ajQ i:Ba i S=(S[i]?.join).map λa=>(a,S.set i none):=rfl
@[simp] theorem alW k:rOf k S=(k S).map λx=>(pD x.1,x.2):=rfl
@[simp] theorem al0 m:kSc m S=(m S).bind λx=>if x.1.scal then some (.sh x.1,x.2)else none:=rfl
@[simp] theorem ajF k:yF k S=(k S).map λx=>(.sh (pD x.1),x.2):=rfl
@[simp] theorem rC_ d:rC d S=if d.scal then some (d,S)else none:=rfl
@[simp] theorem alr f a b:qe f a b S=(a S).bind λx=>(b x.2).bind λy=>(f x.1 y.1).map λd=>(d,y.2):=rfl
@[simp] theorem aly f a:vJ f a S=(a S).bind λx=>(f x.1).map λd=>(d,x.2):=rfl
@[simp] theorem ajG a:ag9 a S=(a S).bind λx=>(Xj x.1).map λd=>(d,x.2):=rfl
@[simp] theorem akn a b:M5 a b S=(a S).bind λx=>if x.1=true then some (true,x.2)else b x.2:=rfl
@[simp] theorem ahL a:xy a S=(a S).map λx=>(!x.1,x.2):=rfl
noncomputable def ahr:D->Option Bool
 | .bl b=>some b
 |_=>none
@[simp] theorem alS a:tJ a S=(a S).bind λx=>(ahr x.1).map λb=>(b,x.2):=by
 show(a S).bind _=_;congr 1;funext x;obtain⟨d,l⟩:=x;cases d <;> rfl
@[simp] theorem ajI a b:Qr a b S=(a S).bind λx=>(ahr x.1).bind λc=>if c=true then b x.2 else some (.bl false,x.2):=by
 show(a S).bind _=_;congr 1;funext x;obtain⟨d,l⟩:=x;cases d <;> try rfl
 rename_i c;cases c <;> rfl
@[simp] theorem ab3 b:ahr (.bl b)=some b:=rfl
@[simp] theorem aks:oV S=some ([],S):=rfl
@[simp] theorem aha k r:oE k r S=(k S).bind λx=>(r x.2).map λy=>(x.1::y.1,y.2):=rfl
@[simp] theorem agt:ph S=some ([],S):=rfl
@[simp] theorem abU k r:oK k r S=(k S).bind λx=>(r x.2).map λy=>(x.1::y.1,y.2):=rfl
@[simp] theorem ajT a:sZ a S=(a S).bind λx=>yH (x.1.length<=tH) (some (.ow x.1,x.2)):=rfl
@[simp] theorem ajv a:wz a S=(a S).bind λx=>yH (x.1.length<=tH) (some (.sh (.tup (x.1.map pD)),x.2)):=rfl
@[simp] theorem akj a b:D7 a b S=(a S).bind λx=>(b x.2).bind λy=>yH (x.1.length+y.1.length<=tH) (some (.ow ((x.1++y.1).map .sh),y.2)):=rfl
@[simp] theorem ais:zb S=some (none,S):=rfl
@[simp] theorem agi m:yd m S=(m S).bind λx=>(intOf x.1).map λi=>(some i,x.2):=by
 show(m S).bind _=_;congr 1;funext x;obtain⟨d,l⟩:=x;cases d <;> rfl
@[simp] theorem VH i:intOf (.int i)=some i:=rfl
@[simp] theorem al7 l lo hi:Py l lo hi S=(l S).bind λx=>(lo x.2).bind λy=>(hi y.2).map λz=>(.ow ((yw x.1 y.1 z.1).map .sh),z.2):=rfl
@[simp] theorem alN l b:Xp l b S=(l S).bind λx=>(b x.2).bind λy=>(intOf y.1).bind λi=>(atI x.1 i).map λd=>(.sh d,y.2):=by
 show(l S).bind _=_;congr 1;funext x;congr 1;funext y;obtain⟨d,n⟩:=y;cases d <;> rfl
@[simp] theorem alP f a:ze f a S=(a S).bind λx=>(f x.1).map λd=>(d,x.2):=rfl
@[simp] theorem agz f a:pJ f a S=(a S).bind λx=>(f (x.1.map pD)).map λr=>(r,x.2):=rfl
@[simp] theorem ahP f a:uB f a S=(a S).bind λx=>(f x.1).bind λr=>(XB r).map λd=>(d,x.2):=rfl
@[simp] theorem ahI:pX S=some (.nx S):=rfl
noncomputable def aaG(o:Option Lm)(b:MS):Option Lm:=o.bind λo=>match o with
 | .nx S'=>b S'
 |o=>some o
@[simp] theorem YX b:aaG (some (.nx S)) b=b S:=rfl
@[simp] theorem Zd a b:aaG (some (.rt a)) b=some (.rt a):=rfl
@[simp] theorem akN a b:oZ a b S=aaG (a S) b:=rfl
@[simp] theorem akE i k:pR i k S=(k S).map λx=>.nx (x.2.set i (some x.1)):=rfl
@[simp] theorem akM k:qh k S=(k S).map λx=>.rt x.1:=rfl
@[simp] theorem alo c a b:wZ c a b S=(c S).bind λx=>if x.1=true then a x.2 else b x.2:=rfl
@[simp] theorem ajl i k:zf i k S=(tM S i).bind λ_=>(k S).bind λx=>(tM x.2 i).bind λl=>yH (l.length<tH) (some (.nx (x.2.set i (some (.ow (l++[x.1])))))):=rfl
@[simp] theorem akO i l:Rz i l S=(tM S i).bind λ_=>(l S).bind λx=>(tM x.2 i).bind λn=>yH (n.length+x.1.length<=tH) (some (.nx (x.2.set i (some (.ow (n++x.1.map .sh)))))):=rfl
@[simp] theorem aiP i b k:Ay i b k S=(yF k S).bind λx=>(yZ x.2 i).bind λ_=>(b x.2).bind λy=>(yZ y.2 i).bind λl=>(yY y.1).bind λkey=>
 yH (l.length<tH) (some (.nx (y.2.set i (some (.owd (FC l key (pD x.1))))))):=rfl
noncomputable def dictOf:D->Option (List (qM×D))
 | .dict l=>some l
 |_=>none
@[simp] theorem PK l:dictOf (.dict l)=some l:=rfl
@[simp] theorem WA i:yY (.int i)=some (.inl i):=rfl
@[simp] theorem ZO a b:vC a b S=(a S).bind λx=>(b x.2).bind λy=>(dictOf y.1).bind λl=>(yY x.1).map λkey=>(.bl (!(getD l key).isSome),y.2):=by
 show(a S).bind _=_;congr 1;funext x;congr 1;funext y;obtain⟨d,n⟩:=y;cases d <;> rfl
@[simp] theorem aiT a b:FG a b S=(a S).bind λx=>(b x.2).bind λy=>(dictOf x.1).bind λl=>(yY y.1).bind λkey=>(getD l key).map λd=>(d,y.2):=by
 show(a S).bind _=_;congr 1;funext x;obtain⟨d,n⟩:=x;cases d <;> rfl
@[simp] theorem ag4:As S=some (.owd [],S):=rfl
@[simp] theorem aj9 x k body:ET x k body S=(yF k S).bind λy=>(vE (pD y.1)).bind λds=>uY x body ds y.2:=rfl
@[simp] theorem aem x a body:Hw x a body S=(a S).bind λy=>(Lc y.1).bind λds=>uY x body ds y.2:=rfl
@[simp] theorem aid x y k l body:Yg x y k l body S=(yF k S).bind λz=>(yF l z.2).bind λw=>(vE (pD z.1)).bind λds=>(vE (pD w.1)).bind λn=>
 if ds.length=n.length then Hb x y body ds n w.2 else none:=rfl
@[simp] theorem ahO l fr s te:xQ l fr s te S=(l S).bind λy=>(fzAll fr y.2).bind λt=>(KM t fr).bind λcap=>yH (y.1.length<=tH) ((uF s te cap y.1).map λn=>(.ow n,t)):=rfl
@[simp] theorem ajU k:D8 k S=(yF k S).bind λy=>(vE (pD y.1)).map λds=>(ds,y.2):=rfl
@[simp] theorem amc a:iR1 a S=(a S).bind λy=>(Lc y.1).map λds=>(ds,y.2):=rfl
@[simp] theorem VE:fzAll [] S=some S:=rfl
@[simp] theorem SE j(l:Θ):fzAll (j::l) S=(S[j]?.join).bind λa=>fzAll l (S.set j (some (.sh (pD a)))):=rfl
@[simp] theorem aaV:KM S []=some []:=rfl
@[simp] theorem WY j(l:Θ):KM S (j::l)=(ahD S[j]?.join).bind λa=>(KM S l).map (some a :: ·):=rfl
@[simp] theorem air l:HN l S=(l S).map λx=>(.ow (x.1.map .sh),x.2):=rfl
@[simp] theorem adP l:Ss l S=(l S).bind λx=>(vU x.1).map λns=>(.ow ((ER ns).map λn=>.sh (.int n)),x.2):=rfl
noncomputable def agA:AV->Option (List AV)
 | .ow l=>some l
 |_=>none
@[simp] theorem aci l:agA (.ow l)=some l:=rfl
@[simp] theorem X7 k:IJ k S=(k S).bind λx=>(agA x.1).bind λl=>(Ms l).map λrs=>(.ow ((A7 rs).map aI),x.2):=by
 show(k S).bind _=_;congr 1;funext x;obtain⟨d,n⟩:=x;cases d <;> rfl
@[simp] theorem alw T f a as:rBM T f a as S=(a S).bind λx=>if tyD T x.1=true then (as x.2).bind λy=>(f x.1 y.1).map λd=>(d,y.2)else none:=rfl
noncomputable def ae3:D->Option (List D)
 | .list ds=>some ds
 |_=>none
@[simp] theorem Td ds:ae3 (.list ds)=some ds:=rfl
@[simp] theorem ag7 a:abA a S=(a S).bind λx=>(ae3 x.1).bind λds=>(zW ds).map λrs=>(.int (rs.countP (·=([]:Ϝ)):Nat),x.2):=by
 show(a S).bind _=_;congr 1;funext x;obtain⟨d,l⟩:=x;cases d <;> rfl
@[simp] theorem ajV a:Pa a S=(a S).bind λx=>(K9 x.1).map λb=>(b,x.2):=rfl
def lsA:AV->Option (List D)
 | .sh (.list ds)=>some ds
 | .ow l=>some (l.map pD)
 |_=>none
@[simp] theorem ahQ ds:lsA (.sh (.list ds))=some ds:=rfl
@[simp] theorem aiN l:lsA (.ow l)=some (l.map pD):=rfl
@[simp] theorem al3 k:lOf k S=(k S).bind λx=>(lsA x.1).map λds=>(ds,x.2):=by
 show(k S).bind _=_;congr 1;funext x;obtain⟨a,l⟩:=x;cases a with
 |sh d=>cases d <;> rfl
 |_=>rfl
end
@[simp] theorem Zc (ds:List D):(ds.map AV.sh).map pD=ds:=by
 rw[mPq];have:pD∘AV.sh=id:=by funext d;simp
 rw[this,du]
def hlf:AV->AV
 | .ow l=>.ow ((l.map pD).map .sh)
 |a=>a
@[simp] theorem agw d:hlf (.sh d) = .sh d:=rfl
@[simp] theorem aiu l:hlf (.ow l) = .ow ((l.map pD).map .sh):=rfl
def IP{S:AS}(h:S[i]?=some (some a)):S.set i (some a)=S:=by
 obtain⟨hk,l⟩:=gSq.mp h;rw[←l];exact fJ hk
@[simp] theorem akB S i:C0 i S=(S[i]?.join).bind λa=>(lsA a).map λds=>(ds,S.set i (some (hlf a))):=by
 unfold C0;cases e:S[i]?.join with
 |none=>rfl
 |some a=>
  cases a with
  |sh d=>
   cases d with
   |list ds=>
    show some (ds,S)=some (ds,S.set i (i3 ds));rw[IP (rS e)]
   |_=>rfl
  |ow l=>rfl
  |owd n=>rfl
  |owl n=>rfl
def lsQ:AV->Option (List D)
 | .sh (.scr ns)=>some (ns.map .int)
 |a=>lsA a
@[simp] theorem adU ns:lsQ (.sh (.scr ns))=some (ns.map .int):=rfl
@[simp] theorem ah7 ds:lsQ (.sh (.list ds))=some ds:=rfl
@[simp] theorem agb l:lsQ (.ow l)=some (l.map pD):=rfl
@[simp] theorem ajc S i:wj i S=(S[i]?.join).bind λa=>(lsQ a).map λds=>(ds,S.set i (some (hlf a))):=by
 unfold wj;cases e:S[i]?.join with
 |none=>rfl
 |some a=>
  cases a with
  |sh d=>
   cases d with
   |list ds=>
    show some (ds,S)=some (ds,S.set i (i3 ds));rw[IP (rS e)]
   |scr ns=>
    show some (ns.map D.int,S)=some (ns.map D.int,S.set i (some (.sh (.scr ns))));rw[IP (rS e)]
   |_=>rfl
  |ow l=>rfl
  |owd n=>rfl
  |owl n=>rfl
@[simp] theorem abt i:(D.int i).scal=true:=rfl
@[simp] theorem acz i:(D.bl i).scal=true:=rfl
@[simp] theorem Yy i:(D.str i).scal=true:=rfl
@[simp] theorem aaa:D.non.scal=true:=rfl
@[simp] theorem adm i:(D.ty i).scal=true:=rfl
@[simp] theorem aas i:XB (.sh (.int i))=some (.int i):=rfl
@[simp] theorem ab0 i:XB (.sh (.bl i))=some (.bl i):=rfl
@[simp] theorem ac2 i j:CI (.int i) (.int j)=some (.bl (decide (i=j))):=rfl
@[simp] theorem GF i j:CI (.str i) (.str j)=some (.bl (decide (i=j))):=rfl
@[simp] theorem adt b:Xj (.bl b)=some (.bl (!b)):=rfl
@[simp] theorem ade i j:WZ (.int i) (.int j)=some (.bl (!decide (i=j))):=rfl
@[simp] theorem acy i j:WZ (.str i) (.str j)=some (.bl (!decide (i=j))):=rfl
@[simp] theorem Wk ds:vZ [.list ds]=some (.int ds.length):=rfl
@[simp] theorem aa4 ns:vZ [.scr ns]=some (.int ns.length):=rfl
@[simp] theorem aap ds:vZ [.tup ds]=some (.int ds.length):=rfl
@[simp] theorem Nn ds:vE (.list ds)=some ds:=rfl
@[simp] theorem ZZ ds i:HC (.list ds) (.int i)=atI ds i:=rfl
@[simp] theorem abS ns i:HC (.scr ns) (.int i)=(atI ns i).map .int:=rfl
@[simp] theorem adf d:ahD (some (.sh d))=some (.sh d):=rfl
@[simp] theorem aaX ds:tyD "list" (.list ds)=true:=rfl
def adb(S)i:tM S i=(S[i]?.join).bind agA:=by
 unfold tM;cases S[i]?.join with
 |none=>rfl
 |some a=>cases a <;> rfl
noncomputable def PR:AV->Option (List (qM×D))
 | .owd l=>some l
 |_=>none
@[simp] theorem Wt l:PR (.owd l)=some l:=rfl
def Yt(S)i:yZ S i=(S[i]?.join).bind PR:=by
 unfold yZ;cases S[i]?.join with
 |none=>rfl
 |some a=>cases a <;> rfl
theorem OQ(P:Nat->AS->Prop):∀{ds}{S}{k},P k S->(∀i d S,ds[i]?=some d->P (k+i) S->∃S',(body (S.set x (some (.sh d)))=some (.nx S')∨body (S.set x (some (.sh d)))=some (.ct S'))/\P (k+i+1) S')->∃S',uY x body ds S=some (.nx S')/\P (k+ds.length) S'
 | [],S,k,l,_=>⟨S,rfl,l⟩
 |d::ds,S,k,l,hs=>by
  obtain⟨S',e,s⟩:=hs 0 d S rfl l;have n:=λi d S h p=>by
   have:=hs (i+1) d S (by simpa using h) (by rw[show k+(i+1)=k+1+i by lia];exact p)
   rw[show k+(i+1)=k+1+i by lia]at this
   exact this
  obtain⟨t,u,z⟩:=OQ P s n;refine⟨t,?_,by rw[lCq,show k+(ds.length+1)=k+1+ds.length by lia];exact z⟩
  show(body _).bind _=_;rcases e with e|e <;> (rw[e];exact u)
def Ao(P:Nat->AS->Prop)(l:P 0 S)(n:∀i d S,ds[i]?=some d->P i S->∃S',body (S.set x (some (.sh d)))=some (.nx S')/\P (i+1) S'):∃S',uY x body ds S=some (.nx S')/\P ds.length S':=by
 have:=OQ P l λi d S h p=>by
  rw[cA]at p ⊢;obtain⟨S',e,q⟩:=n i d S h p;exact⟨S',.inl e,q⟩
 rw[cA]at this;exact this
theorem afZ(P:Nat->AS->Prop):∀{ds l}{S}{k},ds.length=l.length->P k S->(∀i d e S,ds[i]?=some d->l[i]?=some e->P (k+i) S->∃S',body ((S.set x (some (.sh d))).set y (some (.sh e)))=some (.nx S')/\P (k+i+1) S')->∃S',Hb x y body ds l S=some (.nx S')/\P (k+ds.length) S'
 | [],[],S,k,_,n,_=>⟨S,rfl,n⟩
 | [],_::_,S,k,hl,_,_=>by simp at hl
 |_::_,[],S,k,hl,_,_=>by simp at hl
 |d::ds,b::l,S,k,hl,n,hs=>by
  obtain⟨S',e,t⟩:=hs 0 d b S rfl rfl n;have s:=λi d e S h u p=>by
   have:=hs (i+1) d e S (by simpa using h) (by simpa using u) (by rw[show k+(i+1)=k+1+i by lia];exact p)
   rw[show k+(i+1)=k+1+i by lia]at this
   exact this
  obtain⟨z,B,E⟩:=afZ P (by simpa using hl) t s
  refine⟨z,?_,by rw[lCq,show k+(ds.length+1)=k+1+ds.length by lia];exact E⟩
  show(body _).bind _=_;rw[e];exact B
theorem yy{cap:AS}g:∀{ds},(∀d∈ds,∃S',te (some (.sh d)::cap)=some (g d,S'))->uF xp te cap ds=some (ds.map g)
 | [],_=>rfl
 |d::ds,h=>by
  obtain⟨S',e⟩:=h d ⋯
  show(te (some (.sh d)::cap)).bind (λa=>(uF xp te cap ds).map (a.1 :: ·))=_
  rw[e,yy g λx l=>h x (mCo _ l)]
  rfl
theorem vK{cap:AS}p g:∀{ds},(∀d∈ds,∃n,l (some (.sh d)::cap)=some (p d,n)/\(p d=true->∃S',te n=some (g d,S')))->uF l te cap ds=some ((ds.filter p).map g)
 | [],_=>rfl
 |d::ds,h=>by
  obtain⟨n,t,u⟩:=h d ⋯
  have s:=vK p g λx z=>h x (mCo _ z)
  show(l (some (.sh d)::cap)).bind _=_;rw[t];show(if p d=true then _ else _)=_
  by_cases c:p d=true
  .obtain⟨S',B⟩:=u c;rw[qf c,B,bN c];rw[s];rfl
  .rw[qj c,bA c,s]
def yE(f:α->β)xs lo hi:yw (xs.map f) lo hi=(yw xs lo hi).map f:=by
 unfold yw;rw[lMq,jc,List.map_drop]
def DX(xs:List α)i(h:i<=xs.length):yw xs (some (i:Int)) none=xs.drop i:=by
 unfold yw;rw[HT.DI,eD h,bI (by rw[aC];exact ae _)]
def FN(xs:List α)i(h:i<=xs.length):yw xs none (some (i:Int))=xs.take i:=by
 unfold yw;rw[HT.DI,HT.Js,eD h,fk,jP]
def abE(xs:List α)(i j:Nat):yw xs (some (i:Int)) (some (j:Int))=(xs.drop i).take (j-i):=by
 unfold yw;rw[HT.DI,HT.DI]
 by_cases h:i<=xs.length
 .rw[eD h]
  by_cases l:j<=xs.length
  .rw[eD l]
  .rw[fK ∅,bI (by rw[aC];exact ae _),bI (by rw[aC];lia)]
 .have e:min i xs.length=xs.length:=fK ∅
  rw[e,df (ae xs.length),df ∅]
  simp
def NZ{xs:List α}(l:0<=i):atI xs i=xs[i.toNat]?:=by
 unfold atI ON;rw[qf l]
 by_cases h:i<xs.length
 .rw[qf h];rfl
 .rw[qj h,bJ ∅]
  rfl
def Uv(h:i<n):ON n (i:Int)=some i:=by
 unfold ON;rw[qf ∅,qf ∅]
 simp
def GM(ns:Ϝ):(ns.map D.int).map AV.sh=ns.map λn=>AV.sh (.int n):=by rw[mPq];rfl
def Ow(ns:Ϝ):(ns.map λn=>AV.sh (.int n)).map pD=ns.map D.int:=by rw[mPq];exact mCq λn _=>by simp
def va(rs:Λ):(rs.map aI).map pD=rs.map dI:=by
 rw[mPq];refine mCq λr _=>?_
 show pD (.ow (r.map λn=>AV.sh (.int n)))=_
 rw[vi,Ow]
def Uy(rs:Λ):(rs.map dI).map AV.sh=rs.map λr=>AV.sh (dI r):=by rw[mPq];rfl
def NF(rs:Λ):(rs.map λr=>AV.sh (dI r)).map pD=rs.map dI:=by rw[mPq];exact mCq λn _=>by simp
def sm ns:pD (aI ns)=dI ns:=by
 rw[vi,Ow]
def ad6 i j:yN (.int i) (.int j)=some (.int (i+j)):=AY _
def ad2 i j:aeg (.int i) (.int j)=some (.int (i-j)):=AY _
def agM i j:Wx (.int i) (.int j)=some (.bl (decide (i<j))):=AY _
def ahx i j:dGt (.int i) (.int j)=some (.bl (decide (j<i))):=AY _
def agL i:wu (.int i)=some (.int (-i)):=rfl
def p58:Ie (.int 10) (.int 58)=some (.int (10 ^ 58)):=wI ⟨by decide,by decide,by decide⟩ _
def p59:Ie (.int 10) (.int 59)=some (.int (10 ^ 59)):=wI ⟨by decide,by decide,by decide⟩ _
def p57:Ie (.int 10) (.int 57)=some (.int (10 ^ 57)):=wI ⟨by decide,by decide,by decide⟩ _
def akK(l:-(2 ^ 64)<i)(n:i<2 ^ 64):K4 (.int i) (.int j)=some (.int (i*j)):=wI (.inl ⟨l,n⟩) _
def afk(l:-(2 ^ 64)<j)(n:j<2 ^ 64):K4 (.int i) (.int j)=some (.int (i*j)):=wI (.inr ⟨l,n⟩) _
def uT(h:0<j):xZ (.int i) (.int j)=some (.int (i % j)):=wI h _
def Ca(h:0<j)(l:j<1073741824):GR (.int i) (.int j)=some (.int (i / j)):=wI ⟨h,l⟩ _
def akT:(0:Nat)<=tH:=by decide
def aki:(1:Nat)<=tH:=by decide
def ajC:(2:Nat)<=tH:=by decide
def akp:(3:Nat)<=tH:=by decide
def ajJ:(4:Nat)<=tH:=by decide
def uL(h:n<=16777216):n<=tH:=h
def YU(h:n<16777216):n<tH:=h
def Af{n:Nat}(h:n<1000000):Lc [.int (n:Int)]=some (sV 0 n):=by
 have e:Lc [.int (n)]=some (sV 0 (n:Int).toNat):=wI ⟨by lia,by lia⟩ _
 rw[e,fq]
def HX n:sV 0 n=(bT n).map λi:Nat=>D.int i:=by
 exact mCq λi _=>by rw[jQ]
def aku(l n)m ds:tj l n m ds=if ds.length=l then (m (ds.map (λd=>some (.sh d))++aE (n-ds.length) none)).bind λo=>match o with
  | .rt a=>some a
  | .nx _=>some (.sh .non)
  |_=>none
 else none:=rfl
def gt1{α:Type}{a b:α}{l}:(a::b::l)[1]?=some b:=rfl
def st1{α:Type}{a b v:α}{l}:(a::b::l).set 1 v=a::v::l:=rfl
def gt2{α:Type}{a b c:α}{l}:(a::b::c::l)[2]?=some c:=rfl
def OP{α:Type}{a b c v:α}{l}:(a::b::c::l).set 2 v=a::b::v::l:=rfl
def gt3{α:Type}{a b c d:α}{l}:(a::b::c::d::l)[3]?=some d:=rfl
def st3{α:Type}{a b c d v:α}{l}:(a::b::c::d::l).set 3 v=a::b::c::v::l:=rfl
def gt4{α:Type}{a b c d:α}{l}:(a::b::c::d::l)[n+4]?=l[n]?:=rfl
def st4{α:Type}{a b c d v:α}{l}:(a::b::c::d::l).set (n+4) v=a::b::c::d::l.set n v:=rfl
def adK(h:∀ns:Ϝ,ns.length<=63->f [.scr ns]=i4 true):∀vs H Q E,UZ K vs H Q E->rW K f vs H Q E:=by
 rintro vs H Q E ⟨a,ns,rfl,l,hl,q⟩;refine⟨H,[.scr ns],_,.refl _,.cons (.scr l) .nil,h ns hl,λn s v F _ _ _ _ r _ _=>?_⟩
 cases r.sh_inv.2;exact q s
end Z
namespace Mr
open PySem PySem.Spec PyProof.Rows L2
def RE{α:Type}(P:α->Prop):List α->Prop
 | []=>True
 |a::l=>P a/\RE P l
theorem RE.mem{P:α->Prop}:∀{l},RE P l->∀a∈l,P a
 | [],_,a,h=>by cases h
 |b::l,hp,a,h=>(ah.mp h).elim (λe=>e ▸ hp.1) (RE.mem hp.2 a)
def yz.of(n:N.Nodup)(s:N[0]?=some x)(t:N.length=fr.length+1)
  (u:RE (λp=>X.env.cells.lookup p.1=some p.2) cl) (l:RE (λp=>(p.2 = .cell∨p.2 = .free)->∃c,cl.lookup p.1=some c) (lJ scope X.env).names)
  (z:RE (λp=>X.N[p.1]?=some p.2/\X.env.scope.names.lookup p.2=some .cell/\(lJ scope X.env).names.lookup p.2=some .cell) (fr.zip (N.drop 1))):yz X scope cl x N fr where
 names:=n
 own:=s
 len:=t
 sub:=λy c e=>u.mem (y,c) (PySem.mem_of_lookup e)
 has:=λy e=>by
  rcases e with e|e
  .exact l.mem _ (PySem.mem_of_lookup e) (.inl rfl)
  .exact l.mem _ (PySem.mem_of_lookup e) (.inr rfl)
 get:=λk j y B E=>by
  have hm:(j,y)∈fr.zip (N.drop 1):=by
   refine mGq (i:=k) ?_;rw[dJ];exact⟨B,by rw[dm,gk];exact E⟩
  exact z.mem _ hm
end Mr
namespace Mr
open PySem PySem.W PySem.Spec PyProof.Rows L2
abbrev g2(K:Ζ):TG:=S7 K 2 (Cr (vo 0) (Cr (vo 1) Sn))
end Mr
namespace Xe
open PySem PySem.Spec PySem.W PyProof.Rows L2 Mr
noncomputable def Itk(o:Obj)(d:Addr)(l:List (qM×V)):It:=
  ⟨λi H=>H d=some (.frz o (.dK l))/\∃p,l[i]?=some p,
   λi H x n=>n=H/\∃p,l[i]?=some p/\x=kV p.1,
   λi H=>H d=some (.frz o (.dK l))/\l.length<=i⟩
def Wz{K:Frag}o d n G vs ep(hne:d≠n)
  (ho:∀h:Heap,h.get? d=some o->h.DictAt (uj P w) d vs ep) (kv:KV G vs):Pc P w K tg (Itk o d G) [n] n (λi h=>h.IsKeyIter n d i vs.length ep) where
 mem:=by simp
 obj:=λi h st b hb=>by
  have e:b=n:=by simpa using hb
  subst e;obtain⟨J,e,c,dd⟩:=st;exact⟨J,e,λv z=>by rw[dd]at z;cases z⟩
 keep:=λi h h' st k=>by
  obtain⟨J,e,c,dd⟩:=st;exact⟨J,k n ⋯ _ e,c,dd⟩
 item:=by
  intro X M hw O hc i oA s σ H E I L st Q;subst M hw O;obtain⟨hd,p,hp⟩:=Q;have R:s.heap.get? d=some o:=(show sI X.prog X.w H s.heap d (.frz o (.dK G))from I.hok d _ hd).1
  obtain⟨u,hx,ru⟩:=kv_get kv hp;obtain⟨S,T,f2,U,Y,f5⟩:=L n ⋯
  refine wpAny_pyNext_dict_item st (ho _ R) hx λkey h' x B sb=>?_
  have I1:L2.qb X oA σ H { s with heap:=h' }:=I.turned (t':=s.toks) (λb o hb e=>(sb.2 b hb).trans e) S T U Y f5
  have rk:rK (kV p.1) key:=by
   rcases tK x with⟨j,t,e,rfl⟩|⟨z,t,e,rfl⟩
   .rw[e];exact⟨t,rfl⟩
   .rw[e];exact⟨t,rfl⟩
  obtain⟨J,e,c,dd⟩:=id B;exact⟨key,rfl,go_of (s:={ s with heap:=h' }) e c dd ⋯ ⟨_,H,I1,rk,⟨rfl,p,hp,rfl⟩,B,λb hb=>(L b hb).1⟩⟩
 done:=by
  intro X M hw O hc i oA s σ H E I L st Q;subst M hw O;obtain⟨hd,hl⟩:=Q;have R:s.heap.get? d=some o:=(show sI X.prog X.w H s.heap d (.frz o (.dK G))from I.hok d _ hd).1
  have l:=Paired.length kv;obtain⟨S,T,f2,U,Y,f5⟩:=L n ⋯
  exact wpAny_pyNext_dict_end (I.ok.hd hc) st (ho _ R) (bJ ∅) λh' eb=>⟨rfl,I.turned (t':=s.toks) (λb o hb e=>eb b o hb e) S T U Y f5⟩
 self:=λ_ _ _ _ _ st h=>wpAny_pyIter_keyiter st h
def ae6(te:TE):TI:=λσ H R=>te σ H λx n=>∃d l,x = .ref d/\n d=some (.dK l)/\∀o,R (Itk o d l) (ri n d (.frz o (.dK l)))
def adx(T:PE X o te):PI X S o (ae6 te):=by
 intro O s σ H R I h;refine uN (T O s σ H _ I h) λv l L=>?_
 obtain⟨x,P,E,U,d,G,ex,ha,q⟩:=L;subst ex;obtain rfl:=(show v=ag d from U)
 obtain⟨Y,sa,z,Q,dd⟩:=(show sI X.prog X.w P l.heap d (.dK G)from E.hok d _ ha)
 obtain⟨J,t,es,n,rest⟩:=dd.dictAt;have M:∀h:Heap,h.get? d=some t->h.DictAt (uj X.prog X.w) d z J:=λh e=>⟨t,es,e,rest⟩
 have B:d<l.heap.objs.size:=ai n;refine wpAny_pyIter_dict sa (M _ n) ?_;have kp:∀b u,l.heap.get? b=some u->(l.heap.push { cls:=.type "dict_keyiterator", data:=.fields #[.ref d,.int 0 0,.int z.length 0,.int J 0] }).get? b=some u:=λb u e=>aa _ e
 have I2:L2.qb X O σ (ri P d (.frz t (.dK G))) { l with heap:=l.heap.push { cls:=.type "dict_keyiterator", data:=.fields #[.ref d,.int 0 0,.int z.length 0,.int J 0] } }:=
  (E.kept (t':=l.toks) kp).write (x:=d) (e:=d) (o:=.frz t (.dK G)) (t':=l.toks) (by rw[ha];trivial) (.inl rfl) (λb u _ e=>e) ⟨_,kp _ _ n⟩ ⟨kp _ _ n,Y,sa,z,Q,(M _ (kp _ _ n)).dictOf⟩
 refine⟨l.heap.objs.size,[l.heap.objs.size],_,_,_,rfl,I2,Wz t d _ G z J (aF B) M Q,?_,λb hb=>?_,q t⟩
 .exact⟨_,bf _ rfl,rfl,rfl⟩
 .have e:b=l.heap.objs.size:=by simpa using hb
  subst e;exact E.fpOk (ae _) (by rw[pe (ef B)];exact E.hok.fresh (ae _))
end Xe
namespace Z
open PySem L2 Mr
def adw(c)body n S:vL c body (n+1) S=(c S).bind λx=>if x.1=true then (body x.2).bind λo=>match o with
   | .nx l=>vL c body n l
   | .ct l=>vL c body n l
   | .bk l=>some (.nx l)
   | .rt a=>some (.rt a)
  else some (.nx x.2):=rfl
end Z
namespace Z
open PySem L2 Mr Xe
inductive WB where
 |ok (a:AV)|ex (c:Str) (fs:List (Str×Int))
abbrev vH:=List D->Option WB
def afJ(K:Ζ)(Hf H:Hp)(Q:VK)(E:XK):WB->Prop
 | .ok a=>∀l n v F,qO Hf l->qO H n->qO l n->(∀b,Hf b=none->H b≠none->l b=none)->rG K l n a v F->F.Nodup->(∀q∈F,H q=none)->Q v n
 | .ex c fs=>∀l n e od,qO Hf l->qO H n->qO l n->(∀b,Hf b=none->H b≠none->l b=none)->ug K l (.exc c fs) (.ref e)->E (.ref e) od n
def wN(K:Ζ)(f:vH):Sp:=λvs H Q E=>∃Hf ds r,qO Hf H/\sq K Hf ds vs/\f ds=some r/\afJ K Hf H Q E r
noncomputable def okR:WB->Option AV
 | .ok a=>some a
 |_=>none
def okX(f:vH):MF:=λds=>(f ds).bind okR
inductive D4 where
 |ok (o:Lm)|ex (c:Str) (fs:List (Str×Int))
abbrev MX:=AS->Option D4
def KB(K:Ζ)(H₀ l Hf:Hp)(D:yQ)(E:XK):D4->Prop
 | .ok o=>Gv K H₀ l Hf D o
 | .ex c fs=>∀n s e od,qO l n->qO H₀ s->qO n s->(∀b,l b=none->H₀ b≠none->n b=none)->ug K n (.exc c fs) (.ref e)->E (.ref e) od s
theorem KB.mono{D}(s:qO Hf n)(h:KB K H₀ l Hf D E o):KB K H₀ l n D E o:=by
 cases o with
 |ok o=>exact Gv.mono s h
 |ex c fs=>exact h
def Qd(K:Ζ)(E:XK)(t:TS)(m:MX):Prop:=∀{H₀ l Hf}{S}{σ}{H}{n}{o},rq K H₀ l Hf S σ H n->m S=some o->∀D:yQ,KB K H₀ l Hf D E o->t D σ H
noncomputable def Dp(m:MS):MX:=λS=>(m S).map .ok
noncomputable def wV(a b:MX):MX:=λS=>(a S).bind λo=>match o with
 | .ok (.nx S')=>b S'
 |o=>some o
noncomputable def TY(c:MT)(a b:MX):MX:=λS=>(c S).bind λx=>if x.1=true then a x.2 else b x.2
noncomputable def CK(c fld:Str)(a:ML):MX:=λS=>(a S).bind λx=>match x.1 with
 | [.int n]=>some (.ex c [(fld,n)])
 |_=>none
section
variable {K:Ζ}
def vA(h:SS K t m):Qd K E t (Dp m):=by
 intro H₀ l Hf S σ H B o R e D q;obtain⟨z,s,x⟩:=oMq.mp e;subst x;exact h R s D q
def vc(ha:Qd K E t a)(hb:Qd K E u b):Qd K E (Nu t u) (wV a b):=by
 intro H₀ x Hf S σ H O o R e D q;obtain⟨z,G,l⟩:=oBq.mp e;refine ha R G { D with nx:=u D } ?_
 cases z with
 |ok z=>
  cases z with
  |nx B=>exact λI J P L s M=>hb M l D (q.mono s)
  |bk B=>cases l;exact q
  |ct B=>cases l;exact q
  |rt a=>cases l;exact q
 |ex c fs=>cases l;exact q
def Dt(I:MB K tt c)(ha:Qd K E t a)(hb:Qd K E u b):Qd K E (YJ tt t u) (TY c a b):=by
 intro H₀ l Hf S σ H M o R e D q;obtain⟨x,J,s⟩:=oBq.mp e;refine I R (b:=x.1) (S':=x.2) J _ λL O Fs1 B G=>?_
 split at s
 .rename_i z;rw[qf z];exact ha G s D (q.mono B.sf)
 .rename_i z;rw[qj z];exact hb G s D (q.mono B.sf)
def P8{n}(r:ug K H (.int n) v):v = .int n:=by cases r;rfl
def G8(rf:Ref K J C M)(nf:W.findIn K (.ref C) fld=some none)(hl:Yu K ta l):Qd K E (tRs E C (ajg K J fld ta)) (CK J fld l):=by
 intro H₀ L Hf S σ H Fs o R e D q;obtain⟨x,e1,O⟩:=oBq.mp e;refine hl R (ds:=x.1) (S':=x.2) e1 _ λs H1 Fs1 vs t1 G r1=>?_
 split at O
 .rename_i k hk;cases O;rw[hk]at r1;obtain⟨v,ws,rfl,r2,r3⟩:=r1.cons_inv;obtain rfl:=r3.nil_inv;obtain rfl:=P8 r2;refine⟨_,C,M,rfl,rf,nf,λex B P Q T=>⟨ex,some B,rfl,pE,?_⟩⟩
  rw[E8];have U:s ex=none:=G.sub.free P;have X:s B=none:=G.sub.free Q;have s1:qO s (ri (ri s B (.xd [(fld,.int k)])) ex (Ks ex C (some B))):=(tO X).trans (tO (by rw[pe (Ne.symm T)];exact U))
  have s2:qO H1 (ri (ri H1 B (.xd [(fld,.int k)])) ex (Ks ex C (some B))):=(tO Q).trans (tO (by rw[pe (Ne.symm T)];exact P))
  refine q (ri (ri s B (.xd [(fld,.int k)])) ex (Ks ex C (some B))) _ ex (some B) (G.sf.trans s1) (G.fr.trans s2) (λb o' z=>?_) (λb z1 Y=>?_) (.exc rf (λp hp=>?_) pE ?_)
  .by_cases hb:b=ex
   .subst hb;rw[pE]at z ⊢;exact z
   .rw[pe hb]at z ⊢
    by_cases I:b=B
    .subst I;rw[pE]at z ⊢;exact z
    .rw[pe I]at z ⊢;exact G.sub b o' z
  .have h1:b≠ex:=λz=>Y (by rw[z];exact G.fr.free P)
   have h2:b≠B:=λz=>Y (by rw[z];exact G.fr.free Q)
   rw[pe h1,pe h2];exact G.lim b z1 Y
  .simp only[mSq]at hp;subst hp;exact nf
  .rw[pe T,pE];rfl
 .cases O
end
def uH(l n:Nat)(m:MX):vH:=λds=>if ds.length=l then (m (ds.map (λd=>some (.sh d))++aE (n-ds.length) none)).bind λo=>match o with
  | .ok (.rt a)=>some (.ok a)
  | .ok (.nx _)=>some (.ok (.sh .non))
  | .ex c fs=>some (.ex c fs)
  |_=>none
 else none
def Wy{K}N(h:Qd K E t m)(I:wN K (uH G N.length m) vs H Q E):t { nx:=λ_ u=>Q .non u,rt:=Q } (L2.vm N vs) H:=by
 obtain⟨Hf,T,r,s,J,e,q⟩:=I;unfold uH at e;split at e
 .obtain⟨o,L,x⟩:=oBq.mp e;refine h (LS N s J) L _ ?_;cases o with
  |ok o=>
   cases o with
   |rt U=>cases x;exact λn u v F z M O l r nd fr=>q n u v F z M O l r nd fr
   |nx B=>cases x;exact λn P u S z R=>q n u .non [] R.sf R.fr R.sub R.lim (.sh .non) ba λq h=>(by cases h)
   |bk B=>cases x
   |ct B=>cases x
  |ex c fs=>cases x;exact q
 .cases e
def adh(t:wN K (uH l n m) vs H Q E):vs.length=l:=by
 obtain⟨Hf,u,a,s,r,e,q⟩:=t;unfold uH at e;split at e
 .rename_i h;rw[←r.1,h]
 .cases e
abbrev MH:=Str->List (Str×Int)->MS
def SH(K:Ζ)(n:XH)(hm:MH):Prop:=∀{H₀ l Hf}{S}{σ}{H}{s}{o}{c}{fs}{e},rq K H₀ l Hf S σ H s->hm c fs S=some o ->
 ug K Hf (.exc c fs) (.ref e)->∀D:yQ,Gv K H₀ l Hf D o->∀C M od,Ref K c C M->H e=some (Ks e C od)->n e C od D σ H
noncomputable def under(c l:Str):Bool:=decide (l=c∨l = "MapError")
noncomputable def clr(i:Nat):Lm->Lm
 | .nx S=>.nx (S.set i none)
 | .bk S=>.bk (S.set i none)
 | .ct S=>.ct (S.set i none)
 | .rt a=>.rt a
def xAs(l:Str)(i:Nat)(n:MS)(rest:MH):MH:=λc fs S=>if under c l=true then (n (S.set i (some (.sh (.exc c fs))))).map (clr i)else rest c fs S
def xNo(l:Str)(n:MS)(rest:MH):MH:=λc fs S=>if under c l=true then n S else rest c fs S
noncomputable def adF:MH:=λ_ _ _=>none
def Ref.mro{K:Ζ}(rf:Ref K c C M)(h:IsC K t l):W.mroIn K C (.ref l)=some (under c t):=by
 obtain⟨_,⟨Q,u,hm,hn⟩,_⟩:=zK rf.xc;unfold W.mroIn;rw[u,dZ,hm];simp only[fA,cg,if_false,aY.injEq];have key:(ag C::ag M::Ad).contains (ag l)=decide (l=C∨l=M):=by
  have H:Ad.contains (ag l)=false:=by simp[Ad]
  rw[bE,bE,H]
  by_cases x:l=C
  .simp[x]
  .by_cases B:l=M
   .simp[B]
   .have I:(ag l == ag C)=false:=by simp[x]
    have J:(ag l == ag M)=false:=by simp[B]
    rw[I,J];simp[x,B]
 rw[key];unfold under;rcases h with⟨E,⟨L,n⟩|⟨s,R⟩⟩
 .obtain rfl:M=L:=by have z:=rf.nmM.symm.trans n.nmM;simpa using z
  have G:l≠M:=λz=>by subst z;have y:=(UP n.xc rf.xm).2;simp at y
  have O:t ≠ "MapError" := λz=>by subst z;have y:=n.nm.symm.trans rf.nmM;simp at y;exact G y
  by_cases s:t=c
  .subst s;have y:=(rf.one n).1;simp[y]
  .have P:l≠C:=λz=>by subst z;exact s ((UP n.xc rf.xc).1)
   simp[G,O,P,s]
 .subst s;obtain rfl:M=l:=by have z:=rf.nmM.symm.trans E;simpa using z
  simp
section
variable {K:Ζ}
def acq(r:ug K H (.exc c fs) (.ref e)):∃C M od,Ref K c C M/\H e=some (Ks e C od):=by
 cases r with
 |exc rf nf h l=>exact⟨_,_,_,rf,h⟩
 |exc0 rf h=>exact⟨_,_,_,rf,h⟩
def rq.clear(R:rq K H₀ s Hf S σ H u)i:rq K H₀ s Hf (S.set i none) (σ.set i none) H (u.set i []):=by
 refine⟨by simp[R.len],by simp[R.lenF],λj a n=>?_,λj n=>?_,uh i R.nd ba (λp t=>by cases t),λp t=>R.fresh p (tI t),R.sub,R.fr,R.lim,R.sf⟩
 .rw[bx]at n
  by_cases l:i=j
  .subst l;rw[qf rfl]at n;split at n <;> cases n
  .rw[qj l]at n;obtain⟨w,G,x,z,q⟩:=R.rep j a n;exact⟨w,G,by rw[aA l];exact x,by rw[aA l];exact z,q⟩
 .rw[bx]at n
  by_cases l:i=j
  .subst l;rw[qf rfl]at n;split at n
   .rename_i hi;rw[aV (R.lenF.symm ▸ hi)]
   .cases n
  .rw[qj l]at n;rw[aA l];exact R.emp j n
def Cz(I:IsC K c' C')(hb:SS K tb mb)(hr:SH K tr mr):SH K (hAs K C' i tb tr) (xAs c' i mb mr):=by
 intro H₀ E Hf S σ H U o c fs e R B J D q C M O rf P;unfold xAs at B;split at B
 .rename_i G;refine⟨c,M,true,rf,by rw[Ref.mro rf I,G],?_⟩
  rw[qf rfl];obtain⟨z,Q,T⟩:=oMq.mp B;subst T;refine hb (R.setD i J) Q _ ?_;cases z with
  |nx L=>exact λl n t u s x=>q l _ t _ s (rq.clear x i)
  |bk L=>exact λl n t u s x=>q l _ t _ s (rq.clear x i)
  |ct L=>exact λl n t u s x=>q l _ t _ s (rq.clear x i)
  |rt a=>exact q
 .rename_i G;refine⟨c,M,false,rf,by rw[Ref.mro rf I,hU.mpr G],?_⟩
  rw[qj ⋯]
  exact hr R B J D q C M O rf P
def yS:SH K ajY adF:=by
 intro H₀ l Hf S σ H s o c fs e R n t D q;cases n
end
def am3(f:vH)(a:MA)(hm:MH):MS:=λS=>(a S).bind λx=>(f (x.1.map pD)).bind λr=>match r with
 | .ok _=>some (.nx x.2)
 | .ex c fs=>hm c fs x.2
def QX(i:Nat)(f:vH)(a:MA)(hm:MH):MS:=λS=>(a S).bind λx=>(f (x.1.map pD)).bind λr=>match r with
 | .ok r=>some (.nx (x.2.set i (some r)))
 | .ex c fs=>hm c fs x.2
def zz(R2:rq K H₀ n Hf1 S σ t Fs1)(s1:qO Hf1 s)(s2:qO t u)(s3:qO s u)(l:∀b,Hf1 b=none->t b≠none->s b=none):rq K H₀ n s S σ u Fs1:=
 R2.more s2 s1 s3 (λq x=>l q (R2.mem x).2 (R2.mem x).1) λb B z=>l b (R2.lim b B z) (Vf R2.fr z)
def wO(ha:SA K ta a)(hh:SH K th hm):SS K (afc i (wN K f) ta th) (QX i f a hm):=by
 intro H₀ t Hf S σ H Fs o R e D q;obtain⟨x,O,e⟩:=oBq.mp e;obtain⟨r,P,e⟩:=oBq.mp e;refine ha R (as:=x.1) (S':=x.2) O _ λQ H1 Fs1 vs Gs T U X Y=>?_
 obtain⟨R2,r2,G⟩:=U.gives T X Y;refine⟨_,_,r,R2.sub,r2,P,?_⟩;cases r with
 |ok av=>cases e;exact λu H' v F n z B l ra nd fr=>q _ _ _ _ (G.sf.trans n) ((zz R2 n z B l).set i ra nd λq I=>⟨R2.fr.free (fr q I),λm=>(R2.mem m).1 (fr q I)⟩)
 |ex c fs=>
  intro u H' ex od n z B l J e0 he;cases he;have E:=zz R2 n z B l;obtain⟨C,M,s,rf,L⟩:=acq J;exact⟨C,s,E.sub _ _ L,hh E e J D (q.mono (G.sf.trans n)) C M s rf (E.sub _ _ L)⟩
noncomputable def L3(f:Str):D->Option D
 | .exc _ fs=>(fs.lookup f).map .int
 |_=>none
section
variable {K:Ζ}
def J2{fs:List (Str×Int)}(h:fs.lookup f=some n):(f,n)∈fs/\(fs.map λp=>(p.1,V.int p.2)).lookup f=some (.int n):=by
 induction fs with
 |nil=>cases h
 |cons p fs l=>
  obtain⟨g,k⟩:=p;simp only[cm]at h ⊢;cases e:f == g with
  |true=>rw[e]at h;cases h;simp[cm,e,eq_of_beq e]
  |false=>rw[e]at h;obtain⟨a,b⟩:=l h;exact⟨mCo _ a,by simp[cm,e,b]⟩
def Va(ha:SR K te m):SR K (tXF K te f) (vJ (L3 f) m):=by
 intro H₀ s Hf S σ H L d M R e Q q;obtain⟨x,E,e⟩:=oBq.mp e;obtain⟨z,l,e⟩:=oMq.mp e;cases e;refine ha R (d:=x.1) (S':=x.2) E _ λG O Fs1 v I J B=>?_
 cases t:x.1 <;> rw[t]at l B <;> simp only[L3]at l
 all_goals first|(exfalso;simp at l;done)|skip
 rename_i c fs;obtain⟨n,u,rfl⟩:=oMq.mp l;cases B with
 |exc rf nf h t=>exact⟨_,c,_,_,_,_,n,rfl,h,t,rf,nf _ (J2 u).1,(J2 u).2,q _ _ _ _ I J .int⟩
 |exc0 rf h=>simp at u
def WG(c:Str):ME:=λS=>some (.cls c,S)
def M8(h:IsC K c C):SR K (λ_ H Q=>Q (.ref C) H) (WG c):=by
 intro H₀ l Hf S σ H n d s R e Q q;cases e;exact q _ _ _ _ .refl R (.cls h)
def Hd(c:Str):D->Option Bool
 | .cls l=>some (under c l)
 | .ty T=>if T = "ValueError" then some true else none
 |_=>none
def E5(c:Str):List D->Option Bool
 | []=>some false
 |d::ds=>(Hd c d).bind λb=>(E5 c ds).map λb2=>b || b2
def K5:List D->Option D
 | [.exc c _,.tup ds]=>(E5 c ds).map .bl
 | [.exc c _,d]=>(Hd c d).map .bl
 |_=>none
def YC(h:IsC K t l):(W.clsIn K l).isSome=true/\W.typeIn K (.ref l)=some (.type "type"):=by
 have key:∀{u:Ξ},AJ K t l u=true->(W.clsIn K l).isSome=true/\W.typeIn K (.ref l)=some (.type "type"):=λ{u} e=>by
  obtain⟨⟨N,E,bs,G,sub,H,x,I,J,L,M,O,P,z⟩,⟨Q,n,_,_⟩,_⟩:=zK e;refine⟨by rw[n];rfl,?_⟩
  show(K.lookup l).map (·.cls)=_;rw[z];rfl
 rcases h with⟨_,⟨R,s⟩|⟨rfl,B⟩⟩
 .exact key s.xc
 .exact key B
def Mj(rf:Ref K c C M)(r:ug K H d v)(e:Hd c d=some b):∃u,M7 v=some u/\W.kitOne K (.ref C) u=some b:=by
 cases r <;> simp only[Hd]at e
 all_goals first|(exfalso;simp at e;done)|skip
 .rename_i n;split at e
  .rename_i hn;subst hn;cases e;refine⟨_,rfl,?_⟩;obtain⟨_,⟨B,l,hm,hn⟩,_⟩:=zK rf.xc;have s:W.mroIn K C (.type "ValueError")=some true:=by
    unfold W.mroIn;rw[l,dZ,hm];simp only[fA,cg,if_false,aY.injEq];rw[bE,bE,show Ad.contains (dQ "ValueError")=true by decide,eh,eh]
   show(if (ag C == dQ "ValueError")=true then some true else if W.kitMeta "ValueError" = true then W.mroIn K C (.type "ValueError")else none)=some true
   rw[s,show W.kitMeta "ValueError" = true by trivial]
   simp
  .cases e
 .rename_i G t h;cases e;refine⟨_,rfl,?_⟩;obtain⟨E,g2⟩:=YC h;have s:=Ref.mro rf h;show(if (ag C == ag t)=true then some true else if ((W.clsIn K t).isSome && W.typeIn K (.ref t) == some (.type "type"))=true then W.mroIn K C (.ref t)else none)=_
  rw[E,g2,s]
  by_cases x:(ag C == ag t)=true
  .have z:C=t:=ag.inj (beq_iff_eq.mp x);subst z;rw[qf x];obtain⟨_,⟨B,l,hm,hn⟩,_⟩:=zK rf.xc;unfold W.mroIn at s;rw[l,dZ,hm]at s;simp only[fA,cg,if_false,aY.injEq]at s;rw[←s];simp
  .rw[qj x];simp
theorem Tv(rf:Ref K c C M):∀{ds}{vs}{b},sq K H ds vs->E5 c ds=some b->∃us,vs.mapM M7=some us/\W.kitAny K (.ref C) us=some b
 | [],vs,b,r,e=>by
  obtain rfl:=r.nil_inv;cases e;exact⟨[],rfl,rfl⟩
 |d::ds,vs,b,r,e=>by
  obtain⟨v,J,rfl,l,n⟩:=r.cons_inv;obtain⟨b1,s,t⟩:=oBq.mp e;obtain⟨b2,x,z⟩:=oMq.mp t;obtain⟨u,B,E⟩:=Mj rf l s;obtain⟨us,G,I⟩:=Tv rf n x;refine⟨u::us,by rw[jG,B,G];rfl,?_⟩
  subst z;unfold W.kitAny;rw[E];cases b1 with
  |true=>rfl
  |false=>exact I
def Jf:CbD K (agm K) K5:=by
 intro I H Q J d r e q;have l:∀(c:Str) (fs:List (Str×Int)) (x:D),J=[.exc c fs,x]->((∃z b,x = .tup z/\E5 c z=some b/\d = .bl b)∨∃b,Hd c x=some b/\d = .bl b)->agm K I H Q:=by
  intro c fs x hd hb;subst hd;obtain⟨v,Y,rfl,L,O⟩:=r.cons_inv;obtain⟨v2,P,rfl,E,R⟩:=O.cons_inv;obtain rfl:=R.nil_inv;obtain⟨t,C,M,B,S,rf,G⟩:∃t C M B,v = .ref t/\Ref K c C M/\H t=some (Ks t C B):=by
   cases L with
   |exc rf nf h hx=>exact⟨_,_,_,_,rfl,rf,h⟩
   |exc0 rf h=>exact⟨_,_,_,_,rfl,rf,h⟩
  subst S;rcases hb with⟨z,b,rfl,hb,rfl⟩|⟨b,hb,rfl⟩
  .obtain⟨p,us,rfl,n,s⟩:=E.tup_inv;obtain⟨T,U,X⟩:=Tv rf s hb;exact⟨t,c,C,M,B,_,b,rfl,G,rf,.inr ⟨p,us,T,rfl,n,U,X⟩,q _ .bl⟩
  .obtain⟨u,n,s⟩:=Mj rf E hb;exact⟨t,c,C,M,B,_,b,rfl,G,rf,.inl ⟨u,n,s⟩,q _ .bl⟩
 unfold K5 at e;split at e
 .rename_i c fs z;obtain⟨b,n,s⟩:=oMq.mp e;exact l c fs _ rfl (.inl ⟨z,b,rfl,n,s.symm⟩)
 .rename_i c fs x _;obtain⟨b,n,s⟩:=oMq.mp e;exact l c fs _ rfl (.inr ⟨b,n,s.symm⟩)
 .cases e
end
noncomputable def kD:qM->D
 | .inl i=>.int i
 | .inr x=>.str x
def TZ{K}k:ug K H (kD k) (kV k):=by
 cases k with
 |inl i=>exact .int
 |inr x=>exact .str
def Hn(x y:Nat)(body:MS):List (qM×D)->AS->Option Lm
 | [],S=>some (.nx S)
 |p::ps,S=>(body ((S.set x (some (.sh (kD p.1)))).set y (some (.sh p.2)))).bind λo=>match o with
  | .nx S'=>Hn x y body ps S'
  | .ct S'=>Hn x y body ps S'
  | .bk S'=>some (.nx S')
  | .rt a=>some (.rt a)
def aaf(x y:Nat)(k:MK)(body:MS):MS:=λS=>(k S).bind λz=>(PR z.1).bind λl=>Hn x y body l z.2
def VU{G:TS}{D:yQ}(n:Nat->St->Hp->Prop)(J:n 0 σ H)(hl:∀i σ H,n i σ H->H d=some (.frz z (.dK l)))
  (L:∀i p σ H T,l[i]?=some p->n i σ H->H T=none->G { D with nx:=n (i+1),ct:=n (i+1),bk:=D.nx } ((σ.set i1 (some (kV p.1))).set E (some p.2)) (ri H T (.tup [kV p.1,p.2]))) (hd:∀σ H,n l.length σ H->D.nx σ H) :
  ∃W:Nat->Nat->St->Hp->Prop,(∃m,W 0 m σ H)/\∀i m σ H,W i m σ H ->
   ((Iti z d l).stop i H/\D.nx σ H)∨((Iti z d l).go i H/\∃N:St->Hp->Prop,(∀s t,N s t->∃I,I<m/\W (i+1) I s t)/\∀x t,(Iti z d l).yld i H x t->S7 K 2 (Cr (vo i1) (Cr (vo E) Sn)) x σ t λB M=>G { D with nx:=N,ct:=N,bk:=D.nx } B M):=by
 refine⟨λi m σ H=>m=l.length-i/\i<=l.length/\n i σ H,⟨l.length,by simp,bb _,J⟩,?_⟩
 rintro i m σ H ⟨rfl,hi,p⟩;have q:=hl i σ H p
 by_cases u:i<l.length
 .refine .inr ⟨⟨q,l[i],by simp[u]⟩,n (i+1),λs t O=>⟨l.length-(i+1),by lia,rfl,u,O⟩,λv t y=>?_⟩
  obtain⟨T,x,P,rfl,rfl,Q⟩:=y;exact⟨T,_,rfl,GW.of pE,rfl,_,_,rfl,_,_,rfl,rfl,L i x σ H T Q p P⟩
 .have e:i=l.length:=by lia
  subst e;exact .inl ⟨⟨q,ae _⟩,hd σ H p⟩
def rq.fix(R:rq K H₀ l Hf S σ H B)(J:p∉B.flatten)(L:Hf p=none)(E:H₀ p=none):rq K H₀ l (ri Hf p o) S σ (ri H p o) B:=by
 have s:qO Hf (ri Hf p o):=tO L;refine⟨R.len,R.lenF,λi M e=>?_,R.emp,R.nd,R.fresh,λb u z=>?_,λb u z=>?_,λb O G=>?_,R.sf.trans s⟩
 .obtain⟨v,F,P,I,r⟩:=R.rep i M e;have t:∀q∈F,q≠p:=λq n z=>J (by rw[←z];exact mFq.mpr ⟨F,mGq I,n⟩)
  exact⟨v,F,P,I,r.keep s (λq n=>pe (t q n)) λq n=>by rw[pe (t q n)];exact(r.owned q n).2⟩
 .by_cases hb:b=p
  .subst hb;rw[pE]at z ⊢;exact z
  .rw[pe hb]at z ⊢;exact R.sub b u z
 .have hb:b≠p:=λq=>by rw[q,E]at z;cases z
  rw[pe hb];exact R.fr b u z
 .have hb:b≠p:=λq=>G (by rw[q];exact E)
  rw[pe hb];exact R.lim b O G
def Wn(r:xD K H ds n){i:Nat}(e:n[i]?=some p):∃d,ds[i]?=some (p.1,d)/\ug K H d p.2:=by
 obtain⟨s,t⟩:=r;have hl:ds.length=n.length:=by have:=congrArg bU s;simpa using this
 have hi:i<ds.length:=by rw[hl];exact(gSq.mp e).1
 have hd:ds[i]?=some ds[i]:=gEg hi;have u:ds[i].1=p.1:=by
  have a:=congrArg (λl=>l[i]?) s
  simp only[gMq,hd,e,cw,aY.injEq]at a;exact a
 exact⟨ds[i].2,by rw[hd,←u],t i _ _ hd e⟩
def abq(h:PR a=some l):a = .owd l:=by
 cases a with
 |owd k=>cases h;rfl
 |owl k=>cases h
 |sh d=>cases h
 |ow n=>cases h
def abZ(hk:SK K te k)(hb:SS K tb body):SS K (VX (Zz te) (S7 K 2 (Cr (vo x) (Cr (vo y) Sn))) tb) (aaf x y k body):=by
 intro H₀ B Hf S σ H Fs o R e D h;obtain⟨z,e1,e⟩:=oBq.mp e;obtain⟨X,e2,e⟩:=oBq.mp e;refine hk R (a:=z.1) (S':=z.2) e1 _ λE H1 Fs1 v F t1 R1 r1 o1=>?_
 rw[abq e2]at r1;obtain⟨p,I,rfl,rfl,g1,g2,g3⟩:=r1.owd_inv;refine⟨p,I,rfl,g1,λob=>?_⟩
 have R2:=rq.fix R1 (p:=p) (o:=.frz ob (.dK I)) (o1.out p ⋯) g2 (o1.fr p ⋯)
 have s2:qO E (ri E p (.frz ob (.dK I))):=tO g2;have J:X.length=I.length:=by have:=congrArg bU g3.1;simpa using this
 refine VU (λi n Y=>∃l L s,rq K H₀ B l L n Y s/\qO (ri E p (.frz ob (.dK I))) l/\Hn x y body (X.drop i) L=some o) ⟨_,z.2,Fs1,R2,.refl _,e⟩
  (λi n Y ⟨l,L,s,M,u,_⟩=>M.sub _ _ (u _ _ pE)) ?_ ?_
 .rintro i w n Y T hw ⟨l,L,s,M,u,G⟩ hT;obtain⟨di,O,rw'⟩:=Wn g3 hw;have hlt:i<X.length:=(gSq.mp O).1;rw[aQ hlt]at G;have P:X[i]=(w.1,di):=(gSq.mp O).2;rw[P]at G;obtain⟨o2,e3,e4⟩:=oBq.mp G;have R3:=(M.new (o:=.tup [kV w.1,w.2]) hT).2.1;refine hb ((R3.setD x (TZ w.1)).setD y (rw'.mono (s2.trans u))) e3 _ ?_;cases o2 with
  |nx S2=>exact λt Q H2 Fs2 U R2=>⟨t,S2,Fs2,R2,u.trans U,e4⟩
  |ct S2=>exact λt Q H2 Fs2 U R2=>⟨t,S2,Fs2,R2,u.trans U,e4⟩
  |bk S2=>cases e4;exact λt Q H2 Fs2 U R2=>h _ _ _ _ (((t1.sf.trans s2).trans u).trans U) R2
  |rt a=>cases e4;exact h
 .rintro n Y ⟨l,L,s,M,u,G⟩;rw[←J,de]at G;cases G;exact h _ _ _ _ ((t1.sf.trans s2).trans u) M
def amf(a:ME):MK:=λS=>(a S).bind λx=>(dictOf x.1).map λl=>(.ow (l.map λp=>.sh (kD p.1)),x.2)
def aeW:lI "ValueError" = some (.type "ValueError"):=by trivial
structure agU (K:Ζ)(mg:Str->Υ)(cn:Str)(C:Addr)(bm:Ξ):Prop where
 c:IsC K cn C
 xc:AJ K cn C bm=true
 base:bm.contains (.type "BaseException")=true
 mgc:mg cn=some (.ref C)
structure RP (P:kr)(w:kz)(K:Ζ)(mg:Str->Υ)(bs:Heap)(cn fld prm:Str)(C M f:Addr)(fd:ky):Prop where
 c:IsC K cn C
 xc:AJ K cn C (.ref M::Ad)=true
 base:(ag M::Ad).contains (.type "BaseException")=true
 mgc:mg cn=some (.ref C)
 i:Ini P w K mg bs 1 cn fld prm C M f fd
def Sw M:(ag M::Ad).contains (.type "BaseException")=true:=by rw[bE,show Ad.contains (dQ "BaseException")=true by decide,eh]
section
variable {K:Ζ}{mg:Str->Υ}
def Nf(a:W.nsIn K ko c=some (some (.ref C)))(n:W.nsIn K ko "MapError" = some (some (.ref M)))(x:AJ K c C (.ref M::Ad)=true)(s:AJ K "MapError" M Ad=true)(l:lk0 K C=true):Ref K c C M:=⟨a,n,x,s,l⟩
def aeR(X:K.In h)(G:h.Ns ko mg)(l:W.nsIn K ko "MapError" = some (some (.ref M)))(n:AJ K "MapError" M Ad=true):agU K mg "MapError" M Ad:=⟨⟨l,.inr ⟨rfl,n⟩⟩,n,by decide,W.mg_of X G l⟩
end
section
variable {K:Ζ}
def PP(t:X4 K c fld vs H Q E) :
  Nu (Dn (tBI K (vG (xq 0) (vG (tC (.str s)) xY)))) (sXF K (xq 0) (xq 1) fld) { nx:=λ_ u=>Q .non u,rt:=Q } (vm ["self", l] vs) H:=by
 obtain⟨e,v,C,M,rfl,n,rf,nf,q⟩:=t;exact⟨_,rfl,e,_,c,C,M,rfl,n,rf,_,rfl,_,rfl,e,c,C,M,rfl,n,rf,nf,q⟩
end
noncomputable def ank(c:Str):MK:=λS=>some (.sh (.cls c),S)
noncomputable def Uh:Option D4->MX->Option D4
 |none,_=>none
 |some (.ok (.nx S)),b=>b S
 |some o,_=>some o
noncomputable def Ue(c fld:Str):List D->Option D4
 | [.int n]=>some (.ex c [(fld,n)])
 |_=>none
noncomputable def US:D4->Option WB
 | .ok (.rt a)=>some (.ok a)
 | .ok (.nx _)=>some (.ok (.sh .non))
 | .ex c fs=>some (.ex c fs)
 |_=>none
noncomputable def anl(hm:MH)(S:AS):WB->Option Lm
 | .ok _=>some (.nx S)
 | .ex c fs=>hm c fs S
noncomputable def ahk(i:Nat)(hm:MH)(S:AS):WB->Option Lm
 | .ok r=>some (.nx (S.set i (some r)))
 | .ex c fs=>hm c fs S
section
variable (S:AS)
def alz m:Dp m S=(m S).map .ok:=rfl
def X8 b:Uh (some (.ok (.nx S))) b=b S:=rfl
def Z6(a)b:Uh (some (.ok (.rt a))) b=some (.ok (.rt a)):=rfl
def Yw(c)fs b:Uh (some (.ex c fs)) b=some (.ex c fs):=rfl
def ajB a b:wV a b S=Uh (a S) b:=by
 show(a S).bind _=_;cases a S with
 |none=>rfl
 |some o=>
  cases o with
  |ok o=>cases o <;> rfl
  |ex c fs=>rfl
def alL(c)a b:TY c a b S=(c S).bind λx=>if x.1=true then a x.2 else b x.2:=rfl
def Pg(c fld)n:Ue c fld [.int n]=some (.ex c [(fld,n)]):=rfl
def aeG(c fld)a:CK c fld a S=(a S).bind λx=>Ue c fld x.1:=rfl
def aay a:US (.ok (.rt a))=some (.ok a):=rfl
def XZ:US (.ok (.nx S))=some (.ok (.sh .non)):=rfl
def Z3(c)fs:US (.ex c fs)=some (.ex c fs):=rfl
def akk(l n)m ds:uH l n m ds=if ds.length=l then (m (ds.map (λd=>some (.sh d))++aE (n-ds.length) none)).bind US else none:=by
 show(if ds.length=l then (m _).bind _ else none)=_
 first|rfl|(congr 2;funext o;cases o with
 |ok o=>cases o <;> rfl
 |ex c fs=>rfl)
def adQ(i)hm a:ahk i hm S (.ok a)=some (.nx (S.set i (some a))):=rfl
def ad1(i)hm c fs:ahk i hm S (.ex c fs)=hm c fs S:=rfl
def ago(i)f a hm:QX i f a hm S=(a S).bind λx=>(f (x.1.map pD)).bind (ahk i hm x.2):=by
 show(a S).bind _=_;congr 1
def amd(l)i n rest c fs:xAs l i n rest c fs S=if under c l=true then (n (S.set i (some (.sh (.exc c fs))))).map (clr i)else rest c fs S:=rfl
def aiK i:clr i (.nx S) = .nx (S.set i none):=rfl
def RN c:under c c=true:=by simp[under]
def XJ(c l)fs:K5 [.exc c fs,.cls l]=some (.bl (under c l)):=rfl
def acE(c)fs:K5 [.exc c fs,.ty "ValueError"]=some (.bl true):=by simp[K5,Hd]
def Xm(f c)n:L3 f (.exc c [(f,n)])=some (.int n):=by simp[L3,cm]
def aj5 c:WG c S=some (.cls c,S):=rfl
def ah8(x y)k body:aaf x y k body S=(k S).bind λz=>(PR z.1).bind λl=>Hn x y body l z.2:=rfl
end
noncomputable def YQ(x:Nat)(body:MX):List D->AS->Option D4
 | [],S=>some (.ok (.nx S))
 |d::ds,S=>(body (S.set x (some (.sh d)))).bind λo=>match o with
  | .ok (.nx S')=>YQ x body ds S'
  | .ok (.ct S')=>YQ x body ds S'
  | .ok (.bk S')=>some (.ok (.nx S'))
  | .ok (.rt a)=>some (.ok (.rt a))
  | .ex c fs=>some (.ex c fs)
def af7(x:Nat)(k:MK)(body:MX):MX:=λS=>(yF k S).bind λy=>(vE (pD y.1)).bind λds=>YQ x body ds y.2
noncomputable def yI(f:AV->Option D4):WB->Option D4
 | .ok r=>f r
 | .ex c fs=>some (.ex c fs)
def yX(f:vH)(a:MA):MX:=λS=>(a S).bind λx=>(f (x.1.map pD)).bind (yI λ_=>some (.ok (.nx x.2)))
def aho(i:Nat)(f:vH)(a:MA):MX:=λS=>(a S).bind λx=>(f (x.1.map pD)).bind (yI λr=>some (.ok (.nx (x.2.set i (some r)))))
def D9(f:vH)(a:MA):MX:=λS=>(a S).bind λx=>(f (x.1.map pD)).bind (yI λr=>some (.ok (.rt r)))
noncomputable def BE(c:Str):MX:=λ_=>some (.ex c [])
section
variable {K:Ζ}
def Ci{D}(R2:rq K H₀ n Hf1 S' σ G Fs1)(e:yI g r=some o)(s0:qO Hf Hf1)
  (q:KB K H₀ n Hf D E o) (J:∀u,g u=some o->∀s t v F,qO Hf1 s->rq K H₀ n s S' σ t Fs1->rG K s t u v F->F.Nodup->(∀p∈F,G p=none)->Q v t):afJ K Hf1 G Q E r:=by
 cases r with
 |ok u=>exact λs t v F z H I l L nd fr=>J u e s t v F z (zz R2 z H I l) L nd fr
 |ex c fs=>
  cases e;intro s t ex M z H I l O;have B:=zz R2 z H I l;exact q s t ex M B.sf B.fr B.sub B.lim O
def xC(ha:SA K ta a):Qd K E (Dn (xX (wN K f) [] E ta)) (yX f a):=by
 intro H₀ l Hf S σ H Q o R e D q;obtain⟨x,s,e⟩:=oBq.mp e;obtain⟨r,t,e⟩:=oBq.mp e;refine ha R (as:=x.1) (S':=x.2) s _ λu T Fs1 U X B G I J=>?_
 obtain⟨R2,L,n⟩:=G.gives B I J;rw[aNq];exact⟨_,_,r,R2.sub,L,t,Ci R2 e n.sf q λY z M H' v F O P ra nd fr=>by cases z;exact q _ _ _ _ (n.sf.trans O) P⟩
def adp(ha:SA K ta a):Qd K E (Nd (xX (wN K f) [] E ta) (vo i)) (aho i f a):=by
 intro H₀ l Hf S σ H U o R e D q;obtain⟨x,t,e⟩:=oBq.mp e;obtain⟨r,u,e⟩:=oBq.mp e;refine ha R (as:=x.1) (S':=x.2) t _ λB X Fs1 Y Gs G I J L=>?_
 obtain⟨R2,M,n⟩:=I.gives G J L;rw[aNq];exact⟨_,_,r,R2.sub,M,u,Ci R2 e n.sf q λav z O H' v F P Q T nd fr=>by cases z;exact q _ _ _ _ (n.sf.trans P) (Q.set i T nd λp s=>⟨R2.fr.free (fr p s),λm=>(R2.mem m).1 (fr p s)⟩)⟩
def BO(rf:Ref K l C M):Qd K E (tRs E C (ai7 K l)) (BE l):=by
 intro H₀ n Hf S σ H J o R e D q;cases e;refine⟨C,M,rf,λex s=>⟨ex,none,rfl,pE,?_⟩⟩
 rw[E8];have t:Hf ex=none:=R.sub.free s;refine q (ri Hf ex (Ks ex C none)) _ ex none (R.sf.trans (tO t)) (R.fr.trans (tO s)) (λb B z=>?_) (λb G u=>?_) (.exc0 rf pE)
 .by_cases hb:b=ex
  .subst hb;rw[pE]at z ⊢;exact z
  .rw[pe hb]at z ⊢;exact R.sub b B z
 .have I:b≠ex:=λz=>u (by rw[z];exact R.fr.free s)
  rw[pe I];exact R.lim b G u
noncomputable def aln(c fld:Str)(S:AS):List D->Option (D×AS)
 | [.int n]=>some (.exc c [(fld,n)],S)
 |_=>none
def rMk(c fld:Str)(a:ML):ME:=λS=>(a S).bind λx=>aln c fld x.2 x.1
noncomputable def alF(c l s:Str)(S:AS):List D->Option (D×AS)
 | [.int n,.int m]=>some (.exc c [(l,n),(s,m)],S)
 |_=>none
def anp(c l n:Str)(a:ML):ME:=λS=>(a S).bind λx=>alF c l n x.2 x.1
noncomputable def ane:D->D->Option D
 | .tup [.str u,.int i],.tup [.str v,.int j]=>some (.bl (decide (u=v/\i=j)))
 |_,_=>none
noncomputable def anC:D->D->Option D
 | .tup [.str u,.int i],.tup [.str v,.int j]=>some (.bl (!decide (u=v/\i=j)))
 |_,_=>none
end
def uR(G:OO X.prog X.w X.K X.mg X.base k x st ps (wN X.K g) f fd)(hr:tY k X.A)(u:yR (Xs X.prog X.w) X E)(ha:PA X (e::l) t)(z:Gl X x:=by rfl)(n:(x == ("__debug__" : Str))=false:=by decide)
  (B:kx (e::l) X.env=(false,eval e X.env)::kx l X.env:=by rfl) (s:(kM pos (kx l X.env)).any (·.1)=false:=by rfl) :
  PE X (.Call (.Name x p) (e::l) [] pos) (xX (wN X.K g) [] E t):=Vg G.ok hr z G.D.m G.D.F.kp G.D.b .nil u ha n B s
structure LJ (K:Ζ)(mg:Str->Υ)(cn:Str)(C M:Addr):Prop where
 c:IsC K cn C
 xc:AJ K cn C (.ref M::Ad)=true
 base:(ag M::Ad).contains (.type "BaseException")=true
 mgc:mg cn=some (.ref C)
 i:ajb K mg cn C M
def Tr{K:Ζ}{mg:Str->Υ}(X:K.In h)(G:h.Ns ko mg)(r:Ref K c C M)(ini:W.findIn K (.ref C) "__init__" = some (some (.builtin "ValueError.__init__")))(kp:W.keepIn K (.ref C)=true):LJ K mg c C M:=
 ⟨⟨r.nm,.inl ⟨M,r⟩⟩,r.xc,Sw M,W.mg_of X G r.nm,⟨r,ini,kp,W.mg_of X G r.nm⟩⟩
def Y7(g)r:yI g (.ok r)=g r:=rfl
def abr(g)c fs:yI g (.ex c fs)=some (.ex c fs):=rfl
def ag2(S)f a:yX f a S=(a S).bind λx=>(f (x.1.map pD)).bind (yI λ_=>some (.ok (.nx x.2))):=rfl
def akb(S)i f a:aho i f a S=(a S).bind λx=>(f (x.1.map pD)).bind (yI λr=>some (.ok (.nx (x.2.set i (some r))))):=rfl
def YG(S)c:BE c S=some (.ex c []):=rfl
noncomputable def ZA:D->Option Str
 | .str x=>some x
 |_=>none
noncomputable def akX:D->List D->Option D
 | .str a,[.str b]=>some (.bl (Txt.startswith a b))
 |_,_=>none
noncomputable def anx:D->D->Option D
 | .str i,.str j=>some (.bl (!(Builtin.Str.occurrences j i 0 j.length 1).isEmpty))
 |_,_=>none
noncomputable def akY:D->D->Option D
 | .str i,.str j=>some (.bl (!(!(Builtin.Str.occurrences j i 0 j.length 1).isEmpty)))
 |_,_=>none
noncomputable def FP(x y:D):Option D:=match y with
 | .non=>(match x with|.non=>some (.bl true)|.int _=>some (.bl false)|.str _=>some (.bl false)|.bl _=>some (.bl false)|.list _=>some (.bl false)|.tup _=>some (.bl false)|_=>none)
 |_=>none
def amy:List D->Option D
 | [.str x]=>(intText? x).bind λn=>yH (x.length<=640) (some (.int n))
 |_=>none
noncomputable def ak6:D->List D->Option D
 | .str a,[.str b]=>((Builtin.Str.occurrences a b 0 a.length 1).head?).map λi=>.int (i:Nat)
 |_,_=>none
noncomputable def TL:List D->Option (List Bool)
 | []=>some []
 | .bl b::ds=>(TL ds).map (b :: ·)
 |_=>none
def anJ:List D->Option D
 | [.list ds]=>(TL ds).map λbs=>.bl (bs.all id)
 |_=>none
def JF:Lz K (λx y H Q=>y = .non/\Q (.bl (decide (x = .non))) H) FP:=by
 intro x y H Q s t d l n e q;cases n <;> first|(cases e;)|skip
 cases l <;> first|(cases e;done)|(cases e;exact⟨rfl,q _ (by simpa using ug.bl)⟩)
def anA(a:ME)(lo hi:MO):ME:=λS=>(a S).bind λx=>(lo x.2).bind λy=>(hi y.2).bind λz=>(ZA x.1).bind λt=>yH (t.length<=tH) (some (.str (Txt.slice t y.1 z.1),z.2))
def aed:D->List D->Option (List Str)
 | .str a,[.str b]=>yH ((b.length == 0)=false/\a.length<=tH/\(Builtin.Str.partsBetween a (Builtin.Str.occurrences a b 0 a.length (a.length+1)) b.length).length<=tH/\(Txt.split a b).length<=tH) (some (Txt.split a b))
 |_,_=>none
def als(a:ME)(as:ML):MK:=λS=>(a S).bind λx=>(as x.2).bind λy=>(aed x.1 y.1).map λl=>(.ow (l.map λw=>.sh (.str w)),y.2)
noncomputable def afq(x:Str):List D:=x.cps.toList.map λc=>.str ⟨#[c]⟩
def iSg(a:ME):MI:=λS=>(a S).bind λx=>(ZA x.1).map λt=>(afq t,x.2)
def amD(x:Nat)(a:ME)(body:MS):MS:=λS=>(a S).bind λy=>(ZA y.1).bind λt=>uY x body (afq t) y.2
noncomputable def SC(x y:Nat)(body:MX):Nat->List D->AS->Option D4
 |_,[],S=>some (.ok (.nx S))
 |i,d::ds,S=>(body ((S.set x (some (.sh (.int i)))).set y (some (.sh d)))).bind λo=>match o with
  | .ok (.nx S')=>SC x y body (i+1) ds S'
  | .ok (.ct S')=>SC x y body (i+1) ds S'
  | .ok (.bk S')=>some (.ok (.nx S'))
  | .ok (.rt a)=>some (.ok (.rt a))
  | .ex c fs=>some (.ex c fs)
def amJ(x y:Nat)(k:MK)(body:MX):MX:=λS=>(yF k S).bind λz=>(vE (pD z.1)).bind λds=>SC x y body 0 ds z.2
def wL(ha:SA K s a):Qd K E (VC (xX (wN K f) [] E s)) (D9 f a):=by
 intro H₀ n Hf S σ H U o R e D q;obtain⟨x,t,e⟩:=oBq.mp e;obtain⟨r,u,e⟩:=oBq.mp e;refine ha R (as:=x.1) (S':=x.2) t _ λB X Fs1 Y Gs G I J L=>?_
 obtain⟨R2,M,O⟩:=I.gives G J L;rw[aNq];exact⟨_,_,r,R2.sub,M,u,Ci R2 e O.sf q λav z P H' v F s1 l Q nd fr=>by cases z;exact q _ _ _ _ l.sf l.fr l.sub l.lim Q nd λp T=>R2.fr.free (fr p T)⟩
def Qk:FP .non .non=some (.bl true):=rfl
def Ja i:FP (.int i) .non=some (.bl false):=rfl
def Kr x:FP (.str x) .non=some (.bl false):=rfl
def Vv ds:FP (.list ds) .non=some (.bl false):=rfl
def ajX(S)f a:D9 f a S=(a S).bind λx=>(f (x.1.map pD)).bind (yI λr=>some (.ok (.rt r))):=rfl
abbrev Zr:=Sg Zq λi j=>.int (i / j)
def SM(K:Ζ)(te:TE)(m:ME):Prop:=∀{H₀ l Hf}{S}{σ}{H}{u}{d}{S'},rq K H₀ l Hf S σ H u->m S=some (d,S')->∀Q:VK,
 (∀n t s v,qO Hf n->rq K H₀ l n S' σ t s->ug K n d v->Q v t)->te σ H Q
noncomputable def shD:AV->Option D
 | .sh d=>some d
 |_=>none
def aav(h:shD a=some d):a = .sh d:=by
 unfold shD at h;split at h <;> cases h
 rfl
def FH(i:Nat)(b:ME):ME:=λS=>(tM S i).bind λ_=>(b S).bind λy=>(intOf y.1).bind λz=>(tM y.2 i).bind λl=>yH (0<=z/\z<l.length/\l.length<=tH) ((l[z.toNat]?.bind shD).map λd=>(d,y.2.set i (some (.ow (l.eraseIdx z.toNat)))))
def LB(i:Nat):ME:=λS=>(tM S i).bind λl=>(l[l.length-1]?.bind shD).map λd=>(d,S.set i (some (.ow l.dropLast)))
noncomputable def ajz(l:List (qM×D))(k:qM):List (qM×D):=l.filter λn=>decide (n.1≠k)
def amK(i:Nat)(b:ME):ME:=λS=>(yZ S i).bind λ_=>(b S).bind λy=>(yY y.1).bind λkey=>(yZ y.2 i).bind λl=>(getD l key).map λd=>(d,y.2.set i (some (.owd (ajz l key))))
def adD:Lz K (rI Zq λi j=>.int (i / j)) Zr:=P3 λ_ _ _=>.int
def qC.erase(r:qC K Hf H as vs t)k:qC K Hf H (as.eraseIdx k) (vs.eraseIdx k) (t.eraseIdx k):=by
 obtain⟨x,z,u⟩:=r;refine⟨by rw[eO,eO,x],by rw[eO,eO,z],λi b w G s l n=>?_⟩
 rw[List.getElem?_eraseIdx]at s l n;split at s
 .rename_i q;rw[qf q]at l n;exact u i b w G s l n
 .rename_i q;rw[qj q]at l n;exact u (i+1) b w G s l n
def Tg{l:List Δ}(h:l[k]?=some []):(l.eraseIdx k).flatten=l.flatten:=by
 induction l generalizing k with
 |nil=>cases h
 |cons g r n=>
  cases k with
  |zero=>
   simp at h;subst h;rfl
  |succ k=>
   rw[bS,fCq,fCq,n (by simpa using h)]
def rq.lose(R:rq K H₀ l Hf S σ H u)(h:S[i]?=some (some (.ow n)))(hk:n[k]?=some (.sh d)) :
  ∃p vs y F',σ[i]?=some (some (.ref p))/\H p=some (.lst vs)/\n.length=vs.length/\vs[k]?=some y/\ug K Hf d y/\rq K H₀ l Hf (S.set i (some (.ow (n.eraseIdx k)))) σ (ri H p (.lst (vs.eraseIdx k))) (u.set i F'):=by
 obtain⟨p,vs,x,z,L,M,O,s,B,P,Q⟩:=R.ow h;have lk:=(gSq.mp hk).1;obtain⟨y,E⟩:∃y,vs[k]?=some y:=⟨_,gEg (by rw[←s.1];exact lk)⟩
 obtain⟨G,I⟩:∃G,x[k]?=some G:=⟨_,gEg (by rw[←s.2.1];exact lk)⟩
 obtain⟨t,T⟩:=(s.2.2 k _ _ _ hk E I).sh_inv;subst t;have J:=Tg I;refine⟨p,vs,y,p::(x.eraseIdx k).flatten,z,M,s.1,E,T,R.turn z L ⋯ (rG.news pE O ((s.keepUpd B).erase k)) ?_ ?_⟩
 .rw[J];exact ak.mpr ⟨B,P⟩
 .rw[J];exact Q
def Qh(hb:SR K G b):SM K (W0 K "list" abp (xq i) (vG G xY)) (FH i b):=by
 intro H₀ s Hf S σ H Fs d S' R e Q q;obtain⟨a0,L,e⟩:=oBq.mp e;obtain⟨y,M,e⟩:=oBq.mp e;obtain⟨z,t,e⟩:=oBq.mp e;obtain⟨l,O,e⟩:=oBq.mp e;rcases qL e with⟨⟨P,T,U⟩,e⟩|e
 .obtain⟨d',u,e⟩:=oMq.mp e;cases e;obtain⟨a,u,x⟩:=oBq.mp u;have x:=aav x;subst x;obtain⟨p,X,Gs,I,_,Y,_⟩:=R.ow (rB L);refine⟨.ref p,I,.inl ⟨rfl,X,uO.of Y⟩,hb R (d:=y.1) (S':=y.2) M _ λHf1 H1 Fs1 v t1 R1 J=>?_⟩
  obtain⟨p',B,w,F',n,hp,hl,hw,E,R2⟩:=R1.lose (rB O) u;rw[I]at n;cases n;have hv:v = .int z:=by
   have:y.1 = .int z:=by
    revert t
    unfold intOf;split <;> intro t <;> cases t
    assumption
   rw[this]at J;cases J;rfl
  subst hv;have hz:(l.length:Int)<=16777216:=by
   have:l.length<=16777216:=U;lia
  refine⟨p,B,z,z.toNat,w,rfl,rfl,hp,by lia,by lia,?_,hw,q _ _ _ _ t1.sf R2 E⟩
  rw[←hl];unfold om;have n1:¬ z<0:=by lia
  have n2:(decide (0<=z) && decide (z<(l.length:Int)))=true:=by
   rw[d0 P,d0 T];rfl
  simp only[n1,if_false];exact qf n2
 .cases e
def aiF:SM K (W0 K "list" agT (xq i) xY) (LB i):=by
 intro H₀ l Hf S σ H G d I R e Q q;obtain⟨z,B,e⟩:=oBq.mp e;obtain⟨J,n,e⟩:=oMq.mp e;cases e;obtain⟨a,n,s⟩:=oBq.mp n;have s:=aav s;subst s;obtain⟨p,u,w,L,E,x,hl,hw,t,R2⟩:=R.lose (rB B) n;refine⟨.ref p,E,.inl ⟨rfl,u,uO.of x⟩,p,u,w,rfl,rfl,x,by rw[←hl];exact hw,?_⟩
 rw[EL,hl,EL]at R2;exact q _ _ _ _ (.refl _) R2 t
noncomputable def akt(i:Nat)(m:ME):MS:=λS=>(m S).map λx=>.nx (x.2.set i (some (.sh x.1)))
def amF(i:Nat)(m:ME):MS:=λS=>(tM S i).bind λ_=>(m S).bind λx=>(tM x.2 i).bind λl=>yH (l.length<tH) (some (.nx (x.2.set i (some (.ow (l++[.sh x.1]))))))
def Sv(i:Nat)(b:ME)(m:ME):MS:=λS=>(m S).bind λx=>(yZ x.2 i).bind λ_=>(b x.2).bind λy=>(yZ y.2 i).bind λl=>(yY y.1).bind λkey=>
 yH (l.length<tH) (some (.nx (y.2.set i (some (.owd (FC l key x.1))))))
def aab(hk:SM K te m)(hb:SR K I b):SS K (aau (xq i) I te) (Sv i b m):=by
 intro H₀ s Hf S σ H Fs o R e D h;obtain⟨x,O,e⟩:=oBq.mp e;obtain⟨a0,P,e⟩:=oBq.mp e;obtain⟨y,Q,e⟩:=oBq.mp e;obtain⟨oX,T,e⟩:=oBq.mp e;obtain⟨key,U,e⟩:=oBq.mp e;rcases qL e with⟨hl,e⟩|e
 .cases e;refine hk R (d:=x.1) (S':=x.2) O _ λX H1 Fs1 v Y J r1=>?_
  obtain⟨L,_,t,_⟩:=J.owd (zJ P);refine⟨_,t,hb J (d:=y.1) (S':=y.2) Q _ λHf2 H2 Fs2 w M R2 r2=>?_⟩
  obtain⟨q',kv,l,u,z,B,n,E,G⟩:=R2.owd (zJ T);rw[t]at l;cases l;have rv:=r1.mono M.sf;have hw:=A4 U r2;subst hw;refine⟨L,_,rfl,Wi.k z (by rw[EA,←n.len];exact hl),h _ _ _ _ (Y.trans M.sf) (R2.turn t u ⋯ (F':=[L]) (.owd pE B (Q3 n rv)) ⋯ λq hq=>by rw[mSq.mp hq];exact⟨E,G⟩)⟩
 .cases e
def ahE d:shD (.sh d)=some d:=rfl
def ZW(S)i b:FH i b S=(tM S i).bind λ_=>(b S).bind λy=>(intOf y.1).bind λz=>(tM y.2 i).bind λl=>yH (0<=z/\z<l.length/\l.length<=tH) ((l[z.toNat]?.bind shD).map λd=>(d,y.2.set i (some (.ow (l.eraseIdx z.toNat))))):=rfl
def aie(S)i:LB i S=(tM S i).bind λl=>(l[l.length-1]?.bind shD).map λd=>(d,S.set i (some (.ow l.dropLast))):=rfl
def aea(S)i b m:Sv i b m S=(m S).bind λx=>(yZ x.2 i).bind λ_=>(b x.2).bind λy=>(yZ y.2 i).bind λl=>(yY y.1).bind λkey=>
 yH (l.length<tH) (some (.nx (y.2.set i (some (.owd (FC l key x.1)))))):=rfl
def vk(x y:D):Option D:=match x with
 | .tup _=>ahm x y
 |_=>HC x y
def XW:MF:=λ_=>none
def ani(i:Nat)(b:ME)(k:MK):MS:=λS=>(tM S i).bind λ_=>(b S).bind λy=>(intOf y.1).bind λz=>(yF k y.2).bind λx=>(tM x.2 i).bind λl=>yH (0<=z/\z<=l.length/\l.length<tH) (some (.nx (x.2.set i (some (.ow (l.take z.toNat++x.1::l.drop z.toNat))))))
def wx:Lz K (λx y H Q=>X1 K x y H Q∨agW K x y H Q) vk:=by
 intro x y H Q s t d l n e q;unfold vk at e;split at e
 .exact .inr (af8 l n e q)
 .exact .inl (yx l n e q)
def ab5(D:xN K mg x st ps f fd):Fn P w K mg base k x st ps (rW K XW) f fd:=
 ⟨D,⟨λn H Q E h=>(by obtain⟨Hf,t,a,s,r,e,q⟩:=h;cases e),λA outer s H l us n Q E _ _ _ _ h=>(by obtain⟨Hf,t,a,s,r,e,q⟩:=h;cases e)⟩⟩
def WT(ds)i:vk (.list ds) (.int i)=atI ds i:=rfl
def uS(ds)i:vk (.tup ds) (.int i)=atI ds i:=rfl
noncomputable def Re:D->String->Option D
 | .int _,T=>if T = "list" ∨ T = "tuple" ∨ T = "str" then some (.bl false)else none
 | .str _,T=>if T = "list" ∨ T = "tuple" then some (.bl false)else none
 | .non,T=>if T = "list" ∨ T = "tuple" then some (.bl false)else none
 | .list _,T=>if T = "tuple" then some (.bl false)else none
 | .tup _,T=>if T = "list" then some (.bl false)else none
 |_,_=>none
def C6:List D->Option D
 | [x,.ty T]=>Re x T
 |_=>none
def uW(ds:List D):Option D:=match CS ds with
 |some d=>some d
 |none=>C6 ds
def aiM:CbD K (λxs H Q=>∃x T,xs=[x,.ty T]/\aiB K x H T/\Q (.bl false) H) C6:=by
 intro B H Q E d r e q;unfold C6 at e;split at e
 rotate_left
 .cases e
 rename_i x T;obtain⟨v,G,rfl,l,s⟩:=r.cons_inv;obtain⟨u,I,rfl,t,z⟩:=s.cons_inv;rw[z.nil_inv];cases t;unfold Re at e;cases x <;> first|(cases e;)|dsimp only at e
 all_goals
  split at e
  rotate_left
  .cases e
  rename_i n;cases e
 .cases l;exact⟨_,_,rfl,n,q _ .bl⟩
 .cases l;exact⟨_,_,rfl,n,q _ .bl⟩
 .cases l;exact⟨_,_,rfl,n,q _ .bl⟩
 .obtain⟨p,xs,rfl,h,_⟩:=l.list_inv;exact⟨_,_,rfl,.inl ⟨n,xs,uO.of h⟩,q _ .bl⟩
 .obtain⟨p,xs,rfl,h,_⟩:=l.tup_inv;exact⟨_,_,rfl,.inr ⟨n,xs,GW.of h⟩,q _ .bl⟩
def AD:CbD K (λxs H Q=>(∃x T b,xs=[x,.ty T]/\aiI K x H T b/\Q (.bl b) H)∨∃x T,xs=[x,.ty T]/\aiB K x H T/\Q (.bl false) H) uW:=by
 intro n H Q s d r e q;unfold uW at e;split at e
 .rename_i l;cases e;exact .inl (agK r l q)
 .exact .inr (aiM r e q)
def agN ds:uW [.list ds,.ty "list"]=some (.bl true):=by simp[uW,CS,C6,Rh,Re]
def ahq ds:uW [.list ds,.ty "tuple"]=some (.bl false):=by simp[uW,CS,C6,Rh,Re]
def aiA ds:uW [.tup ds,.ty "list"]=some (.bl false):=by simp[uW,CS,C6,Rh,Re]
def ahl ds:uW [.tup ds,.ty "tuple"]=some (.bl true):=by simp[uW,CS,C6,Rh,Re]
def agy x:uW [.str x,.ty "list"]=some (.bl false):=by simp[uW,CS,C6,Rh,Re]
def agh x:uW [.str x,.ty "tuple"]=some (.bl false):=by simp[uW,CS,C6,Rh,Re]
def agH x:uW [.str x,.ty "str"]=some (.bl true):=by simp[uW,CS,C6,Rh,Re]
def ag0 i:uW [.int i,.ty "list"]=some (.bl false):=by simp[uW,CS,C6,Rh,Re]
def ahJ i:uW [.int i,.ty "tuple"]=some (.bl false):=by simp[uW,CS,C6,Rh,Re]
def ahb i:uW [.int i,.ty "str"]=some (.bl false):=by simp[uW,CS,C6,Rh,Re]
def agx i:uW [.int i,.ty "int"]=some (.bl true):=by simp[uW,CS,C6,Rh,Re]
def aim i:uW [.int i,.ty "bool"]=some (.bl false):=by simp[uW,CS,C6,Rh,Re]
def ait:uW [.non,.ty "list"]=some (.bl false):=by simp[uW,CS,C6,Rh,Re]
def aiv:uW [.non,.ty "tuple"]=some (.bl false):=by simp[uW,CS,C6,Rh,Re]
def aiy(b:ME)(k:MK):MK:=λS=>(b S).bind λy=>(yF k y.2).bind λx=>(yY y.1).map λkey=>(.owd [(key,pD x.1)],x.2)
def adk:SM K (ajh K "list" agT (xq i)) (LB i):=aiF
noncomputable def afh:List (qM×D)->Option Ϝ
 | []=>some []
 | (.inl i,_)::r=>(afh r).map (i :: ·)
 |_=>none
def ahG(a:ME):MK:=λS=>(a S).bind λx=>match x.1 with
 | .dict l=>(afh l).map λns=>(.ow ((ER ns).map λn=>.sh (.int n)),x.2)
 |_=>none
noncomputable def XO:D->Option V
 | .non=>some .non
 | .bl b=>some (.bl b)
 | .int i=>some (.int i)
 | .str s=>some (.str s)
 |_=>none
def GQ:List D->Option (List V)
 | []=>some []
 |d::ds=>(XO d).bind λv=>(GQ ds).map (v :: ·)
noncomputable def ahs:D->Option (List D)
 | .list ds=>some ds
 | .tup ds=>some ds
 |_=>none
def Fv(neg:Bool)(x y:D):Option D:=(XO x).bind λv=>(ahs y).bind λds=>(GQ ds).map λvs=>.bl (if neg then !inV v vs else inV v vs)
def Lu(e:XO d=some v)(r:ug K H d w):w=v/\Eb v=true:=by
 cases d <;> first|(cases e;cases r;exact⟨rfl,rfl⟩)|cases e
theorem Di:∀{ds}{vs l},GQ ds=some vs->sq K H ds l->l=vs/\vs.all Eb=true
 | [],vs,l,e,r=>by
  cases e;exact⟨r.nil_inv,rfl⟩
 |d::ds,vs,l,e,r=>by
  obtain⟨v,n,e⟩:=oBq.mp e;obtain⟨us,s,rfl⟩:=oMq.mp e;obtain⟨w,t,rfl,u,x⟩:=r.cons_inv;obtain⟨rfl,z⟩:=Lu n u;obtain⟨rfl,B⟩:=Di s x;exact⟨rfl,by rw[eS,z,B];rfl⟩
def NO neg:Lz K (rIn K neg) (Fv neg):=by
 intro x y H Q L E d G u e q;obtain⟨v,I,e⟩:=oBq.mp e;obtain⟨M,l,e⟩:=oBq.mp e;obtain⟨O,z,e⟩:=oMq.mp e;subst e;obtain⟨rfl,B⟩:=Lu I G;cases E with
 |list J=>
  cases l;obtain⟨p,us,rfl,n,s⟩:=u.list_inv;obtain⟨rfl,t⟩:=Di z s;exact⟨p,us,rfl,.inl (uO.of n),B,t,q _ .bl⟩
 |tup J=>
  cases l;obtain⟨p,us,rfl,n,s⟩:=u.tup_inv;obtain⟨rfl,t⟩:=Di z s;exact⟨p,us,rfl,.inr (GW.of n),B,t,q _ .bl⟩
 |_=>cases l
def Rb(ns:Ϝ):GQ (ns.map D.int)=some (ns.map V.int):=by
 induction ns with
 |nil=>rfl
 |cons n ns l=>rw[aw,GQ,l];rfl
def abD i(ns:Ϝ):inV (.int i) (ns.map V.int)=decide (i∈ns):=by
 unfold inV
 induction ns with
 |nil=>rfl
 |cons n ns l=>
  rw[aw,dF,l];show(n == i || decide (i∈ns))=_
  by_cases h:i=n
  .subst h;simp
  .have s:¬ n=i:=λz=>h z.symm
   simp[h,s]
def NV(neg)i(ns:Ϝ):Fv neg (.int i) (.list (ns.map D.int))=some (.bl (if neg then !decide (i∈ns)else decide (i∈ns))):=by
 show(GQ (ns.map D.int)).map _=_;rw[Rb,cw,abD]
noncomputable def Na(l:MT)(te:MK)(cap:AS):List (D×D)->Option (List AV)
 | []=>some []
 |d::ds=>(l (some (.sh d.1)::some (.sh d.2)::cap)).bind λb=>if b.1=true then (te b.2).bind λa=>(Na l te cap ds).map (a.1 :: ·)else Na l te cap ds
noncomputable def ae7:Nat->List D->List (D×D)
 |_,[]=>[]
 |n,d::ds=>(.int (n:Int),d)::ae7 (n+1) ds
def al8(k:MK)(fr:Θ)(s:MT)(te:MK):MK:=λS=>(yF k S).bind λy=>(vE (pD y.1)).bind λds=>(fzAll fr y.2).bind λn=>(KM n fr).bind λcap=>yH (ds.length<=tH) ((Na s te cap (ae7 0 ds)).map λl=>(.ow l,n))
theorem NT.same(s:qO H H'):∀{path}{v w},NT H v path w->NT H' v path w
 | [],v,w,h=>h
 |j::js,v,w,⟨p,vs,u,h1,h2,h3,h4⟩=>⟨p,vs,u,h1,s _ _ h2,h3,NT.same s h4⟩
theorem NT.one:∀{path}{v w l},NT H v path w->NT H v path l->w=l
 | [],v,w,l,h,t=>h.symm.trans t
 |j::js,v,w,l,hz,hy=>by
  obtain⟨p,J,u,x,z,B,E⟩:=hz;obtain⟨L,G,M,n,g2,s,I⟩:=hy;rw[x]at n;cases n;rw[z]at g2;cases g2;rw[B]at s;cases s;exact E.one I
theorem NT.snoc:∀{path}{v}{p}{vs}{n}{u},NT H v path (.ref p)->H p=some (.lst vs)->vs[n]?=some u->NT H v (path++[n]) u
 | [],v,p,vs,n,u,h,l,s=>⟨p,vs,u,h,l,s,rfl⟩
 |j::js,v,p,vs,n,u,⟨p',vs',u',g1,g2,g3,g4⟩,l,s=>⟨p',vs',u',g1,g2,g3,g4.snoc l s⟩
theorem NT.kept:∀{path}{l}{v w}{F}{as},rG K Hf H l v F->rR l path=some as->NT H v path w->(∀q∈F,H' q=H q)->NT H' v path w
 | [],l,v,w,F,as,_,_,h,_=>h
 |j::js,l,v,w,F,as,r,e,hz,hk=>by
  obtain⟨p,J,u,n,s,t,L⟩:=hz;cases l with
  |ow M=>
   obtain⟨T,O,U,x,z,B,X,E⟩:=r.ow_inv;rw[n]at x;cases x;rw[s]at B;cases B;obtain⟨a,G,e⟩:=oBq.mp (e);have P:=(gSq.mp G).1;have I:=gEg (E.2.1 ▸ P);have Q:=E.2.2 j a u _ G t I;refine⟨p,J,u,n,by rw[hk p (by rw[z];simp)];exact s,t,L.kept Q e λq R=>hk q ?_⟩
   rw[z];exact mCo _ (ti I R)
  |_=>cases e
noncomputable def frm(H₀ H:Hp)(F:Δ):Hp:=λb=>if b∈F then H b else H₀ b
def NP(h:b∈F):frm H₀ H F b=H b:=qf h
def DP(h:b∉F):frm H₀ H F b=H₀ b:=qj h
def rq.frame(R:rq K H₀ Hf₀ Hf S σ H Fs)(s2:Fs[i]?=some F):rq K (frm H₀ H F) Hf₀ Hf (S.set i none) σ H (Fs.set i []):=by
 have l:=R.kill i;have t:∀q∈F,q∈Fs.flatten:=λq x=>ti s2 x
 refine⟨l.len,l.lenF,l.rep,l.emp,l.nd,λp n=>?_,l.sub,λb u e=>?_,λb B s=>?_,l.sf⟩
 .have hn:=λz=>xT R.nd s2 z n
  rw[DP hn];exact l.fresh p n
 .by_cases hb:b∈F
  .rw[NP hb]at e;exact e
  .rw[DP hb]at e;exact R.fr b u e
 .by_cases hb:b∈F
  .exact(R.mem (t b hb)).2
  .rw[DP hb]at s;exact R.lim b B s
def RM{α:Type}{l:List α}{a}(h:l[i]?=some a):l.set i a=l:=by
 obtain⟨hk,n⟩:=gSq.mp h;rw[←n];exact fJ hk
def rq.unframe(R:rq K H₀ Hf₀ Hf S σ H Fs)(s2:Fs[i]?=some F)(r:rG K Hf H t v F)(nd:F.Nodup)(s:∀q∈F,H₀ q=none)
  (l:rq K (frm H₀ H F) Hf₀ Hf' S' σ' H' Fs') (x:S'[i]?=some none) (s1:σ'[i]?=some (some v)) (sf:qO Hf Hf') :
  (∀q∈F,H' q=H q)/\rG K Hf' H' t v F/\rq K H₀ Hf₀ Hf' (S'.set i (some t)) σ' H' (Fs'.set i F):=by
 have hk:∀q∈F,H' q=H q:=λq n=>by
  have hn:=(R.mem (ti s2 n)).1;cases B:H q with
  |none=>exact absurd B hn
  |some u=>exact l.fr q u (by rw[NP n];exact B)
 have I:∀q∈F,Hf' q=none:=λq n=>by
  have hm:=R.mem (ti s2 n);refine l.lim q ?_ (by rw[NP n];exact hm.1)
  cases J:Hf₀ q with
  |none=>rfl
  |some u=>rw[R.sf q u J]at hm;exact absurd hm.2 ⋯
 have E:=r.keep sf hk I;refine⟨hk,E,?_⟩;have L:rq K H₀ Hf₀ Hf' (S'.set i none) σ' H' (Fs'.set i []):=by
  rw[RM x,RM (l.emp i x)];refine⟨l.len,l.lenF,l.rep,l.emp,l.nd,λp M=>?_,l.sub,λb u e=>?_,λb O G=>?_,l.sf⟩
  .have:=l.fresh p M
   by_cases hb:p∈F
   .exact s p hb
   .rwa [DP hb]at this
  .refine l.fr b u ?_;rw[DP λz=>by rw[s b z]at e;cases e]
   exact e
  .refine l.lim b O ?_;rw[DP λz=>G (s b z)]
   exact G
 refine L.again (F:=F) s1 E nd λq n=>⟨s q n,λm=>?_⟩
 rw[RM (l.emp i x)]at m;have:=l.fresh q m;rw[NP n]at this;exact(R.mem (ti s2 n)).1 this
abbrev MP:=AS->Option (List Nat×AS)
def RU(i:Nat):MP:=λS=>(tM S i).map λ_=>([],S)
def pIx(i:Nat)(s:MP)(b:ME):MP:=λS=>(s S).bind λx=>(b x.2).bind λy=>(intOf y.1).bind λj=>(tM y.2 i).bind λl=>(rR (.ow l) x.1).bind λas=>(ON as.length j).map λn=>(x.1++[n],y.2)
def SPh(K:Ζ)(i:Nat)(te:TE)(x:MP):Prop:=∀{H₀ l Hf}{S}{σ}{H}{u}{path:Θ}{S'},rq K H₀ l Hf S σ H u->x S=some (path,S')->∀Q:VK,
 (∀n t s v w,C5 Hf H u n t s->rq K H₀ l n S' σ t s->σ[i]?=some (some v)->NT t v path w->Q w t)->te σ H Q
def OD i:SPh K i (xq i) (RU i):=by
 intro H₀ l Hf S σ H u path x R e Q q;obtain⟨s,t,e⟩:=oMq.mp e;cases e;obtain⟨p,z,B,n,_⟩:=R.ow (rB t);exact⟨_,n,q _ _ _ _ _ .refl R n rfl⟩
def Cm{i:Nat}(R:rq K H₀ l Hf S σ H t)(e:S[i]?=some (some (.ow n)))(s1:σ[i]?=some (some v))(u:rR (.ow n) path=some as)(h:NT H v path w) :
  ∃p vs,w = .ref p/\H p=some (.lst vs)/\vs.length=as.length:=by
 obtain⟨B,F,s,E,r,nd,_⟩:=R.move e;rw[s1]at s;cases s;obtain⟨p,vs,G,x,g2,I,z,_⟩:=r.path nd u;exact⟨p,vs,h.one x,g2,z.1.symm⟩
def JR(U:SPh K i te E)(hb:SR K B b):SPh K i (tOp (X1 K) te B) (pIx i E b):=by
 intro H₀ l Hf S σ H Fs path S' R e Q q;obtain⟨x,X,e⟩:=oBq.mp e;obtain⟨y,Y,e⟩:=oBq.mp e;obtain⟨j,s,e⟩:=oBq.mp e;obtain⟨avs,e4,e⟩:=oBq.mp e;obtain⟨as,e5,e⟩:=oBq.mp e;obtain⟨n,G,e⟩:=oMq.mp e;cases e;refine U R X _ λHf1 H1 Fs1 v w t1 R1 I a1=>hb R1 Y _ λHf2 H2 Fs2 u J R2 L=>?_
 have hy:y.1 = .int j:=by
  cases hx:y.1 <;> rw[hx]at s <;> first|(cases s;rfl)|cases s
 rw[hy]at L;cases L;have M:=a1.same J.sh;obtain⟨p,t,rfl,O,P⟩:=Cm R2 (rB e4) I e5 M;obtain⟨_,hn,_⟩:=Ux G;have z:n<t.length:=by rw[P];exact hn
 obtain⟨u,T⟩:∃u,t[n]?=some u:=⟨_,gEg z⟩;refine⟨p,t,j,u,rfl,rfl,uO.of O,?_,q _ _ _ v _ (t1.trans J) R2 I (M.snoc O T)⟩;unfold atI;rw[P,G];exact T
def rq.grow(R:rq K H₀ l Hf S σ H M)(e:S[i]?=some (some (.ow n)))(s1:σ[i]?=some (some v))(en:rR (.ow n) path=some as)(h:NT H v path (.ref p)) :
  ∃vs,H p=some (.lst vs)/\as.length=vs.length/\∀bs x s,qC K Hf H bs x s->s.flatten.Nodup->(∀q∈s.flatten,H₀ q=none/\q∉M.flatten) ->
   ∃G,rq K H₀ l Hf (S.set i (some (putAt (.ow n) path (as++bs)))) σ (ri H p (.lst (vs++x))) G:=by
 obtain⟨v',F,O,B,r,nd,P,_⟩:=R.move e;rw[s1]at O;cases O;obtain⟨p',vs,I,g1,g2,g3,Q,T,U,J,X,g8⟩:=r.path nd en;have L:=h.one g1;cases L;refine⟨vs,g2,Q.1,λbs x s rb nG u=>?_⟩
 have Y:=λm=>(u p m).2 (ti B T)
 have t:(I++s).flatten=I.flatten++s.flatten:=fAq;obtain⟨F',k1,k2,k3⟩:=g8 (as++bs) (vs++x) (I++s) ((Q.keepUpd U).append (rb.keepUpd Y)) (by
  rw[t];refine ak.mpr ⟨λm=>(mAq.mp m).elim U Y,nAq.mpr ⟨J,nG,λa ha b hb z=>(u b hb).2 (ti B (X b (z ▸ ha)))⟩⟩) (λq E=>by
  rw[t]at E;exact(mAq.mp E).imp id λm z=>(u q m).2 (ti B z))
 refine⟨_,R.turnAny s1 B T k1 k2 λq E=>?_⟩
 rcases k3 q E with z|z
 .exact P q z
 .rw[t]at z;rcases mAq.mp z with z|z
  .exact P q (X q z)
  .exact⟨(u q z).1,λm=>(u q z).2 (tI m)⟩
def Ua(i:Nat)(n:MP)(k:MK):MS:=λS=>(n S).bind λx=>(tM x.2 i).bind λs=>(rR (.ow s) x.1).bind λ_=>(k x.2).bind λy=>(tM y.2 i).bind λl=>(rR (.ow l) x.1).bind λas=>yH (as.length<tH) (some (.nx (y.2.set i (some (putAt (.ow l) x.1 (as++[y.1]))))))
def aeH(L:SPh K i z B)(hk:SK K te k):SS K (Dn (W0 K "list" Fl z (vG te xY))) (Ua i B k):=by
 intro H₀ l Hf S σ H Fs o R e D h;obtain⟨x,M,e⟩:=oBq.mp e;obtain⟨a0,O,e⟩:=oBq.mp e;obtain⟨n0,P,e⟩:=oBq.mp e;obtain⟨y,Q,e⟩:=oBq.mp e;obtain⟨T,U,e⟩:=oBq.mp e;obtain⟨as,X,e⟩:=oBq.mp e;rcases qL e with⟨hl,e⟩|e
 .cases e;refine L R (path:=x.1) (S':=x.2) M _ λY H1 Fs1 v w t1 E G I=>?_
  obtain⟨p,vs,rfl,h1,h2⟩:=Cm E (rB O) G P I;refine⟨.inl ⟨rfl,vs,uO.of h1⟩,hk E (a:=y.1) (S':=y.2) Q _ λHf2 H2 Fs2 u F J R2 r2 n=>?_⟩
  obtain⟨s,g1,g2,g3⟩:=R2.grow (rB U) G X (I.same J.sh);obtain⟨Fs',R3⟩:=g3 [y.1] [u] [F] (qC.nil.snoc r2) (by rw[aR];exact n.nd) (λq t=>by rw[aR]at t;exact⟨n.fr q t,n.out q t⟩)
  exact⟨p,s,u,rfl,rfl,g1,by rw[EA,←g2];exact hl,h _ _ _ _ (t1.sf.trans J.sf) R3⟩
 .cases e
def Y5(i:Nat)(s:MP)(l:ML):MS:=λS=>(s S).bind λx=>(tM x.2 i).bind λt=>(rR (.ow t) x.1).bind λ_=>(l x.2).bind λy=>(tM y.2 i).bind λn=>(rR (.ow n) x.1).bind λas=>yH (as.length+y.1.length<=tH) (some (.nx (y.2.set i (some (putAt (.ow n) x.1 (as++y.1.map .sh))))))
def acs(M:SPh K i t u)(hk:SL K te l):SS K (Dn (W0 K "list" ID t (vG te xY))) (Y5 i u l):=by
 intro H₀ n Hf S σ H Fs o R e D h;obtain⟨x,O,e⟩:=oBq.mp e;obtain⟨a0,P,e⟩:=oBq.mp e;obtain⟨n0,Q,e⟩:=oBq.mp e;obtain⟨y,T,e⟩:=oBq.mp e;obtain⟨U,X,e⟩:=oBq.mp e;obtain⟨as,Y,e⟩:=oBq.mp e;rcases qL e with⟨hl,e⟩|e
 .cases e;refine M R (path:=x.1) (S':=x.2) O _ λHf1 H1 Fs1 v w t1 z B E=>?_
  obtain⟨p,vs,rfl,h1,h2⟩:=Cm z (rB P) B Q E;refine⟨.inl ⟨rfl,vs,uO.of h1⟩,hk z (ds:=y.1) (S':=y.2) T _ λHf2 H2 Fs2 b G I R2 hb J=>?_⟩
  obtain⟨s,g1,g2,g3⟩:=R2.grow (rB X) B Y (E.same I.sh);obtain⟨Fs',R3⟩:=g3 (y.1.map .sh) G (aE y.1.length []) (NY J) (by rw[vv];exact ba) (λq L=>by rw[vv]at L;cases L)
  exact⟨p,b,s,G,rfl,rfl,g1,hb,by rw[EA,←g2,←J.1];exact hl,h _ _ _ _ (t1.sf.trans I.sf) R3⟩
 .cases e
def Als(x i:Nat)(path:Θ)(S:AS)(σ:St)(H:Hp):Prop:=∃v p l as,S[i]?=some (some (.ow l))/\rR (.ow l) path=some as/\σ[x]?=some (some (.ref p))/\σ[i]?=some (some v)/\NT H v path (.ref p)
def Xn(K:Ζ)(x i:Nat)(t:TS)(m:Θ->MS):Prop:=∀{path}{H₀ l Hf}{S}{σ}{H}{n}{o},rq K H₀ l Hf S σ H n->Als x i path S σ H->m path S=some o->∀D:yQ,Gv K H₀ l Hf D o->t D σ H
def ac9(x i:Nat)(n:MP)(m:Θ->MS):MS:=λS=>(n S).bind λy=>(tM y.2 i).bind λl=>(rR (.ow l) y.1).bind λ_=>yH (x≠i/\x<y.2.length) (m y.1 (y.2.set x none))
def ahn(L:SPh K i te B)(hm:Xn K x i t m):SS K (Nu (Nd te (vo x)) t) (ac9 x i B m):=by
 intro H₀ n Hf S σ H T o R e D h;obtain⟨y,M,e⟩:=oBq.mp e;obtain⟨s,E,e⟩:=oBq.mp e;obtain⟨O,G,e⟩:=oBq.mp e;rcases qL e with⟨⟨l,u⟩,e⟩|e
 .refine L R (path:=y.1) (S':=y.2) M _ λP U Fs1 v w Q z I J=>?_
  obtain⟨p,X,rfl,Y,h2⟩:=Cm z (rB E) I G J;have R2:=(z.kill x).any (V.ref p);refine hm R2 ⟨v,p,s,O,?_,G,?_,?_,J⟩ e D (h.mono Q.sf)
  .rw[aA l];exact rB E
  .exact aV (by rw[←z.len];exact u)
  .rw[aA l];exact I
 .cases e
def afN(h:SS K t m):Xn K x i t (λ_=>m):=λR _ e D o=>h R e D o
def ZK(ha:Xn K x i t a)(hb:SS K u b):Xn K x i (Nu t u) (λpath=>oZ (a path) b):=by
 intro path H₀ l Hf S σ H I o R A e D h;obtain⟨y,n,e⟩:=oBq.mp e;refine ha R A n _ ?_;cases y with
 |nx J=>exact λz B L E s G=>hb G e D (h.mono s)
 |rt a=>cases e;exact h
 |bk a=>cases e;exact h
 |ct a=>cases e;exact h
def K3(i:Nat)(c:MT)(a b:Θ->MS):Θ->MS:=λpath S=>(c S).bind λy=>(tM y.2 i).bind λl=>(rR (.ow l) path).bind λ_=>if y.1=true then a path y.2 else b path y.2
def U9(I:MB K c m)(ha:Xn K x i t a)(hb:Xn K x i u b):Xn K x i (YJ c t u) (K3 i m a b):=by
 intro path H₀ n Hf S σ H X o R A e D h;obtain⟨y,J,e⟩:=oBq.mp e;obtain⟨s,L,e⟩:=oBq.mp e;obtain⟨M,O,e⟩:=oBq.mp e;obtain⟨v,p,_,_,_,_,P,Q,z⟩:=A;refine I R (b:=y.1) (S':=y.2) J _ λT U Fs1 B E=>?_
 have G:Als x i path y.2 σ U:=⟨v,p,s,M,rB L,O,P,Q,z.same B.sh⟩;split at e
 .rename_i l;rw[l];exact VZ (ha E G e D (h.mono B.sf))
 .rename_i l;rw[ee]at l;rw[l];exact Se (hb E G e D (h.mono B.sf))
def T5(i:Nat)(k:MK):Θ->MS:=λpath S=>(k S).bind λy=>(tM y.2 i).bind λl=>(rR (.ow l) path).bind λas=>yH (as.length<tH) (some (.nx (y.2.set i (some (putAt (.ow l) path (as++[y.1]))))))
def aiD(hk:SK K te k):Xn K x i (Dn (W0 K "list" Fl (xq x) (vG te xY))) (T5 i k):=by
 intro path H₀ n Hf S σ H Fs o R A e D h;obtain⟨y,G,e⟩:=oBq.mp e;obtain⟨I,J,e⟩:=oBq.mp e;obtain⟨as,L,e⟩:=oBq.mp e;rcases qL e with⟨hl,e⟩|e
 .cases e;obtain⟨v,p,a0,n0,M,O,P,B,l⟩:=A;obtain⟨p',Q,T,U,h2⟩:=Cm R M B O l;cases T;refine⟨.ref p,P,.inl ⟨rfl,Q,uO.of U⟩,hk R (a:=y.1) (S':=y.2) G _ λX H2 Fs2 u F E R2 Y s=>?_⟩
  obtain⟨t,g1,g2,g3⟩:=R2.grow (rB J) B L (l.same E.sh);obtain⟨Fs',R3⟩:=g3 [y.1] [u] [F] (qC.nil.snoc Y) (by rw[aR];exact s.nd) (λq z=>by rw[aR]at z;exact⟨s.fr q z,s.out q z⟩)
  exact⟨p,t,u,rfl,rfl,g1,by rw[EA,←g2];exact hl,h _ _ _ _ E.sf R3⟩
 .cases e
def UO(i:Nat)(l:ML):Θ->MS:=λpath S=>(l S).bind λy=>(tM y.2 i).bind λn=>(rR (.ow n) path).bind λas=>yH (as.length+y.1.length<=tH) (some (.nx (y.2.set i (some (putAt (.ow n) path (as++y.1.map .sh))))))
def agV(hk:SL K te l):Xn K x i (Dn (W0 K "list" ID (xq x) (vG te xY))) (UO i l):=by
 intro path H₀ s Hf S σ H Fs o R A e D h;obtain⟨y,I,e⟩:=oBq.mp e;obtain⟨J,L,e⟩:=oBq.mp e;obtain⟨as,M,e⟩:=oBq.mp e;rcases qL e with⟨hl,e⟩|e
 .cases e;obtain⟨v,p,a0,n0,O,P,Q,u,n⟩:=A;obtain⟨p',T,U,X,h2⟩:=Cm R O u P n;cases U;refine⟨.ref p,Q,.inl ⟨rfl,T,uO.of X⟩,hk R (ds:=y.1) (S':=y.2) I _ λY H2 Fs2 b z B R2 hb E=>?_⟩
  obtain⟨t,g1,g2,g3⟩:=R2.grow (rB L) u M (n.same B.sh);obtain⟨Fs',R3⟩:=g3 (y.1.map .sh) z (aE y.1.length []) (NY E) (by rw[vv];exact ba) (λq G=>by rw[vv]at G;cases G)
  exact⟨p,b,t,z,rfl,rfl,g1,hb,by rw[EA,←g2,←E.1];exact hl,h _ _ _ _ B.sf R3⟩
 .cases e
def MD(i:Nat)(n:ME):Θ->MS:=λpath S=>(tM S i).bind λl=>(rR (.ow l) path).bind λas=>(n (S.set i none)).bind λy=>yH (y.2[i]?=some none/\as.length<tH) (some (.nx (y.2.set i (some (putAt (.ow l) path (as++[.sh y.1]))))))
def aeT(hk:SM K te J):Xn K x i (Dn (W0 K "list" Fl (xq x) (vG te xY))) (MD i J):=by
 intro path H₀ z Hf S σ H Fs o R A e D h;obtain⟨l,Q,e⟩:=oBq.mp e;obtain⟨as,B,e⟩:=oBq.mp e;obtain⟨y,T,e⟩:=oBq.mp e;rcases qL e with⟨⟨hn,hl⟩,e⟩|e
 .cases e;obtain⟨v,p,a0,n0,_,_,U,t,n⟩:=A;have s:=rB Q;obtain⟨p',X,Y,h1,h2⟩:=Cm R s t B n;cases Y;obtain⟨v',F,L,M,r,nd,oo,_⟩:=R.move s;rw[t]at L;cases L;refine⟨.ref p,U,.inl ⟨rfl,X,uO.of h1⟩,hk (R.frame M) (d:=y.1) (S':=y.2) T _ λHf2 H2 Fs2 u O R2 r2=>?_⟩
  obtain⟨k1,k2,R3⟩:=R.unframe M r nd (λq E=>(oo q E).1) R2 hn t O
  have G:i<y.2.length:=(gSq.mp hn).1;have e5:(y.2.set i (some (.ow l)))[i]?=some (some (.ow l)):=aV G;obtain⟨I,g1,g2,g3⟩:=R3.grow e5 t B (n.kept r B k1);obtain⟨Fs',P⟩:=g3 [.sh y.1] [u] [[]] (qC.nil.snoc (.sh r2)) ⋯ (λq E=>by simp at E)
  rw[jm]at P;exact⟨p,I,u,rfl,rfl,g1,by rw[EA,←g2];exact hl,h _ _ _ _ O P⟩
 .cases e
def SSk(K:Ζ)(J:Θ)(t:TS)(m:MS):Prop:=∀{H₀ l Hf}{S}{σ}{H}{z}{S'},rq K H₀ l Hf S σ H z->m S=some (.nx S')->∀D:yQ,(∀s n x u,qO Hf s->rq K H₀ l s S' n x u->(∀j∈J,n[j]?=σ[j]?)->D.nx n x)->t D σ H
def Z0(h:∀D σ H,D.nx σ H->t D σ H):SSk K J t pX:=by
 intro H₀ l Hf S σ H n s R e D q;cases e;exact h _ _ _ (q _ _ _ _ (.refl _) R λ_ _=>rfl)
def UY(hk:SK K te k)(t:y∉J):SSk K J (Nd te (vo y)) (pR y k):=by
 intro H₀ l Hf S σ H M O R e D q;obtain⟨x,u,e⟩:=oMq.mp e;cases e;refine hk R u _ λB P Fs1 v F E G I n=>?_
 exact q _ _ _ _ E.sf (G.set y I n.nd λq s=>⟨n.fr q s,n.out q s⟩) λj L=>aA (λz=>t (by rw[z];exact L))
def ah3(M:MB K c m)(ha:SSk K J t a)(hb:SSk K J u b):SSk K J (YJ c t u) (wZ m a b):=by
 intro H₀ n Hf S σ H T U R e D q;obtain⟨x,O,e⟩:=oBq.mp e;refine M R O _ λP X Fs1 I L=>?_
 split at e
 .rename_i l;rw[l];exact VZ (ha L e D λz B Q E s G j=>q _ _ _ _ (I.sf.trans s) G j)
 .rename_i l;rw[ee]at l;rw[l];exact Se (hb L e D λz B Q E s G j=>q _ _ _ _ (I.sf.trans s) G j)
def WE(i:Nat)(a:MS)(m:Θ->MS):Θ->MS:=λpath S=>(tM S i).bind λl=>(a (S.set i none)).bind λo=>match o with
 | .nx n=>yH (n[i]?=some none) (m path (n.set i (some (.ow l))))
 |_=>none
def aaF(ha:SSk K [x,i] t a)(hm:Xn K x i u m):Xn K x i (Nu t u) (WE i a m):=by
 intro path H₀ B Hf S σ H Fs o R A e D h;obtain⟨l,U,e⟩:=oBq.mp e;obtain⟨X,Y,e⟩:=oBq.mp e;cases X with
 |nx E=>
  rcases qL (show yH (E[i]?=some none) (m path (E.set i (some (.ow l))))=some o from e)with⟨hn,e⟩|e
  .obtain⟨v,p,a0,n0,n,L,s2,G,I⟩:=A;have M:=rB U;rw[M]at n;cases n;obtain⟨v',F,O,P,r,nd,ow,_⟩:=R.move M;rw[G]at O;cases O;refine ha (R.frame P) Y _ λHf' z H' Fs' s R' Q=>?_
   have j1:z[x]?=σ[x]?:=Q x ⋯
   have T:z[i]?=σ[i]?:=Q i ⋯
   obtain⟨k1,k2,R3⟩:=R.unframe P r nd (λq hq=>(ow q hq).1) R' hn (T.trans G) s
   have J:i<E.length:=(gSq.mp hn).1;exact hm R3 ⟨v,p,l,n0,aV J,L,j1.trans s2,T.trans G,I.kept r L k1⟩ e D (h.mono s)
  .cases e
 |_=>cases e
def akH(S)i:RU i S=(tM S i).map λ_=>([],S):=rfl
def amb(S)i s b:pIx i s b S=(s S).bind λx=>(b x.2).bind λy=>(intOf y.1).bind λj=>(tM y.2 i).bind λl=>(rR (.ow l) x.1).bind λas=>(ON as.length j).map λn=>(x.1++[n],y.2):=rfl
def ahu(S)i n k:Ua i n k S=(n S).bind λx=>(tM x.2 i).bind λs=>(rR (.ow s) x.1).bind λ_=>(k x.2).bind λy=>(tM y.2 i).bind λl=>(rR (.ow l) x.1).bind λas=>yH (as.length<tH) (some (.nx (y.2.set i (some (putAt (.ow l) x.1 (as++[y.1])))))):=rfl
def agd(S)i s l:Y5 i s l S=(s S).bind λx=>(tM x.2 i).bind λt=>(rR (.ow t) x.1).bind λ_=>(l x.2).bind λy=>(tM y.2 i).bind λn=>(rR (.ow n) x.1).bind λas=>yH (as.length+y.1.length<=tH) (some (.nx (y.2.set i (some (putAt (.ow n) x.1 (as++y.1.map .sh)))))):=rfl
def ajK(S)x i n m:ac9 x i n m S=(n S).bind λy=>(tM y.2 i).bind λl=>(rR (.ow l) y.1).bind λ_=>yH (x≠i/\x<y.2.length) (m y.1 (y.2.set x none)):=rfl
def akd(S)i c a b path:K3 i c a b path S=(c S).bind λy=>(tM y.2 i).bind λl=>(rR (.ow l) path).bind λ_=>if y.1=true then a path y.2 else b path y.2:=rfl
def ah1(S)i k path:T5 i k path S=(k S).bind λy=>(tM y.2 i).bind λl=>(rR (.ow l) path).bind λas=>yH (as.length<tH) (some (.nx (y.2.set i (some (putAt (.ow l) path (as++[y.1])))))):=rfl
def ahR(S)i l path:UO i l path S=(l S).bind λy=>(tM y.2 i).bind λn=>(rR (.ow n) path).bind λas=>yH (as.length+y.1.length<=tH) (some (.nx (y.2.set i (some (putAt (.ow n) path (as++y.1.map .sh)))))):=rfl
def adu(S)i n path:MD i n path S=(tM S i).bind λl=>(rR (.ow l) path).bind λas=>(n (S.set i none)).bind λy=>yH (y.2[i]?=some none/\as.length<tH) (some (.nx (y.2.set i (some (putAt (.ow l) path (as++[.sh y.1])))))):=rfl
def ai9(i:Nat)(l:List AV)(m:Θ->MS)(path:Θ):Lm->Option Lm
 | .nx n=>yH (n[i]?=some none) (m path (n.set i (some (.ow l))))
 |_=>none
def aj2(S)i a m path:WE i a m path S=(tM S i).bind λl=>(a (S.set i none)).bind (ai9 i l m path):=by
 congr 1
def adq(i)l m path n:ai9 i l m path (.nx n)=yH (n[i]?=some none) (m path (n.set i (some (.ow l)))):=rfl
def RO l:rR (.ow l) []=some l:=rfl
def De(l)j(n:Θ):rR (.ow l) (j::n)=(l[j]?).bind λa=>rR a n:=rfl
def EM{n:Θ}(h:l[j]?=some a):putAt (.ow l) (j::n) as = .ow (l.set j (putAt a n as)):=by
 show(match l[j]? with|some a=>_|none=>_)=_
 rw[h]
noncomputable def NQ(m:ME):MS:=λS=>(m S).map λx=>.nx x.2
def YA(h:SM K te m):SS K (Dn te) (NQ m):=by
 intro H₀ l Hf S σ H z o R e D hd;obtain⟨x,n,e⟩:=oMq.mp e;cases e;exact h R (d:=x.1) (S':=x.2) n _ λs B Fs1 v t u E=>hd _ _ _ _ t u
def anu(i:Nat):MS:=λS=>(tM S i).map λl=>.nx (S.set i (some (.ow l.reverse)))
def adA(S)m:NQ m S=(m S).map λx=>.nx x.2:=rfl
def ug.fd_inv(h:ug K H (.fd ds) v):∃p o n,v = .ref p/\H p=some (.frz o (.dK n))/\xD K H ds n:=by
 cases h with
 |fd h l e=>exact⟨_,_,_,rfl,h,l,e⟩
noncomputable def acj:D->Option (List (qM×D))
 | .fd l=>some l
 |_=>none
def acK(h:acj d=some l):d = .fd l:=by
 cases d <;> first|(cases h;rfl)|cases h
def NC(a b:ME):ME:=λS=>(a S).bind λx=>(b x.2).bind λy=>(acj x.1).bind λl=>(yY y.1).bind λkey=>(getD l key).map λd=>(d,y.2)
def XF(ha:SR K n a)(hb:SR K s b):SR K (Zm n s) (NC a b):=by
 intro H₀ l Hf S σ H Fs d S' R e Q q;obtain⟨x,z,e⟩:=oBq.mp e;obtain⟨y,B,e⟩:=oBq.mp e;obtain⟨oX,E,e⟩:=oBq.mp e;obtain⟨key,G,e⟩:=oBq.mp e;obtain⟨d',I,e⟩:=oMq.mp e;cases e;refine ha R z _ λJ H1 Fs1 v1 L M t=>hb M B _ λO H2 Fs2 v2 u R2 P=>?_
 rw[acK E]at t;obtain⟨p,o,T,rfl,U,X⟩:=(t.mono u.sh).fd_inv;have g:=FV (key:=key) X;rw[I]at g;obtain⟨v,Y,g2⟩:=g;exact⟨p,v,rfl,by rw[A4 G P,←Y];exact .inl ⟨T,key,.inr ⟨o,U⟩,rfl,rfl⟩,q _ _ _ _ (L.trans u) R2 g2⟩
def Yx{E:TS}{D:yQ}(n:Nat->St->Hp->Prop)(I:n 0 σ H)(hl:∀i σ H,n i σ H->H d=some (.frz z (.dK l)))
  (J:∀i p σ H,l[i]?=some p->n i σ H->E { D with nx:=n (i+1),ct:=n (i+1),bk:=D.nx } (σ.set i1 (some (kV p.1))) H) (hd:∀σ H,n l.length σ H->D.nx σ H) :
  ∃W:Nat->Nat->St->Hp->Prop,(∃m,W 0 m σ H)/\∀i m σ H,W i m σ H ->
   ((Itk z d l).stop i H/\D.nx σ H)∨((Itk z d l).go i H/\∃N:St->Hp->Prop,(∀t s,N t s->∃G,G<m/\W (i+1) G t s)/\∀x s,(Itk z d l).yld i H x s->vo i1 x σ s λB L=>E { D with nx:=N,ct:=N,bk:=D.nx } B L):=by
 refine⟨λi m σ H=>m=l.length-i/\i<=l.length/\n i σ H,⟨l.length,by simp,bb _,I⟩,?_⟩
 rintro i m σ H ⟨rfl,hi,p⟩;have q:=hl i σ H p
 by_cases u:i<l.length
 .refine .inr ⟨⟨q,l[i],by simp[u]⟩,n (i+1),λt s M=>⟨l.length-(i+1),by lia,rfl,u,M⟩,λv s y=>?_⟩
  obtain⟨rfl,x,O,rfl⟩:=y;exact J i x σ s O p
 .have e:i=l.length:=by lia
  subst e;exact .inl ⟨⟨q,ae _⟩,hd σ H p⟩
def U4(x i:Nat)(body:MS):MS:=λS=>(yZ S i).bind λl=>yH (x≠i) (uY x body (l.map λp=>kD p.1) (S.set i (some (.sh (.fd l)))))
def aeE(hb:SS K tb body):SS K (VX (ae6 (xq i)) (vo x) tb) (U4 x i body):=by
 intro H₀ s Hf S σ H Fs o R e D h;obtain⟨u,e1,e⟩:=oBq.mp e;rcases qL e with⟨hne,e⟩|e
 .have M:=zJ e1;obtain⟨p,z,s1,s2,h1,h2,h3,h4,h5⟩:=R.owd M;refine⟨_,s1,p,z,rfl,h1,λL=>?_⟩
  obtain⟨v,F,t1,t2,r,nd,oo,R1⟩:=R.move M;rw[s2]at t2;cases t2;have R2:=rq.fix R1 (p:=p) (o:=.frz L (.dK z)) h5 h2 h4;have s3:qO Hf (ri Hf p (.frz L (.dK z))):=tO h2;have O:xD K (ri Hf p (.frz L (.dK z))) u z:=⟨h3.1,λi d v a b=>(h3.2 i d v a b).mono s3⟩
  have R3:rq K H₀ s (ri Hf p (.frz L (.dK z))) (S.set i (some (.sh (.fd u)))) σ (ri H p (.frz L (.dK z))) (Fs.set i []):=
   R2.again (F:=[]) s1 (.sh (.fd pE O.1 O.2)) ba λq hq=>by cases hq
  have I:u.length=z.length:=by have:=congrArg bU h3.1;simpa using this
  refine Yx (λn B H'=>∃t P E,rq K H₀ s t P B H' E/\qO (ri Hf p (.frz L (.dK z))) t/\uY x body ((u.map λp=>kD p.1).drop n) P=some o) ⟨_,_,_,R3,.refl _,e⟩
   (λn B H' ⟨t,P,E,Q,J,_⟩=>Q.sub _ _ (J _ _ pE)) ?_ ?_
  .rintro n w B H' hw ⟨t,P,E,Q,J,T⟩;have hn:n<u.length:=by rw[I];exact(gSq.mp hw).1
   have hk:(u.map λp=>kD p.1)[n]?=some (kD w.1):=by
    have:=congrArg (λl=>l[n]?) h3.1
    simp only[gMq,hw,cw]at this;rw[gMq];cases hd:u[n]? with
    |none=>rw[hd]at this;cases this
    |some dd=>
     rw[hd]at this;rw[cw,show dd.1=w.1 from aY.inj this]
   have hlt:n<(u.map λp=>kD p.1).length:=by rw[lMq];exact hn
   rw[aQ hlt,(gSq.mp hk).2]at T;obtain⟨o2,e3,e4⟩:=oBq.mp T;refine hb (Q.setD x (TZ w.1)) e3 _ ?_;cases o2 with
   |nx S2=>exact λG U H2 Fs2 X Y=>⟨G,S2,Fs2,Y,J.trans X,e4⟩
   |ct S2=>exact λG U H2 Fs2 X Y=>⟨G,S2,Fs2,Y,J.trans X,e4⟩
   |bk S2=>cases e4;exact λG U H2 Fs2 X Y=>h _ _ _ _ ((s3.trans J).trans X) Y
   |rt a=>cases e4;exact h
  .rintro B H' ⟨t,P,E,Q,J,T⟩;rw[←I,show u.length=(u.map λp=>kD p.1).length from (lMq _).symm,de]at T
   cases T;exact h _ _ _ _ (s3.trans J) Q
 .cases e
def aes l:acj (.fd l)=some l:=rfl
def adJ(S)a b:NC a b S=(a S).bind λx=>(b x.2).bind λy=>(acj x.1).bind λl=>(yY y.1).bind λkey=>(getD l key).map λd=>(d,y.2):=rfl
def agY(S)x i body:U4 x i body S=(yZ S i).bind λl=>yH (x≠i) (uY x body (l.map λp=>kD p.1) (S.set i (some (.sh (.fd l))))):=rfl
end Z
namespace Xe
open PySem PySem.Spec PySem.W PyProof.Rows L2 Mr
def PTb(X:Cx)(B:List Stmt)(h₀:ExceptHandler)(hs:List ExceptHandler)(t:TS):Prop:=
 ∀E s (σ:St) H D,qb X E σ H s->t D σ H->ki (kf X.prog X.w) X.A (execs B X.env) (SP X E D)
  (λe l=>ki (kf X.prog X.w) X.A (oq e X.env) (λ_ n=>ki (kf X.prog X.w) X.A (mK e none) (λ_ z=>ki (kf X.prog X.w) X.A (nh e X.env (h₀::hs)) (SP X E D) X.xe z) X.xe n) X.xe l) s
def TJ{t}(h:PTb X l h₀ hs t):PS X (.Try l (h₀::hs) [] [] pos3) t:=by
 intro n s σ H D I q;refine wpAny_Try_except (uN (h n s σ H D I q) λf B z=>?_)
 cases f with
 |next=>exact lD z
 |brk=>exact z
 |cont=>exact z
 |ret u=>exact z
end Xe
namespace L2
open PySem PySem.Spec PyProof.Rows
structure xv (k:Nat)(A:Around):Prop where
 dp:A.depth+3*k+5<mE
 un:A.units+16*k+200<kN
def tY.h(r:tY k A)(v:Υ):xv k (A.mark v):=⟨r.dp,r.un⟩
def xv.mono(r:xv k A)(h:j<=k):xv j A:=⟨by have:=r.dp;lia,by have:=r.un;lia⟩
theorem xv.deeper(r:xv (k+1) A)env:xv k (A.deeper env):=
 ⟨by have:=r.dp;show A.depth+1+3*k+5<_;lia,by have:=r.un;show A.units+3+16*k+200<_;lia⟩
theorem xv.depth(r:xv k A):A.depth<mE:=by have:=r.dp;lia
theorem xv.units(r:xv k A):A.units+64<kN:=by have:=r.un;lia
def xv.units65(r:xv k A):A.units+65<kN:=by have:=r.un;lia
structure O7 (P:kr)(w:kz)(K:Ζ)(mg:Str->Υ)(base:Heap)(CX:PQ)(k:Nat)(f:Addr)(fd:ky)(ps:List Str)(sp:Sp):Prop where
 len:∀vs H Q E,sp vs H Q E->vs.length=ps.length
 run:∀(A:Around) (outer:List Env) (s:kc) (H:Hp) (args:Args) (us:Ξ) (vs:List V) (Q:VK) (E:XK),xv k A->Nw P w K mg base A outer s H->mY s fd args (ps.zip us)->qI vs us->sp vs H Q E ->
  lK (kf P w) A (.call (.ref f) args) (CR CX outer P w H s Q E) s
def Mz(CX:PQ)(P:kr)(w:kz)(K:Ζ)(mg:Str->Υ)(base:Heap)(N:List Str)(l:Str)(scope:lu)(f:Addr)(t:Value)(A:Around)(outer:List Env)(s:kc)(H:Hp)(E:XK):Cx where
 prog:=P
 w:=w
 K:=K
 mg:=mg
 base:=base
 A:=A.deeper (kH l scope s.heap.objs.size f t)
 N:=N
 s₀:=s
 H₀:=H
 env:=kH l scope s.heap.objs.size f t
 outer:=outer
 stack:=kH l scope s.heap.objs.size f t::outer
 ex:=[]
 calm:=false
 fn:=λ_=>true
 pn:=[]
 xe:=λe s'=>ki (kf P w) (A.deeper (kH l scope s.heap.objs.size f t)) (ot (kH l scope s.heap.objs.size f t) e) (λ_ n=>CX outer H s E e n) (λu n=>CX outer H s E u n) s'
def RH{K}
  (S:oU N ps scope) (B:Nw P w K mg base A outer s H) (hl:vs.length=ps.length) (r:qI vs us)
  (x:InCallC s s.heap.objs.size (nD (kH l scope s.heap.objs.size f M).kindOf (ps.zip us) λ_=>none) (nC (s.heap.objs.size+1) scope.names []) (nF (kH l scope s.heap.objs.size f M).kindOf (ps.zip us) λ_=>none) s1) :
  qb (Mz CX P w K mg base N l scope f M A outer s H E) [] (vm N vs) H s1:=by
 have R:ps.length<=N.length:=by have:=congrArg bU S.pre;rw[lTq]at this;lia
 obtain⟨O,U,rfl,hk⟩:=x.done;have G:∀b:Addr,b∉(Mz CX P w K mg base N l scope f M A outer s H E).ex:=λb z=>absurd (show b∈([]:Δ)from z) ⋯
 refine⟨⟨B.mod,S.kind,rfl,rfl,ae _,λy z c O t=>?_,λy I=>?_,λy c _ h=>?_,λz=>jx z,Around.frames_deeper B.frames,.inr ⟨rfl,rfl⟩,λb z=>absurd z (G b),B.bs,B.bsz,λb _ _=>G b,λb z=>absurd z (G b),B.funs,B.frf⟩,
  rfl,B.bare,Un.kept hk,⟨_,x.toInCall.ns,λi y v O t X=>?_⟩,λy c h=>⟨_,x.cell y c h⟩,B.hok.fresh (ae _),λy c h=>?_,λp J=>absurd (show p∈([]:Φ)from J) ⋯,B.hok.kept hk,?_⟩
 .exact name_of_addr x.apart (PySem.mem_of_lookup O) (PySem.mem_of_lookup t)
 .have I:scope.names.lookup y=some .cell∨scope.names.lookup y=some .free:=I;rcases I with I|I
  .exact Gc I
  .exact absurd rfl (S.nofree _ (PySem.mem_of_lookup I))
 .exact bZ (x.above y c (PySem.mem_of_lookup h))
 .have hi:i<vs.length:=by
   unfold vm at t
   by_cases hi:i<vs.length
   .exact hi
   .rw[gYq (by simpa using hi)]at t
    rw[bR]at t;split at t <;> cases t
  have ha:vs[i]?=some v:=by
   unfold vm at t;rw[gZq (by simpa using hi),gMq]at t
   cases e:vs[i]? with
   |none=>rw[e]at t;cases t
   |some a=>rw[e]at t;cases t;rfl
  obtain⟨u,Q,T⟩:=r.get ha;have J:ps[i]?=some y:=by
   rw[←S.pre,cG ∅];exact O
  have L:ps.Nodup:=by rw[←S.pre];exact S.nd.sublist (bj _ _)
  refine⟨u,T,?_⟩;rcases S.par y (mGq J)with k|k
  .exact .inl ⟨k,Ho L J Q k⟩
  .obtain⟨c,e⟩:=Gc (n:=s.heap.objs.size+1) k;refine .inr ⟨.inl k,c,e,?_⟩;have q:=x.cell y c e;rw[GY L J Q (by show scope.names.lookup y≠_;rw[k];decide)]at q
   exact q
 .exact B.hok.fresh (bZ (x.above y c (PySem.mem_of_lookup h)))
 .unfold vm;show _=N.length;rw[lAq,lMq,bG];lia
def aif{K:Ζ}{kV}
  {osl:Array Υ}(lk:K.lookup f=some ⟨oc,od,.func (W.fnOf G l z body scope dV kV U pm an M ct),osl⟩) (hcd:W.codeIn K M l=true) (S:oU N ps scope)
  (len:∀vs H Q E,sp vs H Q E->vs.length=ps.length)
  (O:∀A outer s H vs Q E,xv k (A.deeper (kH l scope s.heap.objs.size f M))->sp vs H Q E ->
   ∃t,KJ (Mz CX P w K mg base N l scope f M A outer s H E) body t/\t { nx:=λ_ L=>Q .non L,rt:=Q } (vm N vs) H) :
  O7 P w K mg base CX (k+1) f (W.fnOf G l z body scope dV kV U pm an M ct) ps sp:=by
 refine⟨len,λA outer s H args us vs Q E hr X hb r Y=>?_⟩
 have hl:=len _ _ _ _ Y;have KX:K.In s.heap:=X.mod.kin.keeps λb o e=>(X.bs b o e).1
 have lim:s.heap.NoLimit:=X.mod.nolimit.keeps λb o e=>(X.bs b o e).1
 have R:∀y∈ps.zip us,scope.names.lookup y.1=some .local∨(scope.names.lookup y.1=some .cell/\((nC (s.heap.objs.size+1) scope.names []).lookup y.1).isSome=true):=λ⟨n,v⟩ hy=>by
  rcases S.par n (gc hy).1 with q|q
  .exact .inl q
  .exact .inr ⟨q,W.cellsFrom_some _ _ _ (.inl q)⟩
 refine nT hr.depth (KX _ _ lk) rfl S.co S.gen rfl (W.codeRec_of KX hcd) (hb _ _ _ _ ?_);refine mL S.kind R λenv he s1 x=>?_
 subst he;refine⟨lim.keeps x.toInCall.keep,codeAny_func ?_⟩;obtain⟨t,ht,hq⟩:=O A outer s H vs Q E (hr.deeper _) Y;have I:qb (Mz CX P w K mg base N l scope f M A outer s H E) [] (vm N vs) H s1:=RH S X hl r x;refine kG (ht [] s1 (vm N vs) H _ I hq) (λfl s' T=>?_) λe s' T=>T
 have fin:∀{B:St}{L:Hp}{v:V}{u:Value},qb (Mz CX P w K mg base N l scope f M A outer s H E) [] B L s'->rK v u->Q v L->CE outer P w H s Q u s':=
  λ{B L v u} J rv q=>⟨v,L,J.os,J.bare,J.base,J.hok,rv,q⟩
 cases fl with
 |ret u=>
  obtain⟨v,B,L,J,rv,q⟩:=T;exact fin J rv q
 |next=>
  obtain⟨B,L,J,q⟩:=T;exact fin (v:=V.non) (u:=cU) J rfl q
 |brk=>
  obtain⟨_,_,_,q⟩:=T;exact False.elim q
 |cont=>
  obtain⟨_,_,_,q⟩:=T;exact False.elim q
def aeu{σ:St}(F:O7 X.prog X.w X.K X.mg X.base CX k f fd ps sp)(hr:xv k X.A)(hb:qY X.K fd ps ds)(hd:qI dvs ds)(B:yR CX X E)
  (I:qb X n σ H s) (r:qI vs us) (h:sp (vs++dvs) H Q E):ki (kf X.prog X.w) X.A (call (.ref f) us) (EP X n σ Q) X.xe s:=by
 have z:qI (vs++dvs) (us++ds):=r.append hd;have hl:(us++ds).length=ps.length:=by rw[←z.length];exact F.len _ _ _ _ h
 refine lB (lH (F.run X.A X.stack s H ⟨us,[]⟩ (us++ds) (vs++dvs) Q E hr I.env0 (hb s us I.kIn hl) z h) λr G l=>?_)
 cases r with
 |error e=>exact B n σ H s e G I l
 |ok fl=>
  cases fl with
  |ret u=>exact I.after l
  |next=>exact False.elim l
  |brk=>exact False.elim l
  |cont=>exact False.elim l
def abz(F:O7 X.prog X.w X.K X.mg X.base CX k f fd ps sp)(hr:xv k X.A)(B:Gl X x)(hm:X.mg x=some (.ref f))(hk:W.keepIn X.K (.ref f)=true)(hb:qY X.K fd ps ds)(hd:qI dvs ds)(G:yR CX X E)
  (ha:PA X (e::es) t) (l:(x == ("__debug__" : Str))=false:=by decide) (J:kx (e::es) X.env=(false,eval e X.env)::kx es X.env:=by rfl) (n:(kM pos (kx es X.env)).any (·.1)=false:=by rfl) :
  PE X (.Call (.Name x p) (e::es) [] pos) (xX sp dvs E t):=by
 intro L s σ H Q I h;refine kO (zg I B hm ?_ l);refine W.callWith_K (h₀:=X.base) I.ok.mod.kin hk (uN (ha pos L s σ H _ I h) λus M u=>?_) J n
 obtain⟨O,P,z,r,q⟩:=u;refine⟨z.kIn,?_⟩;exact aeu F hr hb hd G z r q
section
variable {K:Ζ}
def AN.okH{st}(F:AN K x l st f fd)(S:oU N ps (oI st))(len:∀vs H Q E,sp vs H Q E->vs.length=ps.length)
  (n:∀u A outer s H vs Q E,xv k (A.deeper (kH l (oI st) s.heap.objs.size f u))->sp vs H Q E ->
   ∃t,KJ (Mz QC P w K mg base N l (oI st) f u A outer s H E).nox (sS st) t/\t { nx:=λ_ G=>Q .non G,rt:=Q } (vm N vs) H):O7 P w K mg base QC (k+1) f fd ps sp:=by
 obtain⟨L,M,kV,I,pm,O,u,ct,J,rfl,lk,z⟩:=F.ex;refine aif lk z S len λA outer s H vs Q E hr B=>?_
 obtain⟨t,h,q⟩:=n u A outer s H vs Q E hr B;exact⟨t,h.nox,q⟩
end
end L2
namespace Mr
open PySem PySem.Spec PyProof.Rows L2
structure FnH (P:kr)(w:kz)(K:Ζ)(mg:Str->Υ)(base:Heap)(k:Nat)(x:Str)(st:Stmt)(ps:List Str)(sp:Sp)(f:Addr)(fd:ky):Prop where
 D:xN K mg x st ps f fd
 ok:O7 P w K mg base QC k f fd ps sp
section
variable {st:Stmt}
def YW(G:FnH X.prog X.w X.K X.mg X.base k x st ps sp f fd)(hr:xv k X.A)(ha:PA X (e::es) t)(s:Gl X x:=by rfl)(l:(x == ("__debug__" : Str))=false:=by decide)
  (u:kx (e::es) X.env=(false,eval e X.env)::kx es X.env:=by rfl) (n:(kM pos (kx es X.env)).any (·.1)=false:=by rfl) :
  PE X (.Call (.Name x p) (e::es) [] pos) (xX sp [] E0 t):=abz G.ok hr s G.D.m G.D.F.kp G.D.b .nil Uq ha l u n
end
end Mr
namespace Z
open PySem L2 Mr Xe
structure qF (K:Ζ)(c:Str)(C:Addr):Prop where
 ns:W.nsIn K ko c=some (some (.ref C))
 cl:Lq K C
noncomputable def uC(c f:Str):D->Option D
 | .ins l fs=>if l=c then fs.lookup f else none
 |_=>none
noncomputable def Ae(c m:Str):AV->Option D
 | .sh (.ins l fs)=>if l=c/\fs.lookup m=none then some (.ins l fs)else none
 |_=>none
def abl(ds:List D):Bool:=ds.all D.scal
def zP(c:Str)(fl:List Str)(a:ML):MK:=λS=>(a S).bind λx=>if x.1.length=fl.length/\abl x.1=true then some (.sh (.ins c (fl.zip x.1)),x.2)else none
noncomputable def Kf(c:Str)(b:Bool)(a:ME):ME:=λS=>(a S).bind λx=>match x.1 with
 | .ins l _=>if l=c then some (.bl b,x.2)else none
 |_=>none
def ug.ins_inv(h:ug K H (.ins c fs) v):∃a C s n,v = .ref a/\W.nsIn K ko c=some (some (.ref C))/\H a=some (.ins C s n)/\fs.map (·.1)=n.map (·.1)/\∀(i:Nat) d v,fs[i]?=some d->n[i]?=some v->ug K H d.2 v.2:=by
 cases h with
 |ins rf h l e=>exact⟨_,_,_,_,rfl,rf,h,l,e⟩
theorem B5:∀{fs:List (Str×D)}{l:List (Str×V)},fs.map (·.1)=l.map (·.1)->(∀(i:Nat) d v,fs[i]?=some d->l[i]?=some v->ug K H d.2 v.2)->(fs.lookup f=none->l.lookup f=none)/\∀d,fs.lookup f=some d->∃v,l.lookup f=some v/\ug K H d v
 | [],[],_,_=>⟨λ_=>rfl,λd h=>by cases h⟩
 | [],_::_,h,_=>by cases h
 |_::_,[],h,_=>by cases h
 | (k,d)::fs,(k',v)::l,h,e=>by
  rw[aw,aw]at h;injection h with n s
  have n:k=k':=n;subst n;obtain⟨i1,t⟩:=B5 (f:=f) s λi d v a b=>e (i+1) d v (by simpa using a) (by simpa using b)
  rw[jy,jy];cases hk:(f == k)with
  |true=>
   refine⟨λq=>?_,λu q=>?_⟩
   .cases q
   .cases q;exact⟨v,rfl,e 0 _ _ rfl rfl⟩
  |false=>exact⟨i1,t⟩
def sO(I:qF K c C)(L:oS K C f)(ha:SR K ta a):SR K (aj6 K ta f) (vJ (uC c f) a):=by
 intro H₀ s Hf S σ H Fs d S' R e Q q;obtain⟨x,M,e⟩:=oBq.mp e;obtain⟨z,l,e⟩:=oMq.mp e;cases e;refine ha R (d:=x.1) (S':=x.2) M _ λO H1 Fs1 v P T G=>?_
 cases J:x.1 with
 |ins U fs=>
  rw[J]at G l;have u:(if U=c then fs.lookup f else none)=some d:=l
  clear l
  split at u
  .rename_i X;subst X;obtain⟨Y,C',dx,gs,rfl,n,B,hk,he⟩:=G.ins_inv;rw[I.ns]at n;cases n;obtain⟨w,hw,E⟩:=(B5 (f:=f) hk he).2 d u;exact⟨Y,C,dx,gs,w,rfl,B,I.cl,L,hw,q _ _ _ w P T E⟩
  .cases u
 |_=>rw[J]at l;cases l
def GS(C:Addr)(fl:List Str):Sp:=λvs H Q _=>∃x n l,vs = .ref x::l/\l.length=fl.length/\H x=some (.ins C n [])/\Q .non (ri H x (.ins C n (fl.zip l)))
def ZC:∀{fl:List Str}{ds}{vs},ds.length=fl.length->sq K H ds vs->(fl.zip ds).map (·.1)=(fl.zip vs).map (·.1)/\∀(i:Nat) d v,(fl.zip ds)[i]?=some d->(fl.zip vs)[i]?=some v->ug K H d.2 v.2:=by
 intro fl ds vs hl hr;refine⟨?_,λi d v l n=>?_⟩
 .rw[hZ ∅,hZ (by rw[←hr.1];lia)]
 .obtain⟨_,s⟩:=dJ.mp l;obtain⟨_,g2⟩:=dJ.mp n;exact hr.2 i _ _ s g2
def AH(I:qF K c C)(ha:Yu K t a):SK K (Yr C (GS C fl) [] E t) (zP c fl a):=by
 intro H₀ s Hf S σ H Fs av S' R e Q q;obtain⟨x,O,e⟩:=oBq.mp e;split at e
 .rename_i u;cases e;refine ha R (ds:=x.1) (S':=x.2) O _ λz P Fs1 n T U B p l X G J=>?_
  rw[aNq];have L:ri P l (.own p) p=none:=by rw[pe (Ne.symm J)];exact X
  refine⟨p,l,n,rfl,by rw[←B.1,u.1],pE,rfl,?_⟩
  rw[E8];obtain⟨Y,R2⟩:=U.layF (o:=.own p) G;obtain⟨t3,R3⟩:=R2.layF (o:=.ins C l (fl.zip n)) L;have sc:∀(i:Nat) (d:D) (v:V),x.1[i]?=some d->n[i]?=some v->ug K (ri (ri z l (.own p)) p (.ins C l (fl.zip n))) d v:=λi d v M h2=>(B.2 i d v M h2).scal (List.all_eq_true.mp u.2 d (mGq M))
  obtain⟨z1,z2⟩:=ZC (K:=K) (fl:=fl) u.1 ⟨B.1,sc⟩;exact q _ _ _ (.ref p) [] ((T.trans Y).trans t3) R3 (.sh (.ins I.ns pE z1 z2)) .nil
 .cases e
structure V7 (K:Ζ)(C:Addr):Prop where
 ha:W.findIn K (.ref C) "__class__" = some (some (.builtin "object.__class__"))
 hn:W.specialIn K (.builtin "object.__class__") "__get__" = some (some (.builtin "getset_descriptor.__get__"))
 htk:W.takesIn K (.builtin "object.__class__")=some true
 hm:W.mroIn K C (.type "object")=some true
def afU(K:Ζ)(C:Addr)(u:Value)(b:Bool):List V->Hp->VK->Prop:=λxs H Q=>∃a l n w,xs=[.ref a,w]/\rK w u/\H a=some (.ins C l n)/\Q (.bl b) H
def Kh(cl:Lq X.K C)(I:V7 X.K C)(hk:W.kitOne X.K (.ref C) u=some b)(one:∀w v,rK w u->rK w v->v=u):uX X (.builtin "isinstance") (afU X.K C u b):=by
 intro J s σ H L us Q n r h;obtain⟨a,M,O,w,rfl,l,x,q⟩:=h;obtain⟨P,z,rfl,B,E⟩:=TB r;cases one w z l E;exact W4 n B (.ins x cl I.ha I.hn I.htk I.hm) hk λG=>⟨.bl b,H,n.kept (h':=s.heap) (t':=G) λ_ _ e=>e,rfl,q⟩
def ZG(S)c fl a:zP c fl a S=(a S).bind λx=>if x.1.length=fl.length/\abl x.1=true then some (.sh (.ins c (fl.zip x.1)),x.2)else none:=rfl
def Pr(c m l)fs:Ae c m (.sh (.ins l fs))=if l=c/\fs.lookup m=none then some (.ins l fs)else none:=rfl
end Z
namespace Xe
open PySem PySem.Spec PySem.W PyProof.Rows L2 Mr
def aa7(C:Addr)(m:Str)(n:TE)(t:TA):TA:=λσ H Q=>n σ H λx l=>∃a s fs,x = .ref a/\l a=some (.ins C s fs)/\fs.lookup m=none/\t σ l λvs u=>Q (x::vs) u
structure DU (P:kr)(w:kz)(K:Frag)(mg:Str->Υ)(base:Heap)(k:Nat)(C:Addr)(m:Str)(ps:List Str)(sp:Sp)(f:Addr)(fd:ky):Prop where
 cl:Lq K C
 mt:yj K C m f
 b:qY K fd ps []
 ok:yT P w K mg base (Xs P w) k f fd ps sp
structure Kx (P:kr)(w:kz)(K:Frag)(mg:Str->Υ)(base:Heap)(k:Nat)(C:Addr)(m:Str)(ps:List Str)(sp:Sp)(f:Addr)(fd:ky):Prop where
 cl:Lq K C
 mt:yj K C m f
 b:qY K fd ps []
 ok:yT P w K mg base QC k f fd ps sp
def B9(G:Kx X.prog X.w X.K X.mg X.base k C m ps sp f fd)(hr:tY k X.A)(n:PE X o ta)
  (ht:eval (.Call (.Attribute o m apos) [] [] pos) X.env=(do
   let l ←eval o X.env
   mH apos.atName
   let (f,first) ←mI [l] (mh l m pl)
   nj pos f first (kM pos (kx [] X.env)) (mF pos (lW [] X.env))):=by rfl):PE X (.Call (.Attribute o m apos) [] [] pos) (xX sp [] E0 (aa7 C m ta xY)):=
 aah n G.cl G.mt G.ok hr G.b .nil Uq ht
def U1(G:DU X.prog X.w X.K X.mg X.base k C m ps sp f fd)(hr:tY k X.A)(U:PE X.nox o ta)(ha:PA X.nox (e::es) t)(hh:PH X (h₀::hs) th)(Y:X.N.Nodup)(hi:X.N[i]?=some y)(hx:Loc X.env.scope y)
  (hf:X.fn y=true∨X.env.scope.names.lookup y=some .local:=by trivial) (n:X.stack=X.env::X.outer:=by rfl) (E:X.env.frame=some X.env.locals:=by rfl)
  (J:kx (e::es) X.env=(false,eval e X.env)::kx es X.env:=by rfl) (L:(kM pos (kx es X.env)).any (·.1)=false:=by rfl)
  (ht:eval (.Call (.Attribute o m apos) (e::es) [] pos) X.env=(do
   let Q ←eval o X.env
   mH apos.atName
   let (f,first) ←mI [Q] (mh Q m pl)
   nj pos f first (kM pos (kx (e::es) X.env)) (mF pos (lW [] X.env))):=by rfl)
  (M:lZ (.Call (.Attribute o m apos) (e::es) [] pos) (some (.Name y py)) pos2.line X.env=pure false:=by rfl) :
  PTb X [.Assign [.Name y py] (.Call (.Attribute o m apos) (e::es) [] pos) pos2] h₀ hs (afc i sp (aa7 C m ta t) th):=by
 intro R s σ H D I h;refine nc (wpAny_Assign_Name (W.methodCall_KW (pl:=pl) (kG (U R s σ H _ (I.wish _) h) (λu s1 z=>?_) λ_ _ z=>z.elim) ht) M)
 obtain⟨x,H1,S,rx,a,dx,fs,ex,ea,l,q⟩:=z;subst ex;obtain rfl:u=ag a:=rx;refine EG (X:=X.nox) S ea G.cl G.mt l ?_;refine W.callWith_K (first:=[.ref a]) (h₀:=X.base) I.ok.mod.kin G.mt.kp (kG (ha pos R s1 σ H1 _ S q) (λus s2 z=>?_) λ_ _ z=>z.elim) J L
 obtain⟨vs,T,B,r,O⟩:=z;refine⟨B.kIn,?_⟩;refine X2 (us:=.ref a::us) (vs:=.ref a::vs) G.ok G.b hr n E hh B.unwish (.cons rfl r) O λu s' P=>?_
 obtain⟨v,T,B,rv,O⟩:=P;exact Gi B Y hi hx rv (λs3 I3=>lD ⟨_,T,I3,O⟩) hf
end Xe
namespace Z
open PySem L2 Mr Xe
def yU(c m:Str)(k:MK)(a:MA):MA:=λS=>(k S).bind λo=>(Ae c m o.1).bind λd=>(a o.2).map λx=>(.sh d::x.1,x.2)
def Uu(h:Ae c m o=some d):∃fs,o = .sh (.ins c fs)/\d = .ins c fs/\fs.lookup m=none:=by
 unfold Ae at h;split at h
 .rename_i n fs;split at h
  .rename_i l;cases h;obtain⟨rfl,l⟩:=l;exact⟨fs,rfl,rfl,l⟩
  .cases h
 .cases h
def qC.cons'(h:rG K Hf H a v F)(r:qC K Hf H as vs l):qC K Hf H (a::as) (v::vs) (F::l):=by
 obtain⟨l1,l2,e⟩:=r;refine⟨by simp[l1],by simp[l2],λi b w G n s u=>?_⟩
 cases i with
 |zero=>cases n;cases s;cases u;exact h
 |succ i=>exact e i b w G (by simpa using n) (by simpa using s) (by simpa using u)
def qH(I:qF K c C)(hk:SK K ta k)(ha:SA K t a):SA K (aa7 C m ta t) (yU c m k a):=by
 intro H₀ n Hf S σ H Fs as S' R e Q q;obtain⟨o,L,e⟩:=oBq.mp e;obtain⟨d,M,e⟩:=oBq.mp e;obtain⟨x,O,e⟩:=oMq.mp e;cases e;refine hk R (a:=o.1) (S':=o.2) L _ λP H0 T v0 F0 t0 z B o0=>?_
 obtain⟨fs,U,hd,hl⟩:=Uu M;rw[U]at B;obtain⟨hF,E⟩:=B.sh_inv;obtain⟨G,C',X,Y,rfl,l,s,u,he⟩:=(E.mono z.sub).ins_inv;rw[I.ns]at l;cases l;refine⟨G,X,Y,rfl,s,(B5 (f:=m) u he).1 hl,ha z (as:=x.1) (S':=x.2) O _ λHf1 H1 Fs1 vs Gs J R1 r1 o1=>?_⟩
 subst hd;refine q _ _ _ (.ref G::vs) ([]::Gs) (t0.trans J) R1 (qC.cons' (.sh (E.mono J.sf)) r1) ?_;rw[fCq,dD];exact o1.back t0
def CZ(G:DU X.prog X.w X.K X.mg X.base k C m ps (wN X.K g) f fd)(hr:tY k X.A)(B:yR (Xs X.prog X.w) X E)(H:PE X o x)(ha:PA X (e::n) t)
  (s:kx (e::n) X.env=(false,eval e X.env)::kx n X.env:=by rfl) (u:(kM pos (kx n X.env)).any (·.1)=false:=by rfl)
  (ht:eval (.Call (.Attribute o m l) (e::n) [] pos) X.env=(do
   let z ←eval o X.env
   mH l.atName
   let (f,first) ←mI [z] (mh z m pl)
   nj pos f first (kM pos (kx (e::n) X.env)) (mF pos (lW [] X.env))):=by rfl):PE X (.Call (.Attribute o m l) (e::n) [] pos) (xX (wN X.K g) [] E (aa7 C m x t)):=
 aee H G.cl G.mt G.ok hr G.b .nil B ha s u ht
def wg(S)c m k a:yU c m k a S=(k S).bind λo=>(Ae c m o.1).bind λd=>(a o.2).map λx=>(.sh d::x.1,x.2):=rfl
structure ES (P:kr)(w:kz)(K:Ζ)(mg:Str->Υ)(base:Heap)(c:Str)(C f:Addr)(fd:ky)(ps fl:List Str):Prop where
 mki:Mk K C f
 ok:yT P w K mg base QC 1 f fd ps (GS C fl)
 b:qY K fd ps []
 m:mg c=some (.ref C)
def AG(G:ES X.prog X.w X.K X.mg X.base c C f fd ps fl)(hr:tY 2 X.A)(ha:PA X (e::l) t)(u:Gl X c:=by rfl)(n:(c == ("__debug__" : Str))=false:=by decide)
  (x:kx (e::l) X.env=(false,eval e X.env)::kx l X.env:=by rfl) (s:(kM pos (kx l X.env)).any (·.1)=false:=by rfl):PE X (.Call (.Name c p) (e::l) [] pos) (Yr C (GS C fl) [] E0 t):=
 aet G.mki G.ok hr u G.m G.b .nil Uq ha n x s
def Bv(h:GS C fl vs H Q E):vs.length=fl.length+1:=by
 obtain⟨x,l,n,rfl,hl,_⟩:=h;rw[lCq,hl]
def afj(cl:Lq K C)(n:oS K C f1)(h:GS C [f1] vs H Q E):Ya K (xq 0) (xq 1) f1 { nx:=λ_ s=>Q .non s,rt:=Q } (vm ["self", p1] vs) H:=by
 obtain⟨x,t,u,rfl,hl,z,q⟩:=h;obtain - | ⟨w, - | ⟨B,l⟩⟩:=u <;> cases hl
 exact⟨w,rfl,.ref x,rfl,x,C,t,[],rfl,z,cl,n,by decide,q⟩
def afR(cl:Lq K C)(J:oS K C f1)(L:oS K C f2)(M:oS K C f3)(z:¬ f1=f2)(B:¬ f1=f3)(G:¬ f2=f3)(h:GS C [f1,f2,f3] vs H Q E) :
  Nu (Ya K (xq 0) (xq 1) f1) (Nu (Ya K (xq 0) (xq 2) f2) (Ya K (xq 0) (xq 3) f3)) { nx:=λ_ O=>Q .non O,rt:=Q } (vm ["self", p1,p2,p3] vs) H:=by
 obtain⟨x,t,P,rfl,hl,R,q⟩:=h;obtain - | ⟨n, - | ⟨s, - | ⟨u, - | ⟨T,l⟩⟩⟩⟩:=P <;> cases hl
 have I:zL f2 s [(f1,n)]=[(f1,n),(f2,s)]:=by simp[zL,z]
 have S:zL f3 u [(f1,n),(f2,s)]=[(f1,n),(f2,s),(f3,u)]:=by simp[zL,B,G]
 refine⟨n,rfl,.ref x,rfl,x,C,t,[],rfl,R,cl,J,by decide,s,rfl,.ref x,rfl,x,C,t,_,rfl,pE,cl,L,iH rfl,u,rfl,.ref x,rfl,x,C,t,_,rfl,pE,cl,M,?_,?_⟩
 .show(zL f2 s [(f1,n)]).length<1000;rw[I];exact iH rfl
 .show Q .non (ri (ri (ri H x _) x _) x (.ins C t (zL f3 u (zL f2 s [(f1,n)]))));rw[E8,E8,I,S];exact q
def vB(I:qF K c C)(n:rK w u)(ha:SR K B a):SR K (tCB (afU K C u b) (vG B (vG (tC w) xY))) (Kf c b a):=by
 intro H₀ s Hf S σ H Fs d L R e Q q;obtain⟨x,M,e⟩:=oBq.mp e;refine ha R (d:=x.1) (S':=x.2) M _ λO H1 Fs1 v P T G=>?_
 cases J:x.1 with
 |ins U fs=>
  rw[J]at G e;have t:(if U=c then some (D.bl b,x.2)else none)=some (d,L):=e
  clear e
  split at t
  .rename_i X;subst X;cases t;obtain⟨Y,C',dx,gs,rfl,l,z,_⟩:=G.ins_inv;rw[I.ns]at l;cases l;exact⟨Y,dx,gs,w,rfl,n,z,q _ _ _ _ P T .bl⟩
  .cases t
 |_=>rw[J]at e;cases e
def On:∀w v,rK w (.ref C)->rK w v->v = .ref C:=by
 intro w v l n;cases w with
 |ref a=>
  have l:ag C=ag a:=l;have n:v=ag a:=n;rw[n,l]
 |_=>first|(cases l;done)|(obtain⟨_,l⟩:=l;cases l)
end Z
namespace Mr
open PySem PySem.Spec PySem.W PyProof.Rows L2 HT
def QR{σ:St}(I:qb X G σ H s)(O:X.A.units+65<kN)(u:tZ H ps rs)(x:p∈ps)(B:H b=some (.lst (r.map V.int))):SeqAt.EqAt X.A.in1 s (.ref p) (.ref b) (decide (we H p=r)):=by
 by_cases e:p=b
 .subst e;have l:=u.fn_row x;rw[B]at l;have J:r.map V.int=(we H p).map V.int:=by injection l with l;injection l
  have L:r=we H p:=(List.map_inj_right (λ_ _ z=>by injection z)).mp J
  rw[d0 L.symm];exact SeqAt.EqAt.same _
 .refine SeqAt.EqAt.of_refs e λprog w E Q M=>?_
  obtain⟨P,hl,hi,_⟩:=zO I (uO.of (u.fn_row x));obtain⟨R,n,t,_⟩:=zO I (uO.of B);exact W.eq_intsK (prog:=prog) (w:=w) (A:=X.A.in1) hl hi n t (by show X.A.units+1+64<kN;lia) M
def aka(neg:Bool):R2:=λx y H Q=>∃(b a:Addr) (ps:Δ) (rs:Λ) (r:Ϝ),x = .ref b/\y = .ref a/\H a=some (.lst (ps.map V.ref))/\tZ H ps rs/\H b=some (.lst (r.map V.int))/\Q (.bl (if neg then !decide (r∈rs)else decide (r∈rs))) H
def aaW(s:tZ H ps rs):(ps.map ag).toArray.any (λy=>decide (we H (zH y)=r))=decide (r∈rs):=by
 rw[List.any_toArray,jn,cL,cE,decide_eq_true_iff,s.fn,mMq];refine⟨λl=>?_,λ⟨p,n,z⟩=>⟨p,n,d0 z⟩⟩
 obtain⟨p,n,z⟩:=l;exact⟨p,n,of_decide_eq_true z⟩
def LD(t:X.A.units+65<kN):Ip X (kU .NotIn) (aka true):=by
 intro R s σ H x y v u Q I z B h;obtain⟨b,a,S,T,r,rfl,rfl,E,l,G,q⟩:=h;cases z;cases B;obtain⟨J,L,M,U⟩:=I.list (uO.of E);have O:=AR L;subst O;refine SeqAt.notIn_listAt (λy=>decide (we H (zH y)=r)) M.isList (λy n=>?_) ?_
 .rw[List.mem_toArray]at n;obtain⟨p,P,rfl⟩:=mMq.mp n;exact QR I t l P G
 .rw[aaW l];exact⟨.bl _,H,I,rfl,q⟩
def Vd:V->List V->Hp->VK->Prop:=λx vs H Q=>∃(a b:Addr) (ps:Δ) (rs:Λ) (r:Ϝ),x = .ref a/\vs=[.ref b]/\H a=some (.lst (ps.map V.ref))/\tZ H ps rs/\H b=some (.lst (r.map V.int))/\r∈rs/\Q (.int (rs.idxOf r:Nat)) H
def LW(Y:X.A.units+65<kN):MtR X "list.index" Vd:=by
 intro oA s σ H x xs v us Q I rx r h;obtain⟨a,b,l,t,row,rfl,rfl,h1,E,h2,hm,q⟩:=h;cases rx;obtain⟨u,rfl,ru⟩:=HA r;cases ru;obtain⟨its,rv,⟨o,n,M,O,B,hd⟩,hz⟩:=I.list (uO.of h1);have ei:=AR rv;subst ei;obtain⟨cls,dd,P,sl⟩:=o;simp only at O B hd;subst O B hd;have R:t.idxOf row<t.length:=cH.mpr hm;have hs:ku=16777216:=kL;have hl:l.length=t.length:=by rw[E.fn,lMq]
 rw[lMq]at hz;have S:∀i (hi:i<l.length),we H l[i]=t[i]'(hl ▸ hi):=λi hi=>by
  have:=E.fn;have T:t[i]?=(l.map (we H))[i]?:=by rw[←this]
  rw[gMq,gEg hi,gEg (hl ▸ hi)]at T;exact(aY.inj T).symm
 refine lO cS ⟨_,M,rfl⟩ hW (gZ _ _)
  (SeqAt.list_indexAt a (l.map ag).toArray n none sl (.ref b) (λy=>decide (we H (zH y)=row)) (t.idxOf row) (by simp[hl];exact R) ∅ ?_ ?_) ⟨M,λy hy=>?_,?_⟩
 .rw[iT,jz];refine d0 ?_;show we H l[t.idxOf row]=row;rw[S _ (hl ▸ R),eY]
 .intro j G J;rw[iT,jz];refine d4 ?_;have L:j<l.length:=by simpa using G
  show ¬ we H l[j]=row;rw[S j L];intro z;have U:=iz (p:=(· == row)) J;rw[beq_eq_false_iff_ne]at U;exact U z
 .obtain⟨p,hp,rfl⟩:=mMq.mp (show y∈l.map ag by simpa using hy)
  exact QR I Y E hp h2
 .exact⟨.int _,H,I.tok _,⟨_,rfl⟩,q⟩
end Mr
namespace Z
open PySem L2 Mr Xe
def aaq(neg:Bool)(a:ME):ME:=λS=>(a S).bind λx=>match x.1 with
 | .list ds=>(zW ds).map λrs=>(.bl (if neg then !decide (([]:Ϝ)∈rs)else decide (([]:Ϝ)∈rs)),x.2)
 |_=>none
def Pw(a:ME):ME:=λS=>(a S).bind λx=>match x.1 with
 | .list ds=>(zW ds).bind λrs=>if ([]:Ϝ)∈rs then some (.int (rs.idxOf []:Nat),x.2)else none
 |_=>none
def aa2 neg(ha:SR K te a):SR K (tOp (aka neg) (Zy xY) te) (aaq neg a):=by
 intro H₀ l Hf S σ H T d U R e Q q;obtain⟨x,t,e⟩:=oBq.mp e;refine⟨bb _,λb hb=>?_⟩
 obtain⟨u,z,X,Y,n3⟩:=R.new (o:=.lst []) hb;refine ha z (d:=x.1) (S':=x.2) t _ λB H1 Fs1 v n E s=>?_
 split at e
 .rename_i ds G;obtain⟨I,J,e⟩:=oMq.mp e;cases e;rw[G,D1 J]at s;obtain⟨p,us,rfl,L,M⟩:=s.list_inv;obtain⟨O,rfl,P⟩:=yu M;exact⟨b,p,O,I,[],rfl,rfl,L,P,n.sh _ _ pE,q _ _ _ _ (u.trans n) E .bl⟩
 .cases e
def TR(ha:SR K te a):SR K (W0 K "list" Vd te (vG (Zy xY) xY)) (Pw a):=by
 intro H₀ l Hf S σ H T d U R e Q q;obtain⟨x,u,e⟩:=oBq.mp e;refine ha R (d:=x.1) (S':=x.2) u _ λz X Fs1 v B E s=>?_
 split at e
 .rename_i Y G;obtain⟨I,J,e⟩:=oBq.mp e;split at e
  .rename_i hm;cases e;rw[G,D1 J]at s;obtain⟨p,us,rfl,n,L⟩:=s.list_inv;obtain⟨M,rfl,O⟩:=yu L;refine⟨.inl ⟨rfl,_,uO.of n⟩,bb _,λb hb=>?_⟩
   obtain⟨t,P,n1,n2,n3⟩:=E.new (o:=.lst []) hb;exact⟨p,b,M,I,[],rfl,rfl,(by rw[pe (tE n hb)];exact n),O.same t.sh,pE,hm,q _ _ _ _ (B.trans t) P .int⟩
  .cases e
 .cases e
def TQ(S)neg a:aaq neg a S=(a S).bind λx=>match x.1 with
 | .list n=>(zW n).map λl=>(.bl (if neg then !decide (([]:Ϝ)∈l)else decide (([]:Ϝ)∈l)),x.2)
 |_=>none:=rfl
def aae(S)a:Pw a S=(a S).bind λx=>match x.1 with
 | .list n=>(zW n).bind λl=>if ([]:Ϝ)∈l then some (.int (l.idxOf []:Nat),x.2)else none
 |_=>none:=rfl
end Z
namespace Z
open PySem PySem.Spec PySem.W PyProof.Rows L2 Mr Xe
def akz(C:Addr):TE:=λ_ H Q=>∀x l,H x=none->H l=none->l≠x->Q (.ref x) (ri (ri H l (.own x)) x (.ins C l []))
structure Tb (K:Frag)(mg:Str->Υ)(c:Str)(C:Addr):Prop where
 mki:makesIn K C=true
 ini:findIn K (.ref C) "__init__" = some (some (.builtin "object.__init__"))
 kp:keepIn K (.ref C)=true
 m:mg c=some (.ref C)
def Oj(G:Tb X.K X.mg c C)(n:Gl X c:=by rfl)(l:(c == ("__debug__" : Str))=false:=by decide):PE X (.Call (.Name c p) [] [] pos) (akz C):=by
 intro J s σ H Q I h;refine kO (zg I n G.m ?_ l);refine W.callWith_K0 I.kIn G.kp ?_;have u:=h (s.heap.objs.size+1) s.heap.objs.size (I.hok.fresh (bP _)) (I.hok.fresh (ae _)) (aF (cZ _));have x:=qb.made (C:=C) I;have kin:=I.kIn;have Y:=makes_of (M:=kf X.prog X.w) kin G.mki;obtain⟨hh,g,d,t,os⟩:=s;refine lB (make_core Y (looks_findIn kin G.ini) (λself=>Looks.of_pure (oi_bind self)) (.inr ⟨rfl,rfl⟩) ?_)
 have z:((hh.push emptyDict).push (instObj C hh.objs.size)).get? (hh.objs.size+1)=some (instObj C hh.objs.size):=by heap_get
 have B:Looks (kf X.prog X.w) ((hh.push emptyDict).push (instObj C hh.objs.size)) (typeOf (.ref (hh.objs.size+1))) (.ref C):=(Looks.ld z).andThen .now;have E:Looks (kf X.prog X.w) ((hh.push emptyDict).push (instObj C hh.objs.size)) (mV (.ref (hh.objs.size+1)) (.type "object")) true:=B.andThen (Y.top.keeps λb o e=>aa _ (aa _ e))
 refine kP oi_plain entry_oi (@check_slot (kf X.prog X.w) _ _ _ "object.__init__" "object" "__init__" (.ref (hh.objs.size+1)) [] [] _ oi_kind oi_split E (oi_args (.ref (hh.objs.size+1))) ?_);show ki _ _ (Builtin.«object.__init__» ⟨[.ref (hh.objs.size+1)],[]⟩) _ _ _;rw[oi_run];exact kC (And.intro rfl ⟨V.ref (hh.objs.size+1),_,x,rfl,u⟩)
def NW{K:Frag}(I:qF K c C):SK K (akz C) (zP c [] ph):=by
 intro H₀ l Hf S σ H G J L R e Q q;cases e;intro p u x n s;have t:ri H u (.own p) p=none:=by rw[pe (Ne.symm s)];exact x
 obtain⟨z,R2⟩:=R.layF (o:=.own p) n;obtain⟨B,E⟩:=R2.layF (o:=.ins C u []) t;exact q _ _ _ (.ref p) [] (z.trans B) E (.sh (.ins I.ns pE rfl λi d v e=>by cases e)) .nil
end Z
namespace Z
open PySem L2 Mr Xe
def anM(f:D->D->Option D)(m b:ME):ME:=λS=>(m S).bind λx=>(b x.2).bind λy=>(f x.1 y.1).bind λd=>if d.scal then some (d,y.2)else none
def anb(i:Nat)(g:Int->Int->Int)(b:ME):MS:=λS=>(oH i S).bind λx=>(intOf x.1).bind λa=>(b x.2).bind λy=>(intOf y.1).map λc=>.nx (y.2.set i (i0 (g a c)))
def alU(i:Nat)(n:MP)(s:ME):MS:=λS=>(n S).bind λx=>(tM x.2 i).bind λl=>(rR (.ow l) x.1).bind λas=>(s (x.2.set i none)).bind λy=>yH (y.2[i]?=some none/\as.length<tH) (some (.nx (y.2.set i (some (putAt (.ow l) x.1 (as++[.sh y.1]))))))
def Uj(g:MF)(f:vH)(a:MA):MX:=λS=>(a S).bind λx=>(f (x.1.map pD)).bind (yI λr=>(g [pD r]).map λz=>.ok (.rt z))
def QU(ha:SA K L a):Qd K E (VC (xX (rW K g) [] E0 (vG (xX (wN K f) [] E L) xY))) (Uj g f a):=by
 intro H₀ u Hf S σ H Fs o R e D q;obtain⟨x,Q,e⟩:=oBq.mp e;obtain⟨r,T,e⟩:=oBq.mp e;refine ha R (as:=x.1) (S':=x.2) Q _ λU H1 Fs1 vs Gs X Y r1 o1=>?_
 obtain⟨R2,r2,t2⟩:=Y.gives X r1 o1;rw[aNq];refine⟨_,_,r,R2.sub,r2,T,Ci R2 e t2.sf q λM z s H' v F s1 R' ra nd fr=>?_⟩
 obtain⟨z1,ez,z⟩:=oMq.mp z;cases z;have O:qC K s H' [M] [v] [F]:=qC.nil.snoc ra;have n:∀q∈[F].flatten,s q=none:=λq l=>(O.owned q l).2
 have P:∀q∈[F].flatten,q∈F:=λq l=>by rwa [aR]at l
 have B:=R'.frz (λq l=>⟨R2.fr.free (fr q (P q l)),λm=>(R2.mem m).1 (fr q (P q l))⟩) n
 have r3:=O.frozen (ur n) λq l=>CJ l
 refine⟨_,[pD M],z1,B.sub,r3,ez,λHf4 H4 v4 F4 u1 u2 u3 l' G I J=>?_⟩
 have t:=zz B u1 u2 u3 l';exact q _ _ _ _ t.sf t.fr t.sub t.lim G I λp hp=>B.fr.free (J p hp)
def ag6(S)g f a:Uj g f a S=(a S).bind λx=>(f (x.1.map pD)).bind (yI λr=>(g [pD r]).map λz=>.ok (.rt z)):=rfl
end Z
local macro_rules|`(tactic|simp_arith $c:optConfig [$ls,*]$[$l:location]?)=>do let x:=("AY akT aki ajC akp ajJ akS ajP ajQ alW al0 ajF rC_ alr aly ajG akn ahL alS ajI ab3 aks aha agt abU ajT ajv akj ais agi VH al7 alN alP agz ahP ahI YX Zd akN akE akM alo ajl akO aiP PK WA ZO aiT ag4 aj9 aem aid ahO ajU amc VE SE aaV WY air adP aci X7 alw Td ag7 ajV ahQ aiN al3 Zc agw aiu akB adU ah7 agb ajc abt acz Yy aaa adm aas ab0 ad6 ad2 agM ahx agL p57 p58 p59 GM Ow Uy NF ac2 GF adt ade Wk aa4 aap Nn ZZ abS adf aaX adb Yt Wt Ky vi V6 aku vO S9 Wm gt1 gt2 gt3 gt4 st1 OP st3 st4 alz X8 Z6 Yw ajB alL Pg aeG aay XZ Z3 akk adQ ad1 ago amd aiK RN XJ acE Xm aj5 ah8 Y7 abr ag2 akb YG Qk Ja Kr Vv ajX ahE ZW aie aea WT uS ait aiv agN ahq aiA ahl agy agh agH ag0 ahJ ahb agx aim NV akH amb ahu agd ajK akd ah1 ahR adu aj2 adq RO adA aes adJ agY ag6".splitOn.map (Lean.Name.str `_root_.Z)++"getElem?_cons_zero set_cons_zero length_cons length_nil map_cons map_nil nil_append cons_append length_map replicate_zero append_nil reduceReplicate".splitOn.map (Lean.Name.str `List)++"Option.join_some Option.map_some Option.map_none Option.bind_some Option.bind_none Bool.not_true Bool.not_false Bool.false_eq_true decide_true decide_false Nat.zero_add Nat.reduceAdd Nat.reduceSub Nat.reduceEqDiff Nat.reduceLeDiff reduceCtorEq".splitOn.map String.toName).toArray.map Lean.mkIdent;`(tactic|simp $c:optConfig only[$[$x:ident],*,↓reduceIte,$ls,*]$[$l:location]?)
namespace Z
open PySem L2 Mr Xe
def ZM(g f:vH)(a:MA):MX:=λS=>(a S).bind λx=>(f (x.1.map pD)).bind (yI λr=>(g [pD r]).bind (yI λz=>some (.ok (.rt z))))
def ZF(ha:SA K J a):Qd K E (VC (xX (wN K g) [] E (vG (xX (wN K f) [] E J) xY))) (ZM g f a):=by
 intro H₀ Hf₀ Hf S σ H Fs o R e D q;obtain⟨x,Q,e⟩:=oBq.mp e;obtain⟨r,T,e⟩:=oBq.mp e;refine ha R (as:=x.1) (S':=x.2) Q _ λU H1 Fs1 vs Gs X Y r1 o1=>?_
 obtain⟨R2,r2,L⟩:=Y.gives X r1 o1;rw[aNq];refine⟨_,_,r,R2.sub,r2,T,Ci R2 e L.sf q λM z s H' v F s1 R' ra nd fr=>?_⟩
 obtain⟨z1,ez,z⟩:=oBq.mp z;have O:qC K s H' [M] [v] [F]:=qC.nil.snoc ra;have n:∀q∈[F].flatten,s q=none:=λq l=>(O.owned q l).2
 have P:∀q∈[F].flatten,q∈F:=λq l=>by rwa [aR]at l
 have u:=R'.frz (λq l=>⟨R2.fr.free (fr q (P q l)),λm=>(R2.mem m).1 (fr q (P q l))⟩) n
 have r3:=O.frozen (ur n) λq l=>CJ l
 refine⟨_,[pD M],z1,u.sub,r3,ez,Ci u z ((L.sf.trans s1).trans (ur n)) q λav4 z4 Hf4 H4 v4 F4 s4 t B G I=>?_⟩
 cases z4;exact q _ _ _ _ t.sf t.fr t.sub t.lim B G λp hp=>u.fr.free (I p hp)
def MN(S)g f a:ZM g f a S=(a S).bind λx=>(f (x.1.map pD)).bind (yI λr=>(g [pD r]).bind (yI λz=>some (.ok (.rt z)))):=rfl
end Z
namespace Z
open PySem L2 Mr
noncomputable def acd:D->Option (List D)
 | .tup ds=>some ds
 |_=>none
noncomputable def JY:Θ->List D->AS->AS
 |i::is,d::ds,S=>JY is ds (S.set i (some (.sh d)))
 |_,_,S=>S
def XD(is:Θ)(k:MK):MS:=λS=>(k S).bind λx=>(acd (pD x.1)).bind λds=>if ds.length=is.length then some (.nx (JY is ds x.2))else none
def ahC(is)k S:XD is k S=(k S).bind λx=>(acd (pD x.1)).bind λds=>if ds.length=is.length then some (.nx (JY is ds x.2))else none:=rfl
def akW ds:acd (.tup ds)=some ds:=rfl
def aeB i(is:Θ)d ds S:JY (i::is) (d::ds) S=JY is ds (S.set i (some (.sh d))):=rfl
def acm S:JY [] [] S=S:=rfl
def gNs:Θ->TGs
 | []=>Sn
 |i::is=>Cr (vo i) (gNs is)
theorem Z4{Q:St->Hp->Prop}:∀is {ds}{vs}{S}{σ}{s},ds.length=is.length->sq K Hf ds vs->rq K H₀ l Hf S σ H s->(∀n t,rq K H₀ l Hf (JY is ds S) n H t->Q n H)->gNs is vs σ H Q
 | [],[],vs,S,σ,s,_,r,R,h=>⟨r.nil_inv,h _ _ R⟩
 |i::is,d::ds,vs,S,σ,s,e,r,R,h=>by
  obtain⟨v,u,rfl,x,z⟩:=r.cons_inv;exact⟨v,u,rfl,Z4 is (Nat.succ.inj e) z (R.setD i x) h⟩
def ac3 is(hk:SK K te k):SS K (Nd te (S7 K is.length (gNs is))) (XD is k):=by
 intro H₀ n Hf S σ H U o R e D h;obtain⟨x,E,e⟩:=oBq.mp e;obtain⟨u,l,e⟩:=oBq.mp e;have s:SK K te (yF k):=SK.frz hk;refine s R (a:=.sh (pD x.1)) (S':=x.2) (by show(k S).map _=_;rw[E];rfl) _ λG X Fs1 v F I z J Y=>?_
 obtain⟨hF,r⟩:=J.sh_inv;have L:pD x.1 = .tup u:=by
  unfold acd at l;split at l
  .rename_i hd;cases l;exact hd
  .cases l
 rw[L]at r
 by_cases hl:u.length=is.length
 .rw[qf hl]at e;cases e;obtain⟨t,M,rfl,O,B⟩:=r.tup_inv;exact⟨t,M,rfl,GW.of (z.sub _ _ O),by rw[←B.1];exact hl,Z4 is hl B z λP Q T=>h _ _ _ _ I.sf T⟩
 .rw[qj hl]at e;cases e
end Z
namespace L2
open PySem PySem.Spec PySem.W PyProof.Rows
def akA(a b:TE):TE:=λσ H Q=>a σ H Q∨b σ H Q
def af2(a b:TS):TS:=λD σ H=>a D σ H∨b D σ H
def G5(l:PE X e a)(n:PE X e b):PE X e (akA a b):=λ_ _ _ _ _ I h=>h.elim (l _ _ _ _ _ I) (n _ _ _ _ _ I)
def X6(l:PS X s a)(n:PS X s b):PS X s (af2 a b):=λ_ _ _ _ _ I h=>h.elim (l _ _ _ _ _ I) (n _ _ _ _ _ I)
end L2
namespace Z
open PySem L2 Mr Xe
noncomputable def Jo(a b:ME):ME:=λS=>(a S).or (b S)
noncomputable def IQ(a b:MS):MS:=λS=>(a S).or (b S)
def TH{α:Type}{a b:Option α}{x}(h:a.or b=some x):a=some x∨b=some x:=by
 cases a with
 |none=>exact .inr h
 |some y=>exact .inl h
def sU(l:SR K ta a)(n:SR K tb b):SR K (akA ta tb) (Jo a b):=λR e Q q=>(TH e).elim (λe=>.inl (l R e Q q)) λe=>.inr (n R e Q q)
def AB(l:SS K t a)(n:SS K u b):SS K (af2 t u) (IQ a b):=λR e D q=>(TH e).elim (λe=>.inl (l R e D q)) λe=>.inr (n R e D q)
noncomputable def VA:AV->Option (List D)
 | .sh (.tup ds)=>some ds
 |_=>none
def Vb(h:VA a=some ds):a = .sh (.tup ds):=by
 unfold VA at h;split at h
 .cases h;rfl
 .cases h
def Uo(c m:Str)(g:MF)(f:vH)(a:MA):MX:=λS=>(a S).bind λx=>(f (x.1.map pD)).bind (yI λr=>(Ae c m r).bind λd=>(g [d]).map λz=>.ok (.rt z))
def P1(I:qF K c C)(ha:SA K M a):Qd K E (VC (xX (rW K g) [] E0 (aa7 C m (xX (wN K f) [] E M) xY))) (Uo c m g f a):=by
 intro H₀ t Hf S σ H Fs o R e D q;obtain⟨x,Q,e⟩:=oBq.mp e;obtain⟨r,T,e⟩:=oBq.mp e;refine ha R (as:=x.1) (S':=x.2) Q _ λU H1 Fs1 vs Gs X Y r1 o1=>?_
 obtain⟨R2,r2,t2⟩:=Y.gives X r1 o1;rw[aNq];refine⟨_,_,r,R2.sub,r2,T,Ci R2 e t2.sf q λav z Hf' H' v F s1 n O nd fr=>?_⟩
 obtain⟨d,ed,z⟩:=oBq.mp z;obtain⟨z1,ez,z⟩:=oMq.mp z;cases z;obtain⟨fs,ho,hd,hl⟩:=Uu ed;rw[ho]at O;obtain⟨hF,P⟩:=O.sh_inv;obtain⟨a',C',dx,gs,rfl,l,u,B,he⟩:=(P.mono n.sub).ins_inv;rw[I.ns]at l;cases l;refine⟨a',dx,gs,rfl,u,(B5 (f:=m) B he).1 hl,?_⟩;subst hd;refine⟨_,[.ins c fs],z1,n.sub,.cons P .nil,ez,λHf4 H4 v4 F4 u1 u2 u3 l' G J L=>?_⟩
 have s:=zz n u1 u2 u3 l';exact q _ _ _ _ s.sf s.fr s.sub s.lim G J λp hp=>n.fr.free (L p hp)
def Mx(a b:MK):MK:=λS=>(a S).bind λx=>(VA x.1).bind λxs=>(b x.2).bind λy=>(VA y.1).bind λl=>yH ((xs≠[]/\l≠[])/\xs.length+l.length<=tH) (some (.sh (.tup (xs++l)),y.2))
def aeN(ha:SK K B a)(hb:SK K E b):SK K (tOp (afA K) B E) (Mx a b):=by
 intro H₀ s Hf S σ H Fs av S' R e Q q;obtain⟨x,M,e⟩:=oBq.mp e;obtain⟨xs,O,e⟩:=oBq.mp e;obtain⟨y,P,e⟩:=oBq.mp e;obtain⟨ys,T,e⟩:=oBq.mp e;rcases qL e with⟨⟨⟨U,X⟩,hl⟩,e⟩|e
 .cases e;refine ha R (a:=x.1) (S':=x.2) M _ λY H1 Fs1 v1 F1 t1 R1 G o1=>hb R1 (a:=y.1) (S':=y.2) P _ λHf2 H2 Fs2 v2 F2 I R2 J o2=>?_
  rw[Vb O]at G;rw[Vb T]at J;obtain⟨p1,l,rfl,h1,t⟩:=((G.sh_inv).2.mono I.sf).tup_inv;obtain⟨p2,n,rfl,h2,u⟩:=(J.sh_inv).2.tup_inv;have m1:l≠[]:=λz=>U (bz.mp (by rw[t.1,z];rfl))
  have m2:n≠[]:=λz=>X (bz.mp (by rw[u.1,z];rfl))
  refine⟨p1,p2,l,n,rfl,rfl,GW.of (R2.sub _ _ h1),GW.of (R2.sub _ _ h2),m1,by rw[←t.1,←u.1];exact hl,λz=>absurd z m2,λ_ p hp=>?_⟩
  obtain⟨L,R3⟩:=R2.layF hp;exact q _ _ _ (.ref p) [] ((t1.trans I).trans L) R3 (.sh (.mk_tup pE ((t.append u).mono L.sf))) .nil
 .cases e
def Ym(S)a b:Mx a b S=(a S).bind λx=>(VA x.1).bind λxs=>(b x.2).bind λy=>(VA y.1).bind λl=>yH ((xs≠[]/\l≠[])/\xs.length+l.length<=tH) (some (.sh (.tup (xs++l)),y.2)):=rfl
def OE(S)c m g f a:Uo c m g f a S=(a S).bind λx=>(f (x.1.map pD)).bind (yI λr=>(Ae c m r).bind λd=>(g [d]).map λz=>.ok (.rt z)):=rfl
end Z
namespace Mr
open PySem PySem.Spec PyProof.Rows L2
def qD(S:oU N P sc)(n:PE X e te)(s:X.N=N:=by rfl)(hi:X.N[i]?=some x:=by rfl)(t:Loc X.env.scope x:=by first|exact ji rfl|exact gi rfl)(u:lZ e (some (.Name x l)) pos.line X.env=pure false:=by rfl)(z:X.fn x=true∨X.env.scope.names.lookup x=some .local:=by trivial) :
  PS X (.Assign [.Name x l] e pos) (Nd te (vo i)):=ahy (s ▸ S.nd) hi t n u z
def HY(S:oU N P sc)(l:X.N=N:=by rfl)(hi:X.N[i]?=some x:=by rfl)(n:Loc X.env.scope x:=by first|exact ji rfl|exact gi rfl)(s:X.fn x=true∨X.env.scope.names.lookup x=some .local:=by trivial):PG X (.Name x pos) (vo i):=NH (l ▸ S.nd) hi n s
section
variable {st:Stmt}
def qP(G:Fn X.prog X.w X.K X.mg X.base k x st ps sp f fd)(hr:tY n X.A)(ha:PA X (e::es) t)(hk:k<=n:=by decide)(u:Gl X x:=by rfl)(l:(x == ("__debug__" : Str))=false:=by decide)
  (z:kx (e::es) X.env=(false,eval e X.env)::kx es X.env:=by rfl) (s:(kM pos (kx es X.env)).any (·.1)=false:=by rfl) :
  PE X (.Call (.Name x p) (e::es) [] pos) (xX sp [] E0 t):=afr G (hr.mono hk) ha u l z s
end
def sC(a:sc.kind = .function:=by rfl)(b:sc.isCoroutine=false:=by rfl)(c:sc.isGenerator=false:=by rfl)(d:N.Nodup:=by trivial)(e:N.take P.length=P:=by rfl)(f:∀x∈P,sc.names.lookup x=some .local∨sc.names.lookup x=some .cell:=by trivial)(g:∀y∈sc.names,y.2 ≠ .free:=by trivial):oU N P sc:=⟨a,b,c,d,e,f,g⟩
def Yd{K}{st}(D:xN K mg x st ps f fd)(S:oU N ps (oI st))
  (h:∀l A outer s H E,tY k (A.deeper (kH x (oI st) s.heap.objs.size f l))->(A.deeper (kH x (oI st) s.heap.objs.size f l)).units+64<kN->(A.deeper (kH x (oI st) s.heap.objs.size f l)).units+65<kN ->
   ∃t,KJ (Hm QC P w K mg base N x (oI st) f l A outer s H E).nox (sS st) t/\Z.SS K t m):Fn P w K mg base (k+1) x st ps (Z.rW K (Z.tj ps.length N.length m)) f fd:=
 ⟨D,D.F.ok S (λn H Q E h=>Z.Ox h) λl A outer s H n Q E hr hh=>by
  obtain⟨t,a,b⟩:=h l A outer s H E hr hr.units (tY.units65 hr);exact⟨t,a,Z.FE N b hh⟩⟩
def Li{K}{st}(D:xN K mg x st ps f fd)(S:oU N ps (oI st))
  (h:∀l A outer s H E,oU N ps (oI st)->tY k (A.deeper (kH x (oI st) s.heap.objs.size f l))->(A.deeper (kH x (oI st) s.heap.objs.size f l)).units+64<kN->(A.deeper (kH x (oI st) s.heap.objs.size f l)).units+65<kN ->
   ∃t,Z.SS K t m/\KJ (Hm QC P w K mg base N x (oI st) f l A outer s H E).nox (sS st) t):Fn P w K mg base (k+1) x st ps (Z.rW K (Z.tj ps.length N.length m)) f fd:=
 ⟨D,D.F.ok S (λn H Q E h=>Z.Ox h) λl A outer s H n Q E hr hh=>by
  obtain⟨t,b,a⟩:=h l A outer s H E S hr hr.units (tY.units65 hr);exact⟨t,a,Z.FE N b hh⟩⟩
def agX(n:X.A.units+1<kN)(hi:PE X i ty)(s:PE X o l)(t:lS .NotIn o=false):PT X (.Compare i [.NotIn] [o] pos) (tB (MU ty l)):=RZ (Hx n hi s) t
end Mr
namespace Mr
open PySem PySem.Spec PySem.W PyProof.Rows L2 Xe
section
variable {K:Ζ}{st:Stmt}
def E7(F:AN K x qual st f fd)(S:oU N ps (oI st))
  (h:∀l A outer s H E,tY k (A.deeper (kH qual (oI st) s.heap.objs.size f l))->(A.deeper (kH qual (oI st) s.heap.objs.size f l)).units+64<kN->(A.deeper (kH qual (oI st) s.heap.objs.size f l)).units+65<kN ->
   ∃t,KJ (Hm (Xs P w) P w K mg base N qual (oI st) f l A outer s H E) (sS st) t/\Z.Qd K E t m):yT P w K mg base (Xs P w) (k+1) f fd ps (Z.wN K (Z.uH ps.length N.length m)):=
 Xe.okX F S (λn H Q E h=>Z.adh h) λl A outer s H n Q E hr hh=>by
  obtain⟨t,a,b⟩:=h l A outer s H E hr hr.units (tY.units65 hr);exact⟨t,a,Z.Wy N b hh⟩
def fnM(F:AN K x qual st f fd)(S:oU N ps (oI st))
  (h:∀l A outer s H E,tY k (A.deeper (kH qual (oI st) s.heap.objs.size f l))->(A.deeper (kH qual (oI st) s.heap.objs.size f l)).units+64<kN->(A.deeper (kH qual (oI st) s.heap.objs.size f l)).units+65<kN ->
   ∃t,KJ (Hm QC P w K mg base N qual (oI st) f l A outer s H E).nox (sS st) t/\Z.SS K t m):yT P w K mg base QC (k+1) f fd ps (Z.rW K (Z.tj ps.length N.length m)):=
 F.ok S (λn H Q E h=>Z.Ox h) λl A outer s H n Q E hr hh=>by
  obtain⟨t,a,b⟩:=h l A outer s H E hr hr.units (tY.units65 hr);exact⟨t,a,Z.FE N b hh⟩
end
end Mr
namespace Mr
open PySem L2
variable {K:Ζ}{mg:Str->Υ}
structure At (K:Ζ)(x:Str)(st:Stmt)(f:Addr)(fd:ky):Prop where
 a:W.nsIn K ko x=some (some (.ref f))
 F:AN K x x st f fd
structure Je (K:Ζ)(O:Addr)(z x:Str)(st:Stmt)(f:Addr)(fd:ky):Prop where
 a:W.findIn K (.ref O) z=some (some (.ref f))
 F:AN K z x st f fd
 i:W.isFn K (.ref f)=true
section
variable {kV:Value}{osl:Array Υ}
def ajN(a:W.nsIn K ko x=some (some (.ref f)))(l:K.lookup f=some ⟨oc,od,.func (W.fnOf x x (uv st) (sS st) (oI st) .none kV doc pm an uM ct),osl⟩)
  (c:W.codeIn K uM x=true) (k:W.keepIn K (.ref f)=true):At K x st f (W.fnOf x x (uv st) (sS st) (oI st) .none kV doc pm an uM ct):=⟨a,wm l c k⟩
def aht(a:W.findIn K (.ref O) z=some (some (.ref f)))(l:K.lookup f=some ⟨oc,od,.func (W.fnOf z x (uv st) (sS st) (oI st) .none kV doc pm an uM ct),osl⟩)
  (c:W.codeIn K uM x=true) (k:W.keepIn K (.ref f)=true) (i:W.isFn K (.ref f)=true):Je K O z x st f (W.fnOf z x (uv st) (sS st) (oI st) .none kV doc pm an uM ct):=⟨a,wm l c k,i⟩
end
abbrev BA(x q:Str)(st:Stmt)(ps:List Str)(us:Ξ):Prop:=∀(kV l pm:Value) (n:Option Addr) (s ct:Value),bindArgs (W.fnOf x q (uv st) (sS st) (oI st) .none kV l pm n s ct) ⟨us,[]⟩=pure (ps.zip us)
section
variable (F:AN K x q st f fd)
include F
def b1(h:∀u,BA x q st [a] [u]:=by exact λ_ _ _ _ _ _ _=>rfl):qY K fd [a] []:=F.binds λ_ _ _ _ _ _ us hl=>by
 obtain - | ⟨u, - | ⟨v,l⟩⟩:=us <;> cases hl
 apply h
def b2(h:∀u v,BA x q st [a,b] [u,v]:=by exact λ_ _ _ _ _ _ _ _=>rfl):qY K fd [a,b] []:=F.binds λ_ _ _ _ _ _ us hl=>by
 obtain - | ⟨u, - | ⟨v, - | ⟨w,l⟩⟩⟩:=us <;> cases hl
 apply h
def b3(h:∀u v w,BA x q st [a,b,c] [u,v,w]:=by exact λ_ _ _ _ _ _ _ _ _=>rfl):qY K fd [a,b,c] []:=F.binds λ_ _ _ _ _ _ us hl=>by
 obtain - | ⟨u, - | ⟨v, - | ⟨w, - | ⟨y,l⟩⟩⟩⟩:=us <;> cases hl
 apply h
def b4(h:∀u v w y,BA x q st [a,b,c,d] [u,v,w,y]:=by exact λ_ _ _ _ _ _ _ _ _ _=>rfl):qY K fd [a,b,c,d] []:=F.binds λ_ _ _ _ _ _ us hl=>by
 obtain - | ⟨u, - | ⟨v, - | ⟨w, - | ⟨y, - | ⟨z,l⟩⟩⟩⟩⟩:=us <;> cases hl
 apply h
end
def zp(X:K.In h)(G:h.Ns ko mg)(a:At K x st f fd)(b:qY K fd ps []):xN K mg x st ps f fd:=⟨a.F,W.mg_of X G a.a,b⟩
end Mr
namespace Zl
open PySem L2 Mr Z
def V4:MS:=(qh (kSc (Qr (qe WZ (oH 0) (rC (.int 0))) (qe Wx (ze amq (oK (oH 0) ph)) (qe Ie (rC (.int 10)) (rC (.int 60)))))))
def abF:MF:=tj 1 1 V4
def Hh:MS:=(oZ (wZ (tJ (qe CI (ze vZ (oK (oH 0) ph)) (rC (.int 0)))) (qh (sZ oV)) pX)
 (oZ (pR 1 (kSc (rBM "list" BN (oH 0) (oK (ze WJ (oK (oH 0) ph)) ph))))
 (qh (D7 (lOf (Py (wj 0) (yd (oH 1)) zb)) (lOf (Py (wj 0) zb (yd (oH 1))))))))
def A0:MF:=tj 1 2 Hh
def xU:MS:=(Rz 1 (C0 2))
def BH:MS:=(oZ (pR 1 (sZ oV))
 (oZ (ET 2 (oW 0) xU)
 (qh (Ba 1))))
def rN:MF:=tj 1 3 BH
def Cd:MS:=(oZ (wZ (tJ (qe Wx (oH 1) (ze vZ (oK (oH 0) ph)))) (qh (kSc (qe HC (oH 0) (oH 1)))) pX)
 (qh (kSc (rC (.int 0)))))
def pO:MF:=tj 2 2 Cd
def Bb:MS:=(qh (IJ (xQ (D8 (oW 0)) [] xp (pJ Zl.A0 (oE (oW 0) oV)))))
def su:MF:=tj 1 1 Bb
def D6:MX:=(TY (xy (tJ (uB Zl.abF (oK (oH 1) ph)))) (CK "NoEnd" "end" (oK (oH 1) ph)) (Dp pX))
def FZ:MX:=(af7 1 (oW 0) D6)
def GU:vH:=uH 1 2 FZ
def EJ:MX:=(wV (TY (tJ (alp (oH 2) (oH 1))) (CK "Twice" "end" (oK (oH 2) ph)) (Dp pX)) (Dp (Ay 1 (oH 2) (kSc (rC (.bl true))))))
def G3:MX:=(wV (Dp (pR 1 As))
 (af7 2 (oW 0) EJ))
def Ig:vH:=uH 1 3 G3
def E3:MS:=(Ay 1 (oH 2) (kSc (rC (.bl true))))
def Fd:MX:=(TY (tJ (vC (vJ wu (oH 2)) (oH 1))) (CK "Lone" "end" (oK (oH 2) ph)) (Dp pX))
def Ih:MX:=(wV (Dp (pR 1 As))
 (wV (Dp (ET 2 (oW 0) E3))
 (af7 2 (oW 0) Fd)))
def JM:vH:=uH 1 3 Ih
def uP:MX:=(wV (TY (tJ (qe dGt (ze vZ (oK (rOf (pJ Zl.rN (oE (oW 0) oV))) ph)) (rC (.int 128)))) (BE "TooMany") (Dp pX))
 (TY (tJ (qe dGt (abA (oH 0)) (rC (.int 128)))) (BE "TooMany") (Dp pX)))
def rL:vH:=uH 1 1 uP
def QN:MX:=(wV (Dp (pR 1 (pJ Zl.rN (oE (oW 0) oV))))
 (wV (yX Zl.GU (oE (oW 1) oV))
 (wV (yX Zl.Ig (oE (oW 1) oV))
 (wV (yX Zl.JM (oE (oW 1) oV))
 (wV (yX Zl.rL (oE (oW 0) oV))
 (Dp (qh (pJ Zl.su (oE (oW 0) oV)))))))))
def Rv:vH:=uH 1 2 QN
def Jj:MS:=(qh (Ss (lOf (pJ Zl.rN (oE (oW 0) oV)))))
def DH:MF:=tj 1 1 Jj
def Kc:MS:=(Ay 1 (oH 4) (oW 2))
def J7:MS:=(ET 4 (oW 3) Kc)
def Nz:MS:=(oZ (pR 1 As)
 (oZ (ajo 2 3 (oW 0) J7)
 (qh (Ba 1))))
def Qg:MF:=tj 1 5 Nz
def GJ ns(h:0<=k):pO [.scr ns,.int k]=i0 (cell ns k.toNat):=by
 by_cases c:k<(ns.length)
 .have hk:k.toNat<ns.length:=by lia
  have e:=Av hk
  simp_arith [pO,Cd,c,NZ h,gEg hk,cell,e]
 .have hk:ns.length<=k.toNat:=by lia
  have e:ns.getD k.toNat 0=0:=by rw[gDq,bJ hk];rfl
  simp_arith [pO,Cd,c,cell,e]
def afC ns:pO [.scr ns,.int 0]=i0 (cell ns 0):=GJ ns ⋯
def ajt ns:pO [.scr ns,.int 1]=i0 (cell ns 1):=GJ ns ⋯
def ajZ ns:pO [.scr ns,.int 2]=i0 (cell ns 2):=GJ ns ⋯
def Mg{ns:Ϝ}:ns.foldl min n∈n::ns/\∀x∈n::ns,ns.foldl min n<=x:=⟨AF ns n,λx l=>(ah.mp l).elim (λe=>e ▸ (zq ns n).1) ((zq ns n).2 x)⟩
def VT(hl:ns.length<=500000):A0 [dI ns]=some (aI (good ns)):=by
 cases ns with
 |nil=>
  have t:((0))=0:=rfl
  simp_arith [A0,Hh,t]
  rfl
 |cons n ns=>
  obtain⟨t,x⟩:=Mg;have e:=C9 t x;have l:=J0 (n::ns);have u:¬ ((n::ns).length:Int)=0:=by simp only[lCq];lia
  have hm:WJ [dI (n::ns)]=some (.int (ns.foldl min n)):=by
   show(vU ((n::ns).map D.int)).bind (λns=>(Oz ns).map D.int)=_
   rw[vO];rfl
  have z:BN (dI (n::ns)) [.int (ns.foldl min n)]=some (.int (qv (n::ns) (n::ns).length)):=by
   show(vU ((n::ns).map D.int)).bind _=_;rw[vO];show(if _ then _ else _)=_
   rw[qf t,e]
  generalize B:n::ns=N at *;have s:(N.drop (qv N N.length)).length+(N.take (qv N N.length)).length<=tH:=by rw[aC,lTq];show _<=16777216;lia
  simp_arith [A0,Hh,u,hm,z,yE,FN N _ l,DX N _ l,s,←mBq,GM]
  rfl
def vD{rs:Λ}{r:Ϝ}(h:rs[i]?=some r):(rs.take (i+1)).flatten=(rs.take i).flatten++r:=by
 rw[dG,h];simp
def yW(rs:Λ)i:(rs.take i).flatten.length<=rs.flatten.length:=by
 have:=congrArg bU (congrArg jR (aT i rs));rw[fAq,lAq]at this;lia
def Om{rs:Λ}{i:Nat}(h:(rs.map dI)[i]?=some d):∃r,rs[i]?=some r/\d=dI r:=by
 rw[gMq]at h;obtain⟨r,l,n⟩:=oMq.mp h;exact⟨r,l,n.symm⟩
def UD{ns:Ϝ}{i:Nat}(h:(ns.map D.int)[i]?=some d):∃z,ns[i]?=some z/\d = .int z:=by
 rw[gMq]at h;obtain⟨r,l,n⟩:=oMq.mp h;exact⟨r,l,n.symm⟩
def By(hl:rs.flatten.length<=500000):rN [dM rs]=some (aI rs.flatten):=by
 have key:=Ao (x:=2) (body:=xU) (λi S=>∃v,S=[some (.sh (dM rs)),some (aI (rs.take i).flatten),v]) (S:=[some (.sh (dM rs)),some (.ow []),none]) ⟨none,by simp⟩ (by
  rintro i d S hd ⟨v,rfl⟩;obtain⟨r,hr,rfl⟩:=Om hd;have l:=vD hr;have n:=yW rs (i+1);rw[l,lAq]at n;have s:(rs.take i).flatten.length+r.length<=tH:=by lia
  refine⟨_,?_,some (.sh (dI r)),rfl⟩;rw[l]
  simp_arith [xU,s,GM,←mBq])
 obtain⟨t,e,v,rfl⟩:=key;rw[lMq,bB]at e
 simp_arith [rN,BH,e]
def CV{rs:Λ}(h:d∈rs.map dI):∃r∈rs,d=dI r:=by
 obtain⟨r,l,n⟩:=mMq.mp h;exact⟨r,l,n.symm⟩
def D3:D->Ϝ
 | .list ds=>(vU ds).getD []
 |_=>[]
def xA r:D3 (dI r)=r:=by
 show(vU (r.map D.int)).getD []=r;rw[vO];rfl
def EX{β:Type}(g:Ϝ->β)(rs:Λ):(rs.map dI).map (λd=>g (D3 d))=rs.map g:=by
 rw[mPq];exact mCq λr _=>by show g (D3 (dI r))=g r;rw[xA]
def QV{rs:Λ}(hl:∀r∈rs,r.length<=500000):uF xp (pJ A0 (oE (oW 0) oV)) [] (rs.map dI)=some ((rs.map good).map aI):=by
 rw[yy (λd=>aI (good (D3 d)))]
 .rw[EX (λr=>aI (good r)),mPq]
  rfl
 .intro d hd;obtain⟨r,hr,rfl⟩:=CV hd;refine⟨[some (.sh (dI r))],?_⟩
  simp_arith [VT (hl r hr),xA]
def Zi n:uF xp (sZ oV) [] (sV 0 n)=some (aE n (.ow [])):=by
 rw[Z.yy λ_=>AV.ow []]
 .unfold sV;rw[mPq];show some (jT (λ_=>AV.ow []) (bT n))=_
  rw[List.map_const',bq]
 .intro d _;have l:(0:Nat)<=tH:=by decide
  refine⟨[some (.sh d)],?_⟩
  simp_arith [l]
def uQ(hl:∀r∈rs,r.length<=500000)(l:rs.length<=tH):su [dM rs]=some (.ow ((A7 (rs.map good)).map aI)):=by
 have n:=QV hl
 simp_arith [su,Bb,n,l]
end Zl
namespace Zl
open PySem L2 Mr Z Xe
def bare(rs:Λ):Nat:=rs.countP (·=([]:Ϝ))
def Su(hl:rs.flatten.length<=500000):rL [dM rs]=some (if rs.flatten.length<=128/\bare rs<=128 then .ok (.sh .non)else .ex "TooMany" []):=by
 have ht:=By hl;unfold bare
 by_cases s:rs.flatten.length<=128
 .have l:¬ (128:Int)<(rs.flatten.length:Int):=by lia
  by_cases t:rs.countP (·=([]:Ϝ))<=128
  .have n:¬ (128:Int)<(rs.countP (·=([]:Ϝ)):Nat):=by lia
   rw[qf ⟨s,t⟩]
   simp_arith [rL,uP,ht,l,n]
  .have n:(128:Int)<(rs.countP (·=([]:Ϝ)):Nat):=by lia
   rw[qj λz=>t z.2]
   simp_arith [rL,uP,ht,l,n]
 .have l:(128:Int)<(rs.flatten.length:Int):=by lia
  rw[qj λz=>s z.1]
  simp_arith [rL,uP,ht,l]
section
variable {rs:Λ}(hl:rs.flatten.length<=500000)
include hl
end
def Lx r(h:r.Nodup):good (good r)=good r:=Kq h _
def uI{T:Λ}(h:T.flatten.Nodup):A7 ((A7 (T.map good)).map good)=A7 (T.map good):=by
 have q:(A7 (T.map good)).map good=A7 (T.map good):=by
  have:∀r∈A7 (T.map good),good r=r:=λr hr=>by
   obtain⟨s,l,rfl⟩:=mMq.mp ((uD _).mem_iff.mp hr);exact Lx s (V8 h l)
  exact(mCq this).trans (du _)
 rw[q];exact(J6 (.refl _) (B4 _)).symm
end Zl
namespace Zl
open PySem L2 Mr Z
def ac4(hl:rs.flatten.length<=500000):DH [dM rs]=some (aI (ER rs.flatten)):=by
 simp_arith [DH,Jj,By hl]
def U7(p:Nat)(r:Ϝ):List (qM×D):=r.map λe=>(.inl e,.int (p:Int))
def aaz:Nat->Λ->List (qM×D)
 |_,[]=>[]
 |p,r::rs=>U7 p r++aaz (p+1) rs
def Ft(h:k∉l.map (·.1)):FC l k d=l++[(k,d)]:=by
 unfold FC;rw[qj];intro e;obtain⟨n,hk,e⟩:=cE.mp e;exact h (mMq.mpr ⟨n,hk,of_decide_eq_true e⟩)
theorem Ra:∀{a b},k∉a.map (·.1)->Z.getD (a++b) k=Z.getD b k
 | [],b,_=>rfl
 |x::a,b,h=>by
  unfold Z.getD;rw[dW,dg (by
   intro e;exact h (by rw[←of_decide_eq_true e];simp))]
  exact Ra λm=>h (by simp only[aw,ah];exact .inr m)
theorem Qo:∀{r},e∈r->Z.getD (U7 p r++b) (.inl e)=some (.int p)
 | [],h=>by cases h
 |x::r,h=>by
  show((((bh x),D.int (p))::(U7 p r++b)).find? _).map _=_
  by_cases c:x=e
  .subst c;rw[eE ⋯]
   rfl
  .rw[dg (by simp[c])]
   exact Qo ((ah.mp h).resolve_left λz=>c z.symm)
theorem NR{r:Ϝ}:∀{rs:Λ}{i:Nat}p,rs.flatten.Nodup->rs[i]?=some r->e∈r->Z.getD (aaz p rs) (.inl e)=some (.int ((p+i:Nat):Int))
 | [],i,p,_,h,_=>by simp at h
 |s::rs,0,p,hn,h,he=>by
  simp at h;subst h;exact Qo he
 |s::rs,i+1,p,hn,h,he=>by
  rw[fCq,nAq]at hn;have l:=by simpa using h
  have:=NR (p+1) hn.2.1 l he;rw[show p+1+i=p+(i+1) by lia]at this
  rw[←this];refine Ra ?_;unfold U7;rw[mPq];intro m;obtain⟨x,n,t⟩:=mMq.mp m;cases t;exact hn.2.2 _ n _ (mFq.mpr ⟨r,mGq l,he⟩) rfl
theorem CM(P:AS->Prop)(μ:AS->Nat)(u:AS->Prop)(h:∀S,P S->∃b s,c S=some (b,s)/\(b=true->∃t,body s=some (.nx t)/\P t/\μ t<μ S)/\(b=false->u s)) :
  ∀l S,P S->μ S<l->∃S',vL c body l S=some (.nx S')/\u S'
 |0,S,_,hm=>absurd hm (dC _)
 |n+1,S,x,hm=>by
  obtain⟨b,s,z,B,E⟩:=h S x;rw[adw,z,dZ];cases b with
  |true=>
   obtain⟨t,G,H,I⟩:=B rfl;rw[G];exact CM P μ u h n t H ∅
  |false=>
   exact⟨s,rfl,E rfl⟩
end Zl
namespace Zl
open PySem L2 Mr Z Xe
def kd(l:Θ):List (qM×D):=l.map λk:Nat=>((bh (k:Int):qM),D.bl true)
def wd(l:Θ):List AV:=l.map λk:Nat=>AV.sh (.int (k:Int))
def Sl{rs:Λ}(hn:rs.flatten.Nodup){i:Nat}{r s:Ϝ}(hi:rs[i]?=some r)(l:rs[j]?=some s)(n:e∈r)(t:e∈s):i=j:=by
 have a:=NR 0 hn hi n;have b:=NR 0 hn l t;rw[a]at b;have:=D.int.inj (aY.inj b);lia
structure Mp (rs:Λ):Prop where
 hn:rs.flatten.Nodup
 hl:rs.flatten.length<=1000
 hr:rs.length<=1000
 hneg:∀e∈rs.flatten, -e∈rs.flatten
def Mp.row(h:Mp rs){k:Nat}{r:Ϝ}(hk:rs[k]?=some r):r.length<=1000:=by
 have:=cT.length_le (ax (mGq hk));have:=h.hl;lia
def WC{α β:Type}{f:α->β->α}{a}{r:List β}{e}(l:r[i]?=some e):(r.take (i+1)).foldl f a=f ((r.take i).foldl f a) e:=by
 obtain⟨hi,n⟩:=gSq.mp l;rw[List.take_succ_eq_append_getElem hi,List.foldl_append,n];rfl
noncomputable def itr(f:Int->Int):Nat->Int->Int
 |0,e=>e
 |n+1,e=>f (itr f n e)
theorem BI(f)m e:∀n:Nat,itr f (n+m) e=itr f n (itr f m e)
 |0=>by rw[cA];rfl
 |n+1=>by rw[Nat.add_right_comm];show f (itr f (n+m) e)=f (itr f n (itr f m e));rw[BI f m e n]
theorem Wq:∀(l E:Ϝ),l.Nodup->(∀x∈l,x∈E)->l.length<=E.length
 | [],E,_,_=>bb _
 |x::l,E,hn,h=>by
  have n:=ak.mp hn;have s:=h x (aq ..);have u:=Wq l (E.erase x) n.2 (λy t=>by
   refine(List.mem_erase_of_ne ?_).mpr (h y (mCo _ t));intro e;exact n.1 (e ▸ t))
  rw[List.length_erase_of_mem s]at u;have:=iy s;rw[lCq];lia
def YM{p:Nat->Prop}:∀n,p n->∃m,m<=n/\p m/\∀j,j<m->¬ p j:=by
 intro n
 induction n using Nat.strongRecOn with
 |_ n t=>
  intro h
  by_cases c:∃j,j<n/\p j
  .obtain⟨j,l,s⟩:=c;obtain⟨m,z,u,x⟩:=t j l s;exact⟨m,by lia,u,x⟩
  .exact⟨n,ae _,h,λj l s=>c ⟨j,l,s⟩⟩
structure Rg (f:Int->Int)(E:Ϝ):Prop where
 nd:E.Nodup
 to:∀e∈E,f e∈E
 inj:∀a∈E,∀b∈E,f a=f b->a=b
theorem Rg.itr_mem(h:Rg f E)(l:e∈E):∀n,itr f n e∈E
 |0=>l
 |n+1=>h.to _ (h.itr_mem l n)
theorem Rg.itr_inj(h:Rg f E)(ha:a∈E)(hb:b∈E):∀n,itr f n a=itr f n b->a=b
 |0,e=>e
 |n+1,e=>h.itr_inj ha hb n (h.inj _ (h.itr_mem ha n) _ (h.itr_mem hb n) e)
def Rg.cut(h:Rg f E)(l:e∈E)(n:i<=j)(q:itr f i e=itr f j e):itr f (j-i) e=e:=by
 have s:itr f j e=itr f i (itr f (j-i) e):=by rw[←BI];congr 1;lia
 rw[s]at q;exact(h.itr_inj l (h.itr_mem l _) i q).symm
structure Cy (f:Int->Int)(e:Int)(l:Ϝ):Prop where
 len:1<=l.length
 get:l=(bT l.length).map λn=>itr f n e
 back:itr f l.length e=e
 nd:l.Nodup
def Rg.cy(h:Rg f E)(t:e∈E):∃l,Cy f e l/\l.length<=E.length/\∀j,0<j->j<l.length->itr f j e≠e:=by
 have u:∃k,1<=k/\k<=E.length/\itr f k e=e:=by
  by_cases c:((bT (E.length+1)).map λn=>itr f n e).Nodup
  .have:=Wq _ E c (λx H=>by obtain⟨n,_,rfl⟩:=mMq.mp H;exact h.itr_mem t n)
   rw[lMq,bq]at this;lia
  .rw[aG,bD]at c;have:∃i j,i<j/\j<E.length+1/\itr f i e=itr f j e:=by
    by_cases d:∃i j,i<j/\j<E.length+1/\itr f i e=itr f j e
    .exact d
    .exfalso;refine c ?_;refine bo.imp_of_mem (λ{a b} ha hb hab q=>d ⟨a,b,hab,fj.mp hb,q⟩) iB
   obtain⟨i,j,z,B,q⟩:=this;exact⟨j-i,by lia,by lia,h.cut t (bZ z) q⟩
 obtain⟨k,I,P,J⟩:=u;obtain⟨m,Q,⟨L,M⟩,G⟩:=YM (p:=λk=>1<=k/\itr f k e=e) k ⟨I,J⟩
 refine⟨(bT m).map λn=>itr f n e,⟨by rw[lMq,bq];exact L,by rw[lMq,bq],by rw[lMq,bq];exact M,?_⟩,by rw[lMq,bq];lia,λj B s q=>?_⟩
 .rw[aG,bD];refine bo.imp_of_mem (λ{a b} ha hb hab q=>?_) iB
  have O:=fj.mp hb;exact G (b-a) ∅ ⟨by lia,h.cut t (bZ hab) q⟩
 .rw[lMq,bq]at s;exact G j s ⟨B,q⟩
def Cy.at(h:Cy f e l)(hi:i<l.length):l[i]?=some (itr f i e):=by
 have n:=congrArg (λx=>x[i]?) h.get
 rw[n,gMq,eU hi];rfl
def Cy.one(h:Cy f e l)(h':Cy f e n):l=n:=by
 have key:∀{l n:Ϝ},Cy f e l->Cy f e n->¬ l.length<n.length:=λ{l n} h h' hlt=>by
  have t:=h'.at (i:=0) ∅
  have s:=h'.at hlt;rw[h.back]at s;have:=h'.nd;have u:=(List.getElem?_inj (i:=0) (j:=l.length) ∅ this).mp (by rw[t,s];rfl)
  have:=h.len;lia
 have x:=key h h';have z:=key h' h;have hl:l.length=n.length:=by lia
 rw[h.get,h'.get,hl]
def Cy.self(h:Cy f e l):e∈l:=mGq (h.at (i:=0) (by have:=h.len;lia))
def Cy.rot(h:Cy f e l)(u:j<l.length):Cy f (itr f j e) (l.drop j++l.take j):=by
 have n:(l.drop j++l.take j).length=l.length:=by rw[lAq,aC,lTq];lia
 refine⟨by rw[n];exact h.len,?_,?_,?_⟩
 .refine fu λi=>?_
  rw[n,gMq]
  by_cases hi:i<l.length
  .rw[eU hi,cw,←BI]
   by_cases s:i<l.length-j
   .rw[gZq (by rw[aC];exact s),dm,h.at ∅,gk j i]
   .rw[gYq (by rw[aC];lia),aC,cG ∅,h.at ∅]
    have t:i+j=(i-(l.length-j))+l.length:=by lia
    rw[t,BI,h.back]
  .rw[bJ ∅,bJ (by rw[bq];lia)]
   rfl
 .rw[n,←BI,gk,BI,h.back]
 .exact bQ.nodup_iff.mpr (by rw[aT];exact h.nd)
theorem Cy.good(h:Cy f e l)(u:x∈l)(h':Cy f x t):Mr.good t=Mr.good l:=by
 obtain⟨j,s⟩:=bK.mp u;have n:=(gSq.mp s).1;rw[h.at n]at s;have r:=h.rot n;rw[aY.inj s]at r;rw[h'.one r];exact Kq h.nd j
structure O3 (f:Int->Int)(E:Ϝ)(L:Λ):Prop where
 cy:∀l∈L,∃e,Cy f e l
 dj:L.flatten.Nodup
 all:∀x,x∈L.flatten↔x∈E
theorem UG:∀{L:Λ},L.flatten.Nodup->L.Pairwise λa b=>∀x∈a,∀y∈b,x≠y
 | [],_=>bo.nil
 |a::L,h=>by
  rw[fCq,nAq]at h;exact cf.mpr ⟨λb hb x l y n=>h.2.2 x l y (mFq.mpr ⟨b,hb,n⟩),UG h.2.1⟩
def O3.nd(h:O3 f E L):(L.map Mr.good).Nodup:=by
 rw[aG,bD];have hd:=UG h.dj;refine bo.imp_of_mem (λ{a b} ha hb hab q=>?_) hd
 obtain⟨e,c⟩:=h.cy a ha;have l:=(vt a).mem_iff.mpr c.self;rw[q]at l;exact hab e c.self e ((vt b).mem_iff.mp l) rfl
def O3.sub(x:Rg f E)(h:O3 f E L)(h':O3 f E M)(s:y∈L.map Mr.good):y∈M.map Mr.good:=by
 obtain⟨l,hl,rfl⟩:=mMq.mp s;obtain⟨e,c⟩:=h.cy l hl;have t:=(h.all e).mp (mFq.mpr ⟨l,hl,c.self⟩);obtain⟨m,hm,n⟩:=mFq.mp ((h'.all e).mpr t);obtain⟨z,u⟩:=h'.cy m hm;exact mMq.mpr ⟨m,hm,(u.good n c).symm⟩
def O3.perm(l:Rg f E)(h:O3 f E L)(h':O3 f E M):(L.map Mr.good).Perm (M.map Mr.good):=
 (cx h.nd h'.nd).mpr λy=>⟨h.sub l h',h'.sub l h⟩
end Zl
namespace K13
open PySem L2 Mr Z Xe
def Qc:MS:=(Rz 1 (C0 2))
def WH:MX:=(wV (Dp (pR 1 (sZ oV)))
 (wV (Dp (ET 2 (oW 0) Qc))
 (D9 Zl.Rv (oE (oW 1) oV))))
def JD:vH:=uH 1 3 WH
def G7:MS:=(oZ (wZ (xy (Pa (oH 0))) (qh (sZ oV)) pX)
 (oZ (pR 1 (kSc (rBM "list" BN (oH 0) (oK (ze WJ (oK (oH 0) ph)) ph))))
 (qh (D7 (lOf (Py (wj 0) (yd (oH 1)) zb)) (lOf (Py (wj 0) zb (yd (oH 1))))))))
def A5:MF:=tj 1 2 G7
def QD:MS:=(qh (IJ (xQ (D8 (oW 0)) [] xp (pJ K13.A5 (oE (oW 0) oV)))))
def Aj:MF:=tj 1 1 QD
def xJ(fm:MF):MS:=(wZ (xy (tJ (uB fm (oK (qe vk (oH 0) (oH 2)) (oK (qe vk (oH 1) (oH 2)) ph))))) (qh (kSc (rC (.bl false)))) pX)
def uG(fm:MF):MS:=(oZ (wZ (M5 (tJ (ze uW (oK (oH 1) (oK (rC (.ty "list")) ph)))) (tJ (ze uW (oK (oH 1) (oK (rC (.ty "tuple")) ph))))) (oZ (wZ (M5 (tJ (qe WZ (ze uW (oK (oH 0) (oK (rC (.ty "list")) ph))) (ze uW (oK (oH 1) (oK (rC (.ty "list")) ph))))) (tJ (qe WZ (ze uW (oK (oH 0) (oK (rC (.ty "tuple")) ph))) (ze uW (oK (oH 1) (oK (rC (.ty "tuple")) ph)))))) (qh (kSc (rC (.bl false)))) pX) (oZ (wZ (tJ (qe WZ (ze vZ (oK (oH 0) ph)) (ze vZ (oK (oH 1) ph)))) (qh (kSc (rC (.bl false)))) pX) (oZ (Hw 2 (oK (ze vZ (oK (oH 1) ph)) ph) (xJ fm)) (qh (kSc (rC (.bl true))))))) pX)
 (oZ (wZ (tJ (qe FP (oH 1) (rC .non))) (qh (kSc (qe FP (oH 0) (rC .non)))) pX)
 (oZ (wZ (tJ (ze uW (oK (oH 1) (oK (rC (.ty "str")) ph)))) (qh (kSc (Qr (ze uW (oK (oH 0) (oK (rC (.ty "str")) ph))) (qe CI (oH 0) (oH 1))))) pX)
 (qh (kSc (Qr (ze uW (oK (oH 0) (oK (rC (.ty "int")) ph))) (Qr (ag9 (ze uW (oK (oH 0) (oK (rC (.ty "bool")) ph)))) (qe CI (oH 0) (oH 1)))))))))
def rE(fm:MF):MF:=tj 2 3 (uG fm)
def rP:MF:=(rE (rE (rE (rE Z.XW))))
end K13
namespace K51
open PySem L2 Mr Z Xe
def EU:MS:=(Ay 1 (oH 3) (oW 4))
def EI:MS:=(Yg 3 4 (oW 2) (D7 (lOf (Py (wj 2) (yd (rC (.int 1))) zb)) (lOf (Py (wj 2) zb (yd (rC (.int 1)))))) EU)
def QI:MS:=(oZ (pR 1 As)
 (oZ (ET 2 (oW 0) EI)
 (qh (Ba 1))))
def IG:MF:=tj 1 5 QI
def NA:MS:=(oZ (pR 7 (kSc (FG (oH 2) (vJ wu (oH 6))))) (wZ (tJ (vC (oH 7) (oH 3))) (oZ (Ay 3 (oH 7) (kSc (rC (.bl true)))) (zf 4 (oW 7))) pX))
def Np:MS:=(oZ (akt 5 (LB 4)) (ET 6 (Xp (wj 0) (oH 5)) NA))
def RK:MS:=(oZ (pR 2 (pJ Zl.Qg (oE (oW 0) oV)))
 (oZ (pR 3 (aiy (oH 1) (kSc (rC (.bl true)))))
 (oZ (pR 4 (sZ (oE (oW 1) oV)))
 (oZ (vL (tJ (qe dGt (ze vZ (oK (oH 4) ph)) (rC (.int 0)))) Np 100000)
 (qh (ahG (oH 3)))))))
def VI:MF:=tj 2 8 RK
def PM:MS:=(Ay 1 (oH 5) (kSc (rC (.bl true))))
def Pj:MS:=(wZ (tJ (vC (oH 3) (oH 1))) (oZ (pR 4 (pJ K51.VI (oE (oW 0) (oE (oW 3) oV)))) (oZ (ET 5 (oW 4) PM) (zf 2 (xQ (D8 (oW 4)) [0] xp (HN (lOf (Xp (wj 1) (oH 0)))))))) pX)
def W8:MS:=(oZ (pR 1 As)
 (oZ (pR 2 (sZ oV))
 (oZ (Hw 3 (oK (ze vZ (oK (oH 0) ph)) ph) Pj)
 (qh (Ba 2)))))
def Ys:MF:=tj 1 6 W8
def LU:MS:=(qh (xQ (D8 (oW 0)) [] xp (HN (wj 0))))
def Bk:MF:=tj 1 1 LU
end K51
namespace K12
open PySem L2 Mr Z Xe
def En:MS:=(oZ (pR 1 (kSc (rC (.int 1))))
 (oZ (pR 2 (kSc (rC (.int 0))))
 (oZ (wZ (tJ (qe dGt (qe xZ (uB Zl.pO (oK (oH 0) (oK (rC (.int 0)) ph))) (rC (.int 3))) (rC (.int 0)))) (oZ (pR 1 (kSc (qe yN (rC (.int 1)) (qe xZ (uB Zl.pO (oK (oH 0) (oK (rC (.int 1)) ph))) (qe Ie (rC (.int 10)) (rC (.int 58))))))) (pR 2 (kSc (qe xZ (uB Zl.pO (oK (oH 0) (oK (rC (.int 2)) ph))) (qe Ie (rC (.int 10)) (rC (.int 58))))))) pX)
 (oZ (pR 3 (kSc (qe yN (rC (.int 1)) (qe xZ (qe GR (uB Zl.pO (oK (oH 0) (oK (rC (.int 0)) ph))) (rC (.int 3))) (rC (.int 66))))))
 (oZ (pR 4 (kSc (qe xZ (qe GR (uB Zl.pO (oK (oH 0) (oK (rC (.int 0)) ph))) (rC (.int 198))) (rC (.int 67)))))
 (qh (xQ (iR1 (oK (rC (.int 66)) ph)) [2,1,4,3] xp (kSc (qe yN (qe K4 (oH 2) (qe yN (qe xZ (qe yN (qe K4 (oH 4) (oH 0)) (oH 3)) (rC (.int 67))) (rC (.int 1)))) (oH 1))))))))))
def Bd:MF:=tj 1 5 En
def vb:MS:=(oZ (pR 7 (kSc (qe xZ (oH 6) (rC (.int 8))))) (ac9 8 2 (pIx 2 (pIx 2 (RU 2) (vJ wu (rC (.int 1)))) (qe HC (oH 3) (vJ wu (rC (.int 1))))) (WE 2 (pR 9 (kSc (qe HC (oH 1) (oH 5)))) (WE 2 (wZ (tJ (qe CI (qe xZ (qe GR (oH 6) (rC (.int 8))) (rC (.int 2))) (rC (.int 1)))) (pR 9 (kSc (vJ wu (oH 9)))) pX) (K3 2 (tJ (qe Wx (oH 7) (rC (.int 4)))) (λpath=>oZ ((T5 2 (oW 9)) path) (oZ (pR 5 (kSc (qe yN (oH 5) (rC (.int 1))))) (wZ (tJ (qe Wx (oH 7) (rC (.int 2)))) (zf 4 (kSc (vJ wu (oH 9)))) (oZ (zf 3 (kSc (ze vZ (oK (qe HC (oH 2) (vJ wu (rC (.int 1)))) ph)))) (Ua 2 (pIx 2 (RU 2) (vJ wu (rC (.int 1)))) (sZ (oE (kSc (vJ wu (oH 9))) oV))))))) (K3 2 (tJ (qe Wx (oH 7) (rC (.int 6)))) (K3 2 (Pa (oH 4)) (MD 2 (FH 4 (qe xZ (qe GR (oH 6) (rC (.int 16))) (ze vZ (oK (oH 4) ph))))) (λ_=>pX)) (K3 2 (tJ (qe CI (oH 7) (rC (.int 6)))) (λ_=>(wZ (tJ (qe dGt (ze vZ (oK (oH 3) ph)) (rC (.int 1)))) (NQ (LB 3)) pX)) (λpath=>oZ ((UO 2 (C0 4)) path) (oZ (pR 4 (sZ oV)) (oZ (zf 2 (sZ (oE (sZ oV) oV))) (pR 3 (sZ (oE (kSc (rC (.int 0))) oV)))))))))))))
def JB:MS:=(oZ (pR 2 (sZ (oE (sZ (oE (sZ oV) oV)) oV)))
 (oZ (pR 3 (sZ (oE (kSc (rC (.int 0))) oV)))
 (oZ (pR 4 (sZ oV))
 (oZ (pR 5 (kSc (rC (.int 0))))
 (oZ (ET 6 (oW 0) vb)
 (oZ (Y5 2 (pIx 2 (pIx 2 (RU 2) (vJ wu (rC (.int 1)))) (qe HC (oH 3) (vJ wu (rC (.int 1))))) (C0 4))
 (qh (Ba 2))))))))
def DL:MF:=tj 2 10 JB
end K12
namespace K15
open PySem L2 Mr Z
def Bu:MS:=(Ay 2 (oH 3) (kSc (NC (oH 1) (vJ wu (oH 3)))))
def Kp:MS:=(oZ (pR 1 (pJ K51.IG (oE (oW 0) oV)))
 (oZ (pR 2 As)
 (oZ (U4 3 1 Bu)
 (qh (Ba 2)))))
def DE:MF:=tj 1 4 Kp
def yP:MS:=(oZ (zf 2 (oW 3)) (pR 3 (kSc (FG (oH 0) (oH 3)))))
def El:MS:=(oZ (pR 2 (sZ (oE (oW 1) oV)))
 (oZ (pR 3 (kSc (FG (oH 0) (oH 1))))
 (oZ (vL (tJ (qe WZ (oH 3) (oH 1))) yP 100000)
 (qh (Ba 2)))))
def zo:MF:=tj 2 4 El
def Ck:MS:=(Ay 2 (oH 6) (kSc (rC (.bl true))))
def zZ:MS:=(wZ (tJ (vC (oH 4) (oH 2))) (oZ (pR 5 (pJ K15.zo (oE (oW 1) (oE (oW 4) oV)))) (oZ (ET 6 (oW 5) Ck) (zf 3 (oW 5)))) pX)
def Ph:MS:=(oZ (pR 1 (pJ K15.DE (oE (oW 0) oV)))
 (oZ (pR 2 As)
 (oZ (pR 3 (xQ (D8 (oW 0)) [] (tJ (qe CI (ze vZ (oK (oH 0) ph)) (rC (.int 0)))) (sZ oV)))
 (oZ (ET 4 (pJ Zl.DH (oE (oW 0) oV)) zZ)
 (qh (pJ Zl.su (oE (oW 3) oV)))))))
def sQ:MF:=tj 1 7 Ph
def BK:MS:=(Ay 1 (qe HC (oH 2) (oH 3)) (kSc (qe HC (oH 2) (qe xZ (qe yN (oH 3) (rC (.int 1))) (ze vZ (oK (oH 2) ph))))))
def Bz:MS:=(Hw 3 (oK (ze vZ (oK (oH 2) ph)) ph) BK)
def KD:MS:=(oZ (pR 1 As)
 (oZ (ET 2 (oW 0) Bz)
 (qh (Ba 1))))
def AX:MF:=tj 1 4 KD
def zj:MS:=(oZ (Ay 2 (oH 6) (kSc (rC (.bl true)))) (oZ (zf 5 (oW 6)) (pR 6 (kSc (NC (oH 1) (vJ wu (oH 6)))))))
def xu:MS:=(wZ (tJ (vC (oH 4) (oH 2))) (oZ (pR 5 (sZ oV)) (oZ (pR 6 (oW 4)) (oZ (vL (tJ (vC (oH 6) (oH 2))) zj 100000) (zf 3 (oW 5))))) pX)
def JA:MS:=(oZ (pR 1 (pJ K15.AX (oE (oW 0) oV)))
 (oZ (pR 2 As)
 (oZ (pR 3 (xQ (D8 (oW 0)) [] (xy (Pa (oH 0))) (sZ oV)))
 (oZ (U4 4 1 xu)
 (qh (pJ K13.Aj (oE (oW 3) oV)))))))
def wa:MF:=tj 1 7 JA
end K15
namespace K16
open PySem L2 Mr Z
def B6:MS:=(oZ (pR 2 (kSc (qe yN (qe yN (oH 2) (rC (.int 1))) (qe xZ (oH 3) (qe Ie (rC (.int 10)) (rC (.int 57))))))) (oZ (pR 3 (kSc (qe Zr (oH 3) (qe Ie (rC (.int 10)) (rC (.int 57)))))) (Rz 4 (lOf (sZ (oE (oW 2) (oE (kSc (vJ wu (oH 2))) oV)))))))
def B8:MS:=(oZ (Sv 7 (oH 8) (FH 6 (qe xZ (oH 3) (ze vZ (oK (oH 6) ph))))) (pR 3 (kSc (qe GR (oH 3) (qe yN (ze vZ (oK (oH 6) ph)) (rC (.int 1)))))))
def BQ:MS:=(oZ (Ay 10 (oH 8) (kSc (rC (.bl true)))) (oZ (zf 11 (oW 8)) (pR 8 (kSc (FG (oH 7) (oH 8))))))
def Ac:MS:=(oZ (pR 11 (sZ oV)) (oZ (vL (tJ (vC (oH 8) (oH 10))) BQ 100000) (wZ (Pa (oH 11)) (zf 9 (oW 11)) pX)))
def zV:MS:=(oZ (wZ (tJ (vC (oH 2) (oH 10))) (zf 12 (oW 2)) pX) (pR 2 (kSc (qe yN (oH 2) (rC (.int 1))))))
def Q5:MS:=(oZ (pR 1 (kSc (qe xZ (uB Zl.pO (oK (oH 0) (oK (rC (.int 1)) ph))) (rC (.int 31)))))
 (oZ (pR 2 (kSc (rC (.int 0))))
 (oZ (pR 3 (kSc (uB Zl.pO (oK (oH 0) (oK (rC (.int 2)) ph)))))
 (oZ (pR 4 (sZ oV))
 (oZ (Hw 5 (oK (oH 1) ph) B6)
 (oZ (pR 6 (HN (wj 4)))
 (oZ (pR 3 (kSc (uB Zl.pO (oK (oH 0) (oK (rC (.int 3)) ph)))))
 (oZ (pR 7 As)
 (oZ (ET 8 (oW 4) B8)
 (oZ (pR 9 (sZ oV))
 (oZ (pR 10 As)
 (oZ (ET 8 (oW 4) Ac)
 (oZ (pR 12 (sZ oV))
 (oZ (pR 2 (kSc (qe yN (rC (.int 1)) (qe xZ (uB Zl.pO (oK (oH 0) (oK (rC (.int 4)) ph))) (qe Ie (rC (.int 10)) (rC (.int 59)))))))
 (oZ (vL (tJ (qe Wx (ze vZ (oK (oH 12) ph)) (rC (.int 66)))) zV 100000)
 (qh (wz (oE (D7 (C0 9) (lOf (xQ (iR1 (oK (qe xZ (qe GR (uB Zl.pO (oK (oH 0) (oK (rC (.int 1)) ph))) (rC (.int 31))) (rC (.int 4))) ph)) [] xp (sZ oV)))) (oE (oW 12) oV)))))))))))))))))))
def IA:MF:=tj 1 13 Q5
end K16
namespace K23
open PySem L2 Mr Z Xe
def mf_settled:MX:=(wV (yX Zl.rL (oE (oW 0) oV))
 (Dp (qh (pJ Zl.su (oE (oW 0) oV)))))
def f_settled:vH:=uH 1 1 mf_settled
def Ew:MS:=(qh (xQ (D8 (oW 0)) [1] (tJ (qe (Fv true) (oH 0) (oH 1))) (oW 0)))
def xg:MF:=tj 2 2 Ew
def wJ:MX:=(wV (TY (tJ (qe (Fv true) (oH 1) (rOf (pJ Zl.rN (oE (oW 0) oV))))) (CK "NotThere" "end" (oK (oH 1) ph)) (Dp pX))
 (D9 K23.f_settled (oE (xQ (D8 (oW 0)) [1] xp (pJ K23.xg (oE (oW 0) (oE (wz (oE (oW 1) (oE (kSc (vJ wu (oH 1))) oV))) oV)))) oV)))
def qW:vH:=uH 2 2 wJ
def CP:MX:=(D9 K23.qW (oE (oW 1) (oE (kSc (vJ (uC "Cut" "road") (oH 0))) oV)))
def rO:vH:=uH 2 2 CP
def xx:MX:=(yX K23.rO (yU "Cut" "done" (oW 0) (oE (oW 1) oV)))
def uc:vH:=uH 2 2 xx
def Hj:MS:=(oZ (pR 1 (sZ oV))
 (oZ (wZ (xy (tJ (ze K5 (oK (oH 0) (oK (rC (.ty "ValueError")) ph))))) (zf 1 (wz (oE (kSc (rC (.str "plain"))) (oE (kSc (rC (.int 0))) oV)))) pX)
 (oZ (wZ (tJ (ze K5 (oK (oH 0) (oK (WG "Taken") ph)))) (zf 1 (wz (oE (kSc (rC (.str "taken"))) (oE (kSc (vJ (L3 "road") (oH 0))) oV)))) pX)
 (oZ (wZ (tJ (ze K5 (oK (oH 0) (oK (WG "NotThere") ph)))) (zf 1 (wz (oE (kSc (rC (.str "there"))) (oE (kSc (vJ (L3 "end") (oH 0))) oV)))) pX)
 (oZ (wZ (tJ (ze K5 (oK (oH 0) (oK (WG "NoPlace") ph)))) (zf 1 (wz (oE (kSc (rC (.str "place"))) (oE (kSc (rC (.int 0))) oV)))) pX)
 (oZ (wZ (tJ (ze K5 (oK (oH 0) (oK (WG "TooMany") ph)))) (zf 1 (wz (oE (kSc (rC (.str "many"))) (oE (kSc (rC (.int 0))) oV)))) pX)
 (qh (Ba 1))))))))
def xW:MF:=tj 1 2 Hj
end K23
namespace K21
open PySem L2 Mr Z Xe
def Hc:MS:=(oZ (wZ (tJ (qe (Fv true) (oH 2) (oH 0))) (qh (Ba 0)) pX)
 (oZ (pR 3 (kSc (qe yN (rBM "list" BN (oH 0) (oK (oH 2) ph)) (rC (.int 1)))))
 (qh (D7 (lOf (D7 (lOf (Py (wj 0) zb (yd (oH 3)))) (lOf (sZ (oE (oW 1) oV))))) (lOf (Py (wj 0) (yd (oH 3)) zb))))))
def A6:MF:=tj 3 4 Hc
def AE:MX:=(wV (TY (tJ (qe (Fv true) (oH 2) (rOf (pJ Zl.rN (oE (oW 0) oV))))) (CK "NotThere" "end" (oK (oH 2) ph)) (Dp pX))
 (Dp (qh (xQ (D8 (oW 0)) [1,2] xp (pJ K21.A6 (oE (oW 0) (oE (oW 1) (oE (oW 2) oV))))))))
def xw:vH:=uH 3 3 AE
def B2:MX:=(wV (TY (tJ (aaq true (oH 0))) (BE "NoPlace") (Dp pX))
 (wV (Dp (pR 2 (kSc (Pw (oH 0)))))
 (Dp (qh (D7 (lOf (D7 (lOf (Py (wj 0) zb (yd (oH 2)))) (lOf (sZ (oE (sZ (oE (oW 1) oV)) oV))))) (lOf (Py (wj 0) (yd (qe yN (oH 2) (rC (.int 1)))) zb)))))))
def yD:vH:=uH 2 3 B2
def Aa:MX:=(wV (TY (tJ (qe FP (oH 2) (rC .non))) (D9 K21.yD (oE (oW 0) (oE (oW 1) oV))) (Dp pX))
 (D9 K21.xw (oE (oW 0) (oE (oW 1) (oE (oW 2) oV)))))
def vW:vH:=uH 3 3 Aa
def ux:MX:=(wV (TY (tJ (qe (Fv false) (oH 1) (rOf (pJ Zl.rN (oE (oW 0) oV))))) (CK "Taken" "road" (oK (oH 1) ph)) (Dp pX))
 (wV (aho 4 K21.vW (oE (oW 0) (oE (oW 1) (oE (oW 2) oV))))
 (ZM K23.f_settled K21.vW (oE (oW 4) (oE (kSc (vJ wu (oH 1))) (oE (oW 3) oV))))))
def qZ:vH:=uH 4 5 ux
def HP:MS:=(qh (wz (oE (kSc (rC (.str "put"))) (oE (kSc (vJ (uC "Put" "road") (oH 0))) (oE (kSc (vJ (uC "Put" "first") (oH 0))) (oE (kSc (vJ (uC "Put" "second") (oH 0))) oV))))))
def wU:MF:=tj 1 1 HP
def uu:MX:=(D9 K21.qZ (oE (oW 1) (oE (kSc (vJ (uC "Put" "road") (oH 0))) (oE (kSc (vJ (uC "Put" "first") (oH 0))) (oE (kSc (vJ (uC "Put" "second") (oH 0))) oV)))))
def pZ:vH:=uH 2 2 uu
end K21
namespace K22
open PySem L2 Mr Z Xe
def vx:MX:=(yX K21.pZ (yU "Put" "done" (oW 0) (oE (oW 1) oV)))
def sJ:vH:=uH 2 2 vx
def Ei:MS:=(qh (zP "Put" ["road","first","second"] (oK (vJ (uC "Part" "road") (oH 0)) (oK (vJ (uC "Part" "first") (oH 0)) (oK (vJ (uC "Part" "second") (oH 0)) ph)))))
def uZ:MF:=tj 1 1 Ei
def xH:MX:=(Uj K15.sQ K21.pZ (yU "Put" "done" (pJ K22.uZ (yU "Part" "other" (oW 0) oV)) (oE (pJ K15.sQ (oE (oW 1) oV)) oV)))
def ud:vH:=uH 2 2 xH
def C7:MX:=(wV (yX K22.sJ (oE (oW 0) (oE (oW 1) oV)))
 (Dp (qh (zP "Cut" ["road"] (oK (vJ (uC "Put" "road") (oH 0)) ph)))))
def rh:vH:=uH 2 2 C7
def Eh:MS:=(oZ (pR 2 (kSc (rC .non)))
 (oZ (pR 3 (kSc (rC .non)))
 (oZ (QX 3 K21.pZ (yU "Put" "done" (oW 0) (oE (oW 1) oV)) (xAs "MapError" 4 (pR 2 (pJ K23.xW (oE (oW 4) oV))) adF))
 (oZ (wZ (tJ (qe FP (oH 2) (rC .non))) (qh (sZ (oE (kSc (rC (.str "map"))) (oE (Ba 3) oV)))) pX)
 (qh (sZ (oE (kSc (rC (.str "refused"))) (oE (Ba 2) oV))))))))
def Fz:MF:=tj 2 5 Eh
def BP:MX:=(D9 K22.ud (oE (oW 0) (oE (oW 1) oV)))
def tU:vH:=uH 2 2 BP
def Ej:MS:=(oZ (pR 2 (kSc (rC .non)))
 (oZ (pR 3 (kSc (rC .non)))
 (oZ (QX 3 K22.rh (yU "Put" "back" (oW 0) (oE (oW 1) oV)) (xAs "MapError" 4 (pR 2 (pJ K23.xW (oE (oW 4) oV))) adF))
 (oZ (wZ (tJ (qe FP (oH 2) (rC .non))) (qh (sZ (oE (kSc (rC (.str "back"))) (oE (Ba 3) oV)))) pX)
 (qh (sZ (oE (kSc (rC (.str "refused"))) (oE (Ba 2) oV))))))))
def E6:MF:=tj 2 5 Ej
def Hz:MS:=(qh (wz (oE (kSc (rC (.str "cut"))) (oE (kSc (vJ (uC "Cut" "road") (oH 0))) oV))))
def wX:MF:=tj 1 1 Hz
end K22
namespace K25
open PySem L2 Mr Z Xe
def KS:MS:=(qh (zP "Cut" ["road"] (oK (vJ (uC "Draw" "road") (oH 0)) ph)))
def wc:MF:=tj 1 1 KS
def B1:MX:=(Uj K15.sQ K23.rO (yU "Cut" "done" (pJ K25.wc (yU "Draw" "other" (oW 0) oV)) (oE (pJ K15.sQ (oE (oW 1) oV)) oV)))
def xn:vH:=uH 2 2 B1
def Cc:MX:=(D9 K25.xn (oE (oW 0) (oE (oW 1) oV)))
def tW:vH:=uH 2 2 Cc
def Fu:MS:=(qh (wz (oE (kSc (rC (.str "draw"))) (oE (kSc (vJ (uC "Draw" "road") (oH 0))) oV))))
def vM:MF:=tj 1 1 Fu
end K25
namespace K26
open PySem L2 Mr Z Xe
def Gw:MS:=(oZ (wZ (tJ (qe CI (ze vZ (oK (oH 0) ph)) (rC (.int 1)))) (qh (kSc (rC .non))) pX)
 (qh (kSc (qe HC (oH 0) (qe aeg (rBM "list" BN (oH 0) (oK (oH 1) ph)) (rC (.int 1)))))))
def yL:MF:=tj 2 2 Gw
def Gj:MS:=(qh (Xp (lOf (xQ (D8 (oW 0)) [1] (tJ (qe (Fv false) (oH 1) (oH 0))) (oW 0))) (rC (.int 0))))
def yA:MF:=tj 2 2 Gj
def C1:MS:=(qh (pJ K26.yL (oE (pJ K23.xg (oE (pJ K26.yA (oE (oW 0) (oE (oW 1) oV))) (oE (wz (oE (kSc (vJ wu (oH 1))) oV)) oV))) (oE (oW 1) oV))))
def vq:MF:=tj 2 2 C1
def Cu:MS:=(qh (pJ K26.yL (oE (pJ K26.yA (oE (oW 0) (oE (kSc (vJ wu (oH 1))) oV))) (oE (kSc (vJ wu (oH 1))) oV))))
def uV:MF:=tj 2 2 Cu
def mf_with_place:MX:=(D9 K23.f_settled (oE (D7 (lOf (sZ (oE (sZ oV) oV))) (C0 0)) oV))
def f_with_place:vH:=uH 1 1 mf_with_place
def mf_without_place:MX:=(wV (TY (tJ (aaq true (oH 0))) (BE "NoPlace") (Dp pX))
 (wV (Dp (pR 1 (kSc (Pw (oH 0)))))
 (Dp (qh (pJ Zl.su (oE (D7 (lOf (Py (wj 0) zb (yd (oH 1)))) (lOf (Py (wj 0) (yd (qe yN (oH 1) (rC (.int 1)))) zb))) oV))))))
def f_without_place:vH:=uH 1 2 mf_without_place
def Ef:MX:=(D9 K26.f_with_place (oE (oW 1) oV))
def sX:vH:=uH 2 2 Ef
def xj:MX:=(yX K26.sX (yU "Found" "done" (oW 0) (oE (oW 1) oV)))
def tP:vH:=uH 2 2 xj
def Ce:MX:=(D9 K26.f_without_place (oE (oW 1) oV))
def rY:vH:=uH 2 2 Ce
def vf:MX:=(yX K26.rY (yU "Raze" "done" (oW 0) (oE (oW 1) oV)))
def rZ:vH:=uH 2 2 vf
def NL:MS:=(qh (zP "Draw" ["road"] (oK (vJ (uC "Cut" "road") (oH 0)) ph)))
def Ag:MF:=tj 1 1 NL
def xI:MX:=(Uo "Cut" "other" K26.Ag K22.rh (yU "Put" "back" (pJ K22.uZ (yU "Part" "other" (oW 0) oV)) (oE (pJ K15.sQ (oE (oW 1) oV)) oV)))
def uf:vH:=uH 2 2 xI
def Df:MX:=(wV (yX K23.uc (oE (oW 0) (oE (oW 1) oV)))
 (Dp (qh (zP "Put" ["road","first","second"] (oK (vJ (uC "Cut" "road") (oH 0)) (oK (rOf (pJ K26.vq (oE (oW 1) (oE (kSc (vJ (uC "Cut" "road") (oH 0))) oV)))) (oK (rOf (pJ K26.uV (oE (oW 1) (oE (kSc (vJ (uC "Cut" "road") (oH 0))) oV)))) ph)))))))
def sF:vH:=uH 2 2 Df
def GK:MS:=(qh (zP "Part" ["road","first","second"] (oK (vJ (uC "Put" "road") (oH 0)) (oK (vJ (uC "Put" "first") (oH 0)) (oK (vJ (uC "Put" "second") (oH 0)) ph)))))
def yB:MF:=tj 1 1 GK
def xR:MX:=(Uo "Put" "other" K26.yB K26.sF (yU "Cut" "back" (pJ K25.wc (yU "Draw" "other" (oW 0) oV)) (oE (pJ K15.sQ (oE (oW 1) oV)) oV)))
def ue:vH:=uH 2 2 xR
def tA(m c:Str)(f:vH):MS:=QX 3 f (yU c m (oW 0) (oE (oW 1) oV)) (xAs "MapError" 4 (pR 2 (pJ K23.xW (oE (oW 4) oV))) adF)
def dnA:MS:=IQ (tA "done" "Put" K21.pZ) (IQ (tA "done" "Cut" K23.rO) (IQ (tA "done" "Part" K22.tU) (IQ (tA "done" "Draw" K25.tW) (IQ (tA "done" "Found" K26.sX) (tA "done" "Raze" K26.rY)))))
def GT:MS:=(oZ (pR 2 (kSc (rC .non)))
 (oZ (pR 3 (kSc (rC .non)))
 (oZ dnA
 (oZ (wZ (tJ (qe FP (oH 2) (rC .non))) (qh (sZ (oE (kSc (rC (.str "map"))) (oE (Ba 3) oV)))) pX)
 (qh (sZ (oE (kSc (rC (.str "refused"))) (oE (Ba 2) oV))))))))
def yM:MF:=tj 2 5 GT
def wtl:MS:=(oZ (pR 7 (kSc (qe xZ (oH 0) (rC (.int 8)))))
 (oZ (wZ (tJ (qe CI (oH 7) (rC (.int 6)))) (qh (wz (oE (kSc (rC (.str "found"))) oV))) pX)
 (oZ (wZ (tJ (qe CI (oH 7) (rC (.int 7)))) (qh (wz (oE (kSc (rC (.str "raze"))) oV))) pX)
 (oZ (wZ (tJ (qe dGt (oH 7) (rC (.int 3)))) (oZ (pR 8 (D7 (lOf (xQ (D8 (oW 4)) [] (tJ (qe dGt (oH 0) (rC (.int 0)))) (oW 0))) (lOf (sZ (oE (oW 2) oV))))) (qh (wz (oE (kSc (qe HC (rOf (sZ (oE (kSc (rC (.str "cut"))) (oE (kSc (rC (.str "draw"))) oV)))) (qe aeg (oH 7) (rC (.int 4))))) (oE (kSc (qe HC (oH 8) (qe xZ (oH 5) (ze vZ (oK (oH 8) ph))))) oV))))) pX)
 (oZ (pR 9 (D7 (C0 4) (lOf (sZ (oE (kSc (rC .non)) oV)))))
 (oZ (pR 10 (Xp (wj 9) (qe xZ (oH 5) (ze vZ (oK (oH 9) ph)))))
 (oZ (zf 9 (oW 2))
 (oZ (pR 11 (Xp (wj 9) (qe xZ (oH 6) (ze vZ (oK (oH 9) ph)))))
 (qh (wz (oE (kSc (qe HC (rOf (sZ (oE (kSc (rC (.str "put"))) (oE (kSc (rC (.str "part"))) (oE (kSc (rC (.str "put"))) (oE (kSc (rC (.str "part"))) oV)))))) (oH 7))) (oE (oW 2) (oE (oW 10) (oE (oW 11) oV))))))))))))))
def EF:MS:=(oZ (pR 4 (pJ Zl.rN (oE (oW 1) oV)))
 (oZ (pR 5 (kSc (qe xZ (qe K4 (oH 0) (rC (.int 48271))) (rC (.int 2147483647)))))
 (oZ (pR 6 (kSc (qe GR (oH 5) (rC (.int 7919)))))
 (oZ (wZ (tJ (oH 3)) (oZ (pR 5 (kSc (qe GR (oH 0) (rC (.int 8))))) (pR 6 (kSc (qe GR (oH 5) (qe yN (ze vZ (oK (oH 4) ph)) (rC (.int 1))))))) pX)
 K26.wtl))))
def zr:MF:=tj 4 12 EF
def Bm:MS:=(oZ (wZ (tJ (qe CI (qe vk (oH 0) (rC (.int 0))) (rC (.str "put")))) (qh (zP "Put" ["road","first","second"] (oK (qe vk (oH 0) (rC (.int 1))) (oK (qe vk (oH 0) (rC (.int 2))) (oK (qe vk (oH 0) (rC (.int 3))) ph))))) pX)
 (oZ (wZ (tJ (qe CI (qe vk (oH 0) (rC (.int 0))) (rC (.str "part")))) (qh (zP "Part" ["road","first","second"] (oK (qe vk (oH 0) (rC (.int 1))) (oK (qe vk (oH 0) (rC (.int 2))) (oK (qe vk (oH 0) (rC (.int 3))) ph))))) pX)
 (oZ (wZ (tJ (qe CI (qe vk (oH 0) (rC (.int 0))) (rC (.str "cut")))) (qh (zP "Cut" ["road"] (oK (qe vk (oH 0) (rC (.int 1))) ph))) pX)
 (oZ (wZ (tJ (qe CI (qe vk (oH 0) (rC (.int 0))) (rC (.str "draw")))) (qh (zP "Draw" ["road"] (oK (qe vk (oH 0) (rC (.int 1))) ph))) pX)
 (oZ (wZ (tJ (qe CI (qe vk (oH 0) (rC (.int 0))) (rC (.str "found")))) (qh (zP "Found" [] ph)) pX)
 (qh (zP "Raze" [] ph)))))))
def yG:MF:=tj 1 1 Bm
def BL:MX:=(D9 K26.uf (oE (oW 0) (oE (oW 1) oV)))
def tX:vH:=uH 2 2 BL
def B7:MX:=(D9 K26.ue (oE (oW 0) (oE (oW 1) oV)))
def tT:vH:=uH 2 2 B7
def Ec:MX:=(wV (yX K26.tP (oE (oW 0) (oE (oW 1) oV)))
 (Dp (qh (zP "Raze" [] ph))))
def uE:vH:=uH 2 2 Ec
def Cq:MX:=(wV (yX K26.rZ (oE (oW 0) (oE (oW 1) oV)))
 (Dp (qh (zP "Found" [] ph))))
def tV:vH:=uH 2 2 Cq
def bkA:MS:=IQ (tA "back" "Put" K22.rh) (IQ (tA "back" "Cut" K26.sF) (IQ (tA "back" "Part" K26.tX) (IQ (tA "back" "Draw" K26.tT) (IQ (tA "back" "Found" K26.uE) (tA "back" "Raze" K26.tV)))))
def G9:MS:=(oZ (pR 2 (kSc (rC .non)))
 (oZ (pR 3 (kSc (rC .non)))
 (oZ bkA
 (oZ (wZ (tJ (qe FP (oH 2) (rC .non))) (qh (sZ (oE (kSc (rC (.str "back"))) (oE (Ba 3) oV)))) pX)
 (qh (sZ (oE (kSc (rC (.str "refused"))) (oE (Ba 2) oV))))))))
def zY:MF:=tj 2 5 G9
def wy:MS:=(Ay 2 (oH 4) (oW 3))
def uA:MS:=(oZ (pR 2 As)
 (oZ (aaf 3 4 (pJ K15.AX (oE (oW 0) oV)) wy)
 (oZ (pR 5 (kSc (FG (oH 2) (oH 1))))
 (oZ (wZ (tJ (qe CI (oH 5) (vJ wu (oH 1)))) (pR 5 (kSc (FG (oH 2) (vJ wu (oH 1))))) pX)
 (oZ (wZ (tJ (qe CI (oH 5) (oH 1))) (pR 5 (kSc (rC .non))) pX)
 (oZ (pR 6 (kSc (FG (oH 2) (vJ wu (oH 1)))))
 (oZ (wZ (tJ (qe CI (oH 6) (vJ wu (oH 1)))) (pR 6 (kSc (rC .non))) pX)
 (qh (wz (oE (oW 1) (oE (oW 5) (oE (oW 6) oV))))))))))))
def qu:MF:=tj 2 7 uA
def zF:MS:=(oZ (wZ (tJ (qe CI (qe vk (oH 1) (rC (.int 0))) (rC (.str "put")))) (qh (wz (oE (kSc (rC (.str "cut"))) (oE (kSc (qe vk (oH 1) (rC (.int 1)))) oV)))) pX)
 (oZ (wZ (tJ (qe CI (qe vk (oH 1) (rC (.int 0))) (rC (.str "part")))) (qh (wz (oE (kSc (rC (.str "draw"))) (oE (kSc (qe vk (oH 1) (rC (.int 1)))) oV)))) pX)
 (oZ (wZ (tJ (qe CI (qe vk (oH 1) (rC (.int 0))) (rC (.str "cut")))) (qh (Mx (wz (oE (kSc (rC (.str "put"))) oV)) (pJ K26.qu (oE (oW 0) (oE (kSc (qe vk (oH 1) (rC (.int 1)))) oV))))) pX)
 (oZ (wZ (tJ (qe CI (qe vk (oH 1) (rC (.int 0))) (rC (.str "draw")))) (qh (Mx (wz (oE (kSc (rC (.str "part"))) oV)) (pJ K26.qu (oE (pJ K15.wa (oE (oW 0) oV)) (oE (kSc (qe vk (oH 1) (rC (.int 1)))) oV))))) pX)
 (oZ (wZ (tJ (qe CI (qe vk (oH 1) (rC (.int 0))) (rC (.str "found")))) (qh (wz (oE (kSc (rC (.str "raze"))) oV))) pX)
 (qh (wz (oE (kSc (rC (.str "found"))) oV))))))))
def ve:MF:=tj 2 2 zF
def FT:MS:=(qh (wz (oE (kSc (rC (.str "part"))) (oE (kSc (vJ (uC "Part" "road") (oH 0))) (oE (kSc (vJ (uC "Part" "first") (oH 0))) (oE (kSc (vJ (uC "Part" "second") (oH 0))) oV))))))
def vP:MF:=tj 1 1 FT
def Ee:MS:=(qh (wz (oE (kSc (rC (.str "found"))) oV)))
def vd:MF:=tj 1 1 Ee
def Gf:MS:=(qh (wz (oE (kSc (rC (.str "raze"))) oV)))
def vQ:MF:=tj 1 1 Gf
def isC(x:ME):ME:=Jo (Kf "Put" true x) (Jo (Kf "Cut" true x) (Jo (Kf "Part" true x) (Jo (Kf "Draw" true x) (Jo (Kf "Found" true x) (Kf "Raze" true x)))))
def XM(x:MK):ME:=Jo (rOf (pJ K21.wU (yU "Put" "told" x oV))) (Jo (rOf (pJ K22.wX (yU "Cut" "told" x oV))) (Jo (rOf (pJ K26.vP (yU "Part" "told" x oV))) (Jo (rOf (pJ K25.vM (yU "Draw" "told" x oV))) (Jo (rOf (pJ K26.vd (yU "Found" "told" x oV))) (rOf (pJ K26.vQ (yU "Raze" "told" x oV)))))))
def tl:MS:=(oZ (wZ (M5 (xy (tJ (isC (oH 7)))) (xy (tJ (uB K13.rP (oK (XM (oW 7)) (oK (oH 6) ph)))))) (qh (kSc (rC (.bl false)))) pX)
 (oZ (pR 8 (pJ K51.Bk (oE (oW 2) oV)))
 (oZ (pR 9 (pJ K26.yM (oE (oW 7) (oE (oW 8) oV))))
 (oZ (pR 10 (pJ K26.zY (oE (oW 7) (oE (oW 8) oV))))
 (oZ (wZ (xy (tJ (uB K13.rP (oK (oH 8) (oK (oH 2) ph))))) (qh (kSc (rC (.bl false)))) pX)
 (oZ (wZ (tJ (qe CI (qe HC (oH 9) (rC (.int 0))) (rC (.str "refused")))) (qh (kSc (Qr (qe CI (ze vZ (oK (qe HC (oH 9) (rC (.int 1))) ph)) (rC (.int 1))) (uB K13.rP (oK (oH 10) (oK (oH 9) ph)))))) pX)
 (oZ (pR 11 (Xp (wj 10) (rC (.int 1))))
 (oZ (wZ (M5 (tJ (qe WZ (qe HC (oH 10) (rC (.int 0))) (rC (.str "back")))) (xy (tJ (isC (oH 11))))) (qh (kSc (rC (.bl false)))) pX)
 (oZ (wZ (xy (tJ (uB K13.rP (oK (XM (oW 11)) (oK (rOf (pJ K26.ve (oE (oW 2) (oE (oW 6) oV)))) ph))))) (qh (kSc (rC (.bl false)))) pX)
 (oZ (wZ (xy (tJ (uB K13.rP (oK (rOf (pJ K26.yM (oE (oW 11) (oE (pJ K51.Bk (oE (Xp (wj 9) (rC (.int 1))) oV)) oV)))) (oK (rOf (sZ (oE (kSc (rC (.str "map"))) (oE (oW 2) oV)))) ph))))) (qh (kSc (rC (.bl false)))) pX)
 (oZ (pR 12 (pJ K26.zY (oE (oW 11) (oE (pJ K51.Bk (oE (Xp (wj 9) (rC (.int 1))) oV)) oV))))
 (oZ (wZ (M5 (tJ (qe WZ (qe HC (oH 12) (rC (.int 0))) (rC (.str "back")))) (xy (tJ (isC (qe HC (oH 12) (rC (.int 1))))))) (qh (kSc (rC (.bl false)))) pX)
 (qh (kSc (Qr (uB K13.rP (oK (XM (Xp (wj 12) (rC (.int 1)))) (oK (oH 6) ph))) (uB K13.rP (oK (rOf (pJ K26.yM (oE (oW 7) (oE (oW 8) oV)))) (oK (oH 9) ph))))))))))))))))))
def Rj:MS:=(oZ (pR 1 (pJ K12.Bd (oE (oW 0) oV)))
 (oZ (pR 2 (pJ K13.Aj (oE (pJ Zl.rN (oE (pJ K12.DL (oE (Py (wj 0) (yd (rC (.int 4))) (yd (rC (.int 64)))) (oE (oW 1) oV))) oV)) oV)))
 (oZ (pR 3 (kSc (uB Zl.pO (oK (oH 0) (oK (rC (.int 3)) ph)))))
 (oZ (pR 4 (kSc (qe CI (qe xZ (uB Zl.pO (oK (oH 0) (oK (rC (.int 0)) ph))) (rC (.int 2))) (rC (.int 1)))))
 (oZ (wZ (tJ (oH 4)) (oZ (XD [5,1] (pJ K16.IA (oE (oW 0) oV))) (oZ (pR 2 (pJ K13.Aj (oE (oW 5) oV))) (pR 3 (kSc (uB Zl.pO (oK (oH 0) (oK (rC (.int 5)) ph))))))) pX)
 (oZ (pR 6 (pJ K26.zr (oE (oW 3) (oE (oW 2) (oE (kSc (qe HC (oH 1) (rC (.int 65)))) (oE (oW 4) oV))))))
 (oZ (pR 7 (pJ K26.yG (oE (oW 6) oV)))
 K26.tl)))))))
def UI:MF:=tj 1 13 Rj
seal PE PA PS KJ PT PW PC PG PGs PI PO PF Ip uX UnR SR SK SL SQ SS MB SA Yu SM Lz CbD BmD UnD
set_option hygiene false
local macro_rules|`(tactic|and_intros)=>do let x<-("agX acG Bc oN oJ oz oB pv oY qP qD pK rA rV Cs vN qr Au UA JU tG si AC tu xB AZ Hi RF HY aac Ju UE aao zk Bn agR GB B0 Oy qX Hg Jz qd qK AA qm xV Hv acp op_eq Cp PZ Pe wo SG LF zc ahw DC yi vz IS".splitOn).toArray.mapM λs=>`(@$(Lean.mkIdent s.toName));`(tactic|apply_rules (maxDepth:=100000) only [$[$x:term],*])
local macro_rules|`(tactic|infer_instance)=>do let x<-("pT qN oC oR oO oQ qc pI SR.kSc pA oP pP SK.lOf SK.rOf abm BV ah5 Nj Sh adD Ap UJ NO yx wx U2 Jp aiR LG ag5 age JI aeN Jk W9 ad0 Ek abT uK Eu LR Yb Xa yh Hr Qh GD Bq xa C3 akR wQ vI adS XF WW AM tN Cw BU aei aab aiq RD abZ aeE Pf acf um ql qk Zk R9 AI xS Y3 yV SL.q".splitOn).toArray.mapM λs=>`(@$(Lean.mkIdent s.toName));`(tactic|((first | apply pT | apply qk | apply um | apply RD) <;> apply_rules (maxDepth:=100000) [$[$x:term],*] <;> first | decide | exact λ_ _ _ h=>h))
local macro_rules|`(tactic|bv_omega)=>do let i:=λs:String=>(s.splitOn.map λs=>Lean.mkIdent s.toName).toArray;let x:=i "PassesOwn.never aj vp PySem.boot_len aL aN sY cS fh aal jM jY dN dO DV OJ S.nd";let y:=i "Bt.len Bt.sorted Bt.min Bt.zip Bt.range";let z:=i "ji gi W7";let w:=i "Nk";`(tactic|(intro _ _ _ _ _ _ S hr hu hu65;apply Exists.intro;apply And.intro;infer_instance;((first|refine oN ?_|refine oJ ?_ ?_)<;>and_intros<;>(try ((with_reducible intro _ _ _ _);and_intros))<;>first|rfl|exact nobehind _ (by decide) (by decide)|assumption|exact sA _|decide|exact λ_=>rfl|exact λ_ _=>rfl|exact gi (ji rfl)|exact gi (gi rfl)|exact Me hr|exact KF.or qm wk|first|rfl|exact trivial|(intro _ _;rfl)|exact yz.none (by decide +kernel)|exact Xe.adx (pv 1)|first|(first $[|exact $x]*)|(first $[|exact $y ‹_›]*)|(first $[|exact $z rfl]*)|(first $[|exact $w hu]*)|decide +kernel|trivial)))
set_option hygiene true
noncomputable def top(i:Nat):Stmt:=PySem.Challenge.pw_mapround_k26_whole_leads_back.main.body.getD i (.Pass ⟨0,0,0,0⟩)
def akw(i:Nat):Stmt:=match top i with|.ClassDef _ _ _ (m::_) _ _ _ _ _ _ _=>m|s=>s
def yJ(i j:Nat):Stmt:=match top i with|.ClassDef _ _ _ b _ _ _ _ _ _ _=>b.getD j (.Pass ⟨0,0,0,0⟩)|s=>s
abbrev J4:Stmt:=yJ 36 0
def acx:oU ["self","road","first","second"] ["self","road","first","second"] (oI J4):=sC
def ads(F:AN K "__init__" "Put.__init__" J4 f fd)(b:qY K fd ["self","road","first","second"] [])(l:Mk K C f)(cl:Lq K C)(n:oS K C "road")(t:oS K C "first")(u:oS K C "second")(m:mg "Put" = some (.ref C)):ES P w K mg base "Put" C f fd ["self","road","first","second"] ["road","first","second"]:=
 ⟨l,F.ok acx (λx H Q E h=>Bv h) λz A outer s H x Q E hr h=>⟨_,oJ (Dx (pv 0) (pv 1) rfl) (oJ (Dx (pv 0) (pv 2) rfl) (oN (Dx (pv 0) (pv 3) rfl))),afR cl n t u ⋯ ⋯ ⋯ h⟩,b,m⟩
abbrev GO:Stmt:=yJ 38 0
def aaY:oU ["self","road","first","second"] ["self","road","first","second"] (oI GO):=sC
def Zj(F:AN K "__init__" "Part.__init__" GO f fd)(b:qY K fd ["self","road","first","second"] [])(l:Mk K C f)(cl:Lq K C)(n:oS K C "road")(t:oS K C "first")(u:oS K C "second")(m:mg "Part" = some (.ref C)):ES P w K mg base "Part" C f fd ["self","road","first","second"] ["road","first","second"]:=
 ⟨l,F.ok aaY (λx H Q E h=>Bv h) λz A outer s H x Q E hr h=>⟨_,oJ (Dx (pv 0) (pv 1) rfl) (oJ (Dx (pv 0) (pv 2) rfl) (oN (Dx (pv 0) (pv 3) rfl))),afR cl n t u ⋯ ⋯ ⋯ h⟩,b,m⟩
abbrev IR:Stmt:=yJ 37 0
def adY:oU ["self","road"] ["self","road"] (oI IR):=sC
def ae1(F:AN K "__init__" "Cut.__init__" IR f fd)(b:qY K fd ["self","road"] [])(l:Mk K C f)(cl:Lq K C)(n:oS K C "road")(m:mg "Cut" = some (.ref C)):ES P w K mg base "Cut" C f fd ["self","road"] ["road"]:=
 ⟨l,F.ok adY (λt H Q E h=>Bv h) λu A outer s H t Q E hr h=>⟨_,oN (Dx (pv 0) (pv 1) rfl),afj cl n h⟩,b,m⟩
abbrev Gm:Stmt:=yJ 39 0
def Zw:oU ["self","road"] ["self","road"] (oI Gm):=sC
def aam(F:AN K "__init__" "Draw.__init__" Gm f fd)(b:qY K fd ["self","road"] [])(l:Mk K C f)(cl:Lq K C)(n:oS K C "road")(m:mg "Draw" = some (.ref C)):ES P w K mg base "Draw" C f fd ["self","road"] ["road"]:=
 ⟨l,F.ok Zw (λt H Q E h=>Bv h) λu A outer s H t Q E hr h=>⟨_,oN (Dx (pv 0) (pv 1) rfl),afj cl n h⟩,b,m⟩
abbrev yv:Stmt:=akw 2
def MM:oU ["self","end"] ["self","end"] (oI yv):=sC
def Nc(F:AN K "__init__" "NotThere.__init__" yv f fd)(b:qY K fd ["self","end"] [])(rf:Ref K "NotThere" C M)(u:mg "MapError" = some (.ref M))(l:W.readsIn K M (.type "type")=true)(n:W.specialIn K (.ref M) "__getattribute__" = some (some (.builtin "type.__getattribute__")))(t:W.findCls K (.ref M) (.type "type") "__init__" = some (.val (.builtin "ValueError.__init__")))(ini:W.findIn K (.ref C) "__init__" = some (some (.ref f)))(fn:W.isFn K (.ref f)=true)(kp:W.keepIn K (.ref C)=true)(nf:W.findIn K (.ref C) "end" = some none)(m:mg "NotThere" = some (.ref C)):RP P w K mg base "NotThere" "end" "end" C M f fd:=
 ⟨⟨rf.nm,.inl ⟨M,rf⟩⟩,rf.xc,Sw M,m,⟨rf,ini,fn,kp,nf,m,b,F.ok MM (λx H Q E h=>by obtain⟨e,v,C,M,rfl,_⟩:=h;rfl) λz A outer s H x Q E hr h=>⟨_,oJ (qX (afI (by rfl) u l n t (oz (pv 0) (oz tu oB)))) (oN (afg (pv 0) (pv 1) rfl)),PP h⟩⟩⟩
abbrev Dv:Stmt:=akw 3
def WD:oU ["self","road"] ["self","road"] (oI Dv):=sC
def VN(F:AN K "__init__" "Taken.__init__" Dv f fd)(b:qY K fd ["self","road"] [])(rf:Ref K "Taken" C M)(u:mg "MapError" = some (.ref M))(l:W.readsIn K M (.type "type")=true)(n:W.specialIn K (.ref M) "__getattribute__" = some (some (.builtin "type.__getattribute__")))(t:W.findCls K (.ref M) (.type "type") "__init__" = some (.val (.builtin "ValueError.__init__")))(ini:W.findIn K (.ref C) "__init__" = some (some (.ref f)))(fn:W.isFn K (.ref f)=true)(kp:W.keepIn K (.ref C)=true)(nf:W.findIn K (.ref C) "road" = some none)(m:mg "Taken" = some (.ref C)):RP P w K mg base "Taken" "road" "road" C M f fd:=
 ⟨⟨rf.nm,.inl ⟨M,rf⟩⟩,rf.xc,Sw M,m,⟨rf,ini,fn,kp,nf,m,b,F.ok WD (λx H Q E h=>by obtain⟨e,v,C,M,rfl,_⟩:=h;rfl) λz A outer s H x Q E hr h=>⟨_,oJ (qX (afI (by rfl) u l n t (oz (pv 0) (oz tu oB)))) (oN (afg (pv 0) (pv 1) rfl)),PP h⟩⟩⟩
abbrev Fh:Stmt:=top 9
def VB:oU ["ends","start"] ["ends"] (oI Fh):=sC
abbrev Pz(P w K mg base):=Fn P w K mg base 1 "turned" Fh ["ends"] (rW K Zl.A0)
def Xh(D:xN K mg "turned" Fh ["ends"] f fd)(B:Bt mg):Pz P w K mg base f fd:=
 Li D VB (by bv_omega)
abbrev Ax:Stmt:=top 10
def Nr:oU ["turns","told","turn"] ["turns"] (oI Ax):=sC
abbrev xh(P w K mg base):=Fn P w K mg base 1 "told_ends" Ax ["turns"] (rW K Zl.rN)
def Ny(D:xN K mg "told_ends" Ax ["turns"] f fd)(B:Bt mg):xh P w K mg base f fd:=
 Li D Nr (by bv_omega)
abbrev vF:Stmt:=top 11
def EN:oU ["turns"] ["turns"] (oI vF):=sC
abbrev Aw(P w K mg base):=OO P w K mg base 2 "refuse_too_many" vF ["turns"] (wN K Zl.rL)
def Ex(D:xN K mg "refuse_too_many" vF ["turns"] f fd)(B:Bt mg)(x:mg "MOST_ENDS" = some (.int 128 HM))(z:mg "MOST_BARE_PLACES" = some (.int 128 zT))(n:LJ K mg "TooMany" t u)(l:xh P w K mg base u1 v1):Aw P w K mg base f fd:=
 ⟨D,E7 D.F EN λ_ _ _ _ _ _ hr E s=>⟨_,(oJ (rV (qK PZ (qr vp (by rfl) B.len PySem.boot_len (oz (qP l hr (oz (pv 0) oB)) oB)) (zm (v:=.int 128) (by rfl) x ⟨_,rfl⟩) (sA _)) (oN (zN n.i.rf xf rfl (OF n.i))) qd) (oN (rV (qK PZ (vN aj il PySem.F.type_list_count (Yz s) (pv 0) (oz (si oB) oB)) (zm (v:=.int 128) (by rfl) z ⟨_,rfl⟩) (sA _)) (oN (zN n.i.rf xf rfl (OF n.i))) qd))),(vc (Dt (rD (qc UJ (vI BV (oR (SK.rOf (pA (oC (oQ 0) oP))) pP)) pI)) (BO n.i.rf) (vA ql)) (Dt (rD (qc UJ (adH (oO 0)) pI)) (BO n.i.rf) (vA ql)))⟩⟩
abbrev wK:Stmt:=top 12
def Hu:oU ["turns"] ["turns"] (oI wK):=sC
abbrev wM(P w K mg base):=Fn P w K mg base 2 "in_good_order" wK ["turns"] (rW K Zl.su)
def GP(D:xN K mg "in_good_order" wK ["turns"] f fd)(B:Bt mg)(l:Pz P w K mg base u0 v0):wM P w K mg base f fd:=
 Li D Hu (by bv_omega)
abbrev DK:Stmt:=top 13
def Sm:oU ["m"] ["m"] (oI DK):=sC
abbrev Mn(P w K mg base):=Fn P w K mg base 2 "ends_of" DK ["m"] (rW K Zl.DH)
def Rr(D:xN K mg "ends_of" DK ["m"] f fd)(B:Bt mg)(l:xh P w K mg base u1 v1):Mn P w K mg base f fd:=
 Li D Sm (by bv_omega)
abbrev Iz:Stmt:=top 14
def abe:oU ["m","following","turn","end","behind"] ["m"] (oI Iz):=sC
abbrev U8(P w K mg base):=Fn P w K mg base 1 "nexts" Iz ["m"] (rW K K51.IG)
def aaB(D:xN K mg "nexts" Iz ["m"] f fd)(B:Bt mg):U8 P w K mg base f fd:=
 Li D abe (by bv_omega)
abbrev DW:Stmt:=top 16
def RX:oU ["m","following","steps","end"] ["m"] (oI DW):=sC
abbrev LI(P w K mg base):=Fn P w K mg base 2 "onwards" DW ["m"] (rW K K15.DE)
def RG(D:xN K mg "onwards" DW ["m"] f fd)(B:Bt mg)(l:U8 P w K mg base u5 v5):LI P w K mg base f fd:=
 Li D RX (by bv_omega)
abbrev zh:Stmt:=top 17
def Ld:oU ["steps","end","ends","step"] ["steps","end"] (oI zh):=sC
abbrev Fi(P w K mg base):=Fn P w K mg base 1 "gone_round" zh ["steps","end"] (rW K K15.zo)
def K8(D:xN K mg "gone_round" zh ["steps","end"] f fd)(B:Bt mg):Fi P w K mg base f fd:=
 Li D Ld (by bv_omega)
abbrev IK:Stmt:=top 18
def ZU:oU ["m","steps","known","found","start","land","end"] ["m"] (oI IK):=sC
abbrev EZ(P w K mg base):=Fn P w K mg base 3 "lands" IK ["m"] (rW K K15.sQ)
def YK(D:xN K mg "lands" IK ["m"] f fd)(B:Bt mg)(s:LI P w K mg base u6 v6)(t:Mn P w K mg base u4 v4)(l:wM P w K mg base u3 v3)(n:Fi P w K mg base u7 v7):EZ P w K mg base f fd:=
 Li D ZU (by bv_omega)
abbrev DA:Stmt:=top 20
def SZ:oU ["turns"] ["turns"] (oI DA):=sC
abbrev DN(P w K mg base):=OO P w K mg base 3 "settled" DA ["turns"] (wN K K23.f_settled)
def RS(D:xN K mg "settled" DA ["turns"] f fd)(B:Bt mg)(l:Aw P w K mg base u2 v2)(n:wM P w K mg base u3 v3):DN P w K mg base f fd:=
 ⟨D,E7 D.F SZ λ_ _ _ _ _ _ hr t s=>⟨_,(oJ (qX (uR l ∅ qg (oz (pv 0) oB))) (oN (pK (qP n hr (oz (pv 0) oB))))),(vc (xC (oC (oQ 0) oP)) (vA (qk (pA (oC (oQ 0) oP)))))⟩⟩
abbrev Ff:Stmt:=top 21
def VW:oU ["turn","end","spot","behind"] ["turn","end","spot"] (oI Ff):=sC
abbrev P6(P w K mg base):=Fn P w K mg base 1 "spread" Ff ["turn","end","spot"] (rW K K21.A6)
def Ww(D:xN K mg "spread" Ff ["turn","end","spot"] f fd)(B:Bt mg):P6 P w K mg base f fd:=
 Li D VW (by bv_omega)
abbrev zd:Stmt:=top 22
def Lb:oU ["turns","end","spot"] ["turns","end","spot"] (oI zd):=sC
abbrev Gu(P w K mg base):=OO P w K mg base 3 "put_behind" zd ["turns","end","spot"] (wN K K21.xw)
def KN(D:xN K mg "put_behind" zd ["turns","end","spot"] f fd)(B:Bt mg)(s:RP P w K mg base "NotThere" "end" "end" EV Jr HH Gy)(l:xh P w K mg base u1 v1)(n:P6 P w K mg base u10 v10):Gu P w K mg base f fd:=
 ⟨D,E7 D.F Lb λ_ _ _ _ _ _ hr u t=>⟨_,(oJ (rV (qK zc (pv 2) (qP l hr (oz (pv 0) oB)) rfl) (oN (zN s.i.rf xf rfl (RJ s.i ∅ (oz (pv 2) oB)))) qd) (oN (pK (Au (N:=["turn","end","spot"]) (fr:=[1,2]) rfl rfl (by trivial) rfl (by trivial) rfl (yz.of (by trivial) rfl rfl (by exact⟨rfl,rfl,trivial⟩) (by repeat (first|exact trivial|refine⟨(by first|exact λ_=>⟨_,rfl⟩|exact λh=>(by rcases h with h|h <;> cases h)),?_⟩)) (by exact⟨⟨rfl,rfl,rfl⟩,⟨rfl,rfl,rfl⟩,trivial⟩)) (zk (pv 0)) (λ_ _ _ _=>Hi) (λ_ _ _ _=>(qP n hr (oz (pv 0) (oz (pv 1) (oz (pv 2) oB))))))))),(vc (Dt (rD (qc (NO true) (oO 2) (SK.rOf (pA (oC (oQ 0) oP))))) (G8 s.i.rf s.i.nf (oR (oO 2) pP)) (vA ql)) (vA (qk (Jk (oQ 0) R9 (pA (oC (oQ 0) (oC (oQ 1) (oC (oQ 2) oP))))))))⟩⟩
abbrev Ah:Stmt:=top 23
def Gn:oU ["turns","end","bare"] ["turns","end"] (oI Ah):=sC
abbrev HL(P w K mg base):=OO P w K mg base 1 "put_alone" Ah ["turns","end"] (wN K K21.yD)
def NK(D:xN K mg "put_alone" Ah ["turns","end"] f fd)(B:Bt mg)(n:LJ K mg "NoPlace" s t):HL P w K mg base f fd:=
 ⟨D,E7 D.F Gn λ_ _ _ _ _ _ hr u l=>⟨_,(oJ (rV (qK (LD l) (si oB) (pv 0) rfl) (oN (zN n.i.rf xf rfl (OF n.i))) qd) (oJ (qD (i:=2) Gn (vN aj cS fh (LW l) (pv 0) (oz (si oB) oB))) (oN (pK (rA Hv (rA Hv (Bc DC (pv 0) GB (B0 (pv 2))) (si (oz (si (oz (pv 1) oB)) oB))) (Bc DC (pv 0) (B0 (rA xV (pv 2) oY)) GB)))))),(vc (Dt (rD (aa2 true (oO 0))) (BO n.i.rf) (vA ql)) (vc (vA (qN (i:=2) (SR.kSc (TR (oO 0))))) (vA (qk (JI (SK.lOf (JI (SK.lOf (LR (xa 0) GD (Bq (oO 2)))) (SK.lOf (uK (oC (uK (oC (oQ 1) oP)) oP))))) (SK.lOf (LR (xa 0) (Bq (qc Nj (oO 2) pI)) GD)))))))⟩⟩
abbrev DM:Stmt:=top 24
def S5:oU ["turns","end","spot"] ["turns","end","spot"] (oI DM):=sC
abbrev Mh(P w K mg base):=OO P w K mg base 4 "put_end" DM ["turns","end","spot"] (wN K K21.vW)
def RL(D:xN K mg "put_end" DM ["turns","end","spot"] f fd)(B:Bt mg)(l:Gu P w K mg base u11 v11)(n:HL P w K mg base u12 v12):Mh P w K mg base f fd:=
 ⟨D,E7 D.F S5 λ_ _ _ _ _ _ hr t s=>⟨_,(oJ (rV (qK KG (pv 2) AC (sA _)) (oN (pK (uR n ∅ qg (oz (pv 0) (oz (pv 1) oB))))) qd) (oN (pK (uR l ∅ qg (oz (pv 0) (oz (pv 1) (oz (pv 2) oB))))))),(vc (Dt (rD (qc JF (oO 2) AM)) (wL (oC (oQ 0) (oC (oQ 1) oP))) (vA ql)) (wL (oC (oQ 0) (oC (oQ 1) (oC (oQ 2) oP)))))⟩⟩
abbrev Am:Stmt:=top 25
def Fm:oU ["m","road","first","second","started"] ["m","road","first","second"] (oI Am):=sC
abbrev HQ(P w K mg base):=OO P w K mg base 5 "with_road" Am ["m","road","first","second"] (wN K K21.qZ)
def MV(D:xN K mg "with_road" Am ["m","road","first","second"] f fd)(B:Bt mg)(t:RP P w K mg base "Taken" "road" "road" Tq adR XU Wp)(l:Mh P w K mg base u13 v13)(s:DN P w K mg base u9 v9)(n:xh P w K mg base u1 v1):HQ P w K mg base f fd:=
 ⟨D,E7 D.F Fm λ_ _ _ _ _ _ hr x u=>⟨_,(oJ (rV (qK Mf (pv 1) (qP n hr (oz (pv 0) oB)) rfl) (oN (zN t.i.rf xf rfl (RJ t.i ∅ (oz (pv 1) oB)))) qd) (oJ (qD (i:=4) Fm (uR l ∅ qg (oz (pv 0) (oz (pv 1) (oz (pv 2) oB))))) (oN (pK (uR s ∅ qg (oz (uR l ∅ qg (oz (pv 4) (oz (AZ yi (pv 1)) (oz (pv 3) oB)))) oB)))))),(vc (Dt (rD (qc (NO false) (oO 1) (SK.rOf (pA (oC (oQ 0) oP))))) (G8 t.i.rf t.i.nf (oR (oO 1) pP)) (vA ql)) (vc (adp (i:=4) (oC (oQ 0) (oC (oQ 1) (oC (oQ 2) oP)))) (ZF (oC (oQ 4) (oC (SR.kSc (Cw yV (oO 1))) (oC (oQ 3) oP))))))⟩⟩
abbrev DT:Stmt:=top 26
def S8:oU ["turn","gone"] ["turn","gone"] (oI DT):=sC
abbrev G2(P w K mg base):=Fn P w K mg base 1 "thinned" DT ["turn","gone"] (rW K K23.xg)
def Sf(D:xN K mg "thinned" DT ["turn","gone"] f fd)(B:Bt mg):G2 P w K mg base f fd:=
 Yd D S8 λ_ _ _ _ _ _ hr n l=>⟨_,
   (oN (pK (Au (N:=["end","gone"]) (fr:=[1]) rfl rfl (by trivial) rfl (by trivial) rfl (yz.of (by trivial) rfl rfl (by exact⟨rfl,trivial⟩) (by repeat (first|exact trivial|refine⟨(by first|exact λ_=>⟨_,rfl⟩|exact λh=>(by rcases h with h|h <;> cases h)),?_⟩)) (by exact⟨⟨rfl,rfl,rfl⟩,trivial⟩)) (zk (pv 0)) (λ_ _ _ _=>RF (qK zc (pv 0) (pv 1) rfl)) (λ_ _ _ _=>(pv 0))))),by infer_instance⟩
abbrev xO:Stmt:=top 27
def Ij:oU ["m","road"] ["m","road"] (oI xO):=sC
abbrev Dw(P w K mg base):=OO P w K mg base 4 "without_road" xO ["m","road"] (wN K K23.qW)
def Ic(D:xN K mg "without_road" xO ["m","road"] f fd)(B:Bt mg)(t:RP P w K mg base "NotThere" "end" "end" EV Jr HH Gy)(n:DN P w K mg base u9 v9)(l:xh P w K mg base u1 v1)(s:G2 P w K mg base u15 v15):Dw P w K mg base f fd:=
 ⟨D,E7 D.F Ij λ_ _ _ _ _ _ hr x u=>⟨_,(oJ (rV (qK zc (pv 1) (qP l hr (oz (pv 0) oB)) rfl) (oN (zN t.i.rf xf rfl (RJ t.i ∅ (oz (pv 1) oB)))) qd) (oN (pK (uR n ∅ qg (oz (Au (N:=["turn","road"]) (fr:=[1]) rfl rfl (by trivial) rfl (by trivial) rfl (yz.of (by trivial) rfl rfl (by exact⟨rfl,trivial⟩) (by repeat (first|exact trivial|refine⟨(by first|exact λ_=>⟨_,rfl⟩|exact λh=>(by rcases h with h|h <;> cases h)),?_⟩)) (by exact⟨⟨rfl,rfl,rfl⟩,trivial⟩)) (zk (pv 0)) (λ_ _ _ _=>Hi) (λ_ _ _ _=>(qP s hr (oz (pv 0) (oz (xB (oz (pv 1) (oz (AZ yi (pv 1)) oB))) oB))))) oB))))),(vc (Dt (rD (qc (NO true) (oO 1) (SK.rOf (pA (oC (oQ 0) oP))))) (G8 t.i.rf t.i.nf (oR (oO 1) pP)) (vA ql)) (wL (oC (Jk (oQ 0) R9 (pA (oC (oQ 0) (oC (yh (oC (oQ 1) (oC (SR.kSc (Cw yV (oO 1))) oP))) oP)))) oP)))⟩⟩
abbrev Aq:Stmt:=top 28
def MW:oU ["turn","end"] ["turn","end"] (oI Aq):=sC
abbrev C8(P w K mg base):=Fn P w K mg base 1 "end_ahead" Aq ["turn","end"] (rW K K26.yL)
def Ob(D:xN K mg "end_ahead" Aq ["turn","end"] f fd)(B:Bt mg):C8 P w K mg base f fd:=
 Li D MW (by bv_omega)
abbrev Ar:Stmt:=top 29
def Ng:oU ["m","end"] ["m","end"] (oI Ar):=sC
abbrev Dy(P w K mg base):=Fn P w K mg base 1 "turn_with" Ar ["m","end"] (rW K K26.yA)
def N9(D:xN K mg "turn_with" Ar ["m","end"] f fd)(B:Bt mg):Dy P w K mg base f fd:=
 Yd D Ng λ_ _ _ _ _ _ hr n l=>⟨_,
   (oN (pK (tG qm (Au (N:=["turn","end"]) (fr:=[1]) rfl rfl (by trivial) rfl (by trivial) rfl (yz.of (by trivial) rfl rfl (by exact⟨rfl,trivial⟩) (by repeat (first|exact trivial|refine⟨(by first|exact λ_=>⟨_,rfl⟩|exact λh=>(by rcases h with h|h <;> cases h)),?_⟩)) (by exact⟨⟨rfl,rfl,rfl⟩,trivial⟩)) (zk (pv 0)) (λ_ _ _ _=>RF (qK Mf (pv 1) (pv 0) rfl)) (λ_ _ _ _=>(pv 0))) oY (λ_ _=>rfl)))),by infer_instance⟩
abbrev yp:Stmt:=top 30
def KA:oU ["m","road"] ["m","road"] (oI yp):=sC
abbrev Eg(P w K mg base):=Fn P w K mg base 2 "first_ahead" yp ["m","road"] (rW K K26.vq)
def Kg(D:xN K mg "first_ahead" yp ["m","road"] f fd)(B:Bt mg)(l:C8 P w K mg base u17 v17)(s:G2 P w K mg base u15 v15)(n:Dy P w K mg base u18 v18):Eg P w K mg base f fd:=
 Li D KA (by bv_omega)
abbrev xK:Stmt:=top 31
def Ii:oU ["m","road"] ["m","road"] (oI xK):=sC
abbrev CY(P w K mg base):=Fn P w K mg base 2 "second_ahead" xK ["m","road"] (rW K K26.uV)
def Ia(D:xN K mg "second_ahead" xK ["m","road"] f fd)(B:Bt mg)(l:C8 P w K mg base u17 v17)(n:Dy P w K mg base u18 v18):CY P w K mg base f fd:=
 Li D Ii (by bv_omega)
abbrev zi:Stmt:=top 32
def KU:oU ["m"] ["m"] (oI zi):=sC
abbrev Fk(P w K mg base):=OO P w K mg base 4 "with_place" zi ["m"] (wN K K26.f_with_place)
def KR(D:xN K mg "with_place" zi ["m"] f fd)(B:Bt mg)(l:DN P w K mg base u9 v9):Fk P w K mg base f fd:=
 ⟨D,E7 D.F KU λ_ _ _ _ _ _ hr s n=>⟨_,(oN (pK (uR l ∅ qg (oz (rA Hv (si (oz (si oB) oB)) (pv 0)) oB)))),(wL (oC (JI (SK.lOf (uK (oC (uK oP) oP))) (Hr 0)) oP))⟩⟩
abbrev wH:Stmt:=top 33
def Be:oU ["m","bare"] ["m"] (oI wH):=sC
abbrev Cv(P w K mg base):=OO P w K mg base 3 "without_place" wH ["m"] (wN K K26.f_without_place)
def G6(D:xN K mg "without_place" wH ["m"] f fd)(B:Bt mg)(s:LJ K mg "NoPlace" t u)(l:wM P w K mg base u3 v3):Cv P w K mg base f fd:=
 ⟨D,E7 D.F Be λ_ _ _ _ _ _ hr x n=>⟨_,(oJ (rV (qK (LD n) (si oB) (pv 0) rfl) (oN (zN s.i.rf xf rfl (OF s.i))) qd) (oJ (qD (i:=1) Be (vN aj cS fh (LW n) (pv 0) (oz (si oB) oB))) (oN (pK (qP l hr (oz (rA Hv (Bc DC (pv 0) GB (B0 (pv 1))) (Bc DC (pv 0) (B0 (rA xV (pv 1) oY)) GB)) oB)))))),(vc (Dt (rD (aa2 true (oO 0))) (BO s.i.rf) (vA ql)) (vc (vA (qN (i:=1) (SR.kSc (TR (oO 0))))) (vA (qk (pA (oC (JI (SK.lOf (LR (xa 0) GD (Bq (oO 1)))) (SK.lOf (LR (xa 0) (Bq (qc Nj (oO 1) pI)) GD))) oP))))))⟩⟩
abbrev Er:Stmt:=yJ 36 1
def Pq:oU ["self","m"] ["self","m"] (oI Er):=sC
def P9(F:AN K "done" "Put.done" Er f fd)(mt:yj K n "done" f)(b:qY K fd ["self","m"] [])(B:Bt mg)(l:HQ P w K mg base u14 v14)(s:qF K "Put" n)(u:oS K n "road")(x:oS K n "first")(z:oS K n "second"):DU P w K mg base 6 n "done" ["self","m"] (wN K K21.pZ) f fd:=
 ⟨s.cl,mt,b,E7 F Pq λ_ _ _ _ _ _ hr E t=>⟨_,
   (oN (pK (uR l ∅ qg (oz (pv 1) (oz (tS (pv 0) (by rfl)) (oz (tS (pv 0) (by rfl)) (oz (tS (pv 0) (by rfl)) oB))))))),
   (wL (oC (oQ 1) (oC (SR.kSc (sO s u (oO 0))) (oC (SR.kSc (sO s x (oO 0))) (oC (SR.kSc (sO s z (oO 0))) oP)))))⟩⟩
abbrev uy:Stmt:=top 42
def CF:oU ["change","m"] ["change","m"] (oI uy):=sC
abbrev yK(P w K mg base):=OO P w K mg base 7 "refuse_as_done" uy ["change","m"] (wN K K22.sJ)
def CA(D:xN K mg "refuse_as_done" uy ["change","m"] f fd)(B:Bt mg)(s:qF K "Put" l)(u:oS K l "road")(x:oS K l "first")(z:oS K l "second")(t:DU P w K mg base 6 l "done" ["self","m"] (wN K K21.pZ) fPut_done fdPut_done):yK P w K mg base f fd:=
 ⟨D,E7 D.F CF λ_ _ _ _ _ _ hr E n=>⟨_,(oN (qX (CZ t ∅ qg (pv 0) (oz (pv 1) oB)))),(xC (qH s (oQ 0) (oC (oQ 1) oP)))⟩⟩
abbrev EC:Stmt:=yJ 37 1
def Q6:oU ["self","m"] ["self","m"] (oI EC):=sC
def QW(F:AN K "done" "Cut.done" EC f fd)(mt:yj K n "done" f)(b:qY K fd ["self","m"] [])(B:Bt mg)(l:Dw P w K mg base u16 v16)(s:qF K "Cut" n)(u:oS K n "road"):DU P w K mg base 5 n "done" ["self","m"] (wN K K23.rO) f fd:=
 ⟨s.cl,mt,b,E7 F Q6 λ_ _ _ _ _ _ hr x t=>⟨_,
   (oN (pK (uR l ∅ qg (oz (pv 1) (oz (tS (pv 0) (by rfl)) oB))))),
   (wL (oC (oQ 1) (oC (SR.kSc (sO s u (oO 0))) oP)))⟩⟩
abbrev vT:Stmt:=top 42
def CB:oU ["change","m"] ["change","m"] (oI vT):=sC
abbrev yC(P w K mg base):=OO P w K mg base 6 "refuse_as_done" vT ["change","m"] (wN K K23.uc)
def CC(D:xN K mg "refuse_as_done" vT ["change","m"] f fd)(B:Bt mg)(s:qF K "Cut" l)(u:oS K l "road")(t:DU P w K mg base 5 l "done" ["self","m"] (wN K K23.rO) fCut_done fdCut_done):yC P w K mg base f fd:=
 ⟨D,E7 D.F CB λ_ _ _ _ _ _ hr x n=>⟨_,(oN (qX (CZ t ∅ qg (pv 0) (oz (pv 1) oB)))),(xC (qH s (oQ 0) (oC (oQ 1) oP)))⟩⟩
abbrev Bx:Stmt:=yJ 40 0
def KQ:oU ["self","m"] ["self","m"] (oI Bx):=sC
def Lh(F:AN K "done" "Found.done" Bx f fd)(mt:yj K n "done" f)(b:qY K fd ["self","m"] [])(B:Bt mg)(l:Fk P w K mg base u21 v21)(t:qF K "Found" n):DU P w K mg base 5 n "done" ["self","m"] (wN K K26.sX) f fd:=
 ⟨t.cl,mt,b,E7 F KQ λ_ _ _ _ _ _ hr u s=>⟨_,
   (oN (pK (uR l ∅ qg (oz (pv 1) oB)))),
   (wL (oC (oQ 1) oP))⟩⟩
abbrev vh:Stmt:=top 42
def A9:oU ["change","m"] ["change","m"] (oI vh):=sC
abbrev xE(P w K mg base):=OO P w K mg base 6 "refuse_as_done" vh ["change","m"] (wN K K26.tP)
def A3(D:xN K mg "refuse_as_done" vh ["change","m"] f fd)(B:Bt mg)(s:qF K "Found" l)(t:DU P w K mg base 5 l "done" ["self","m"] (wN K K26.sX) fFound_done fdFound_done):xE P w K mg base f fd:=
 ⟨D,E7 D.F A9 λ_ _ _ _ _ _ hr u n=>⟨_,(oN (qX (CZ t ∅ qg (pv 0) (oz (pv 1) oB)))),(xC (qH s (oQ 0) (oC (oQ 1) oP)))⟩⟩
abbrev Ds:Stmt:=yJ 41 0
def M4:oU ["self","m"] ["self","m"] (oI Ds):=sC
def Og(F:AN K "done" "Raze.done" Ds f fd)(mt:yj K n "done" f)(b:qY K fd ["self","m"] [])(B:Bt mg)(l:Cv P w K mg base u22 v22)(t:qF K "Raze" n):DU P w K mg base 4 n "done" ["self","m"] (wN K K26.rY) f fd:=
 ⟨t.cl,mt,b,E7 F M4 λ_ _ _ _ _ _ hr u s=>⟨_,
   (oN (pK (uR l ∅ qg (oz (pv 1) oB)))),
   (wL (oC (oQ 1) oP))⟩⟩
abbrev vy:Stmt:=top 42
def BX:oU ["change","m"] ["change","m"] (oI vy):=sC
abbrev yc(P w K mg base):=OO P w K mg base 5 "refuse_as_done" vy ["change","m"] (wN K K26.rZ)
def Bp(D:xN K mg "refuse_as_done" vy ["change","m"] f fd)(B:Bt mg)(s:qF K "Raze" l)(t:DU P w K mg base 4 l "done" ["self","m"] (wN K K26.rY) fRaze_done fdRaze_done):yc P w K mg base f fd:=
 ⟨D,E7 D.F BX λ_ _ _ _ _ _ hr u n=>⟨_,(oN (qX (CZ t ∅ qg (pv 0) (oz (pv 1) oB)))),(xC (qH s (oQ 0) (oC (oQ 1) oP)))⟩⟩
abbrev BS:Stmt:=yJ 38 3
def KW:oU ["self"] ["self"] (oI BS):=sC
def K2(F:AN K "other" "Part.other" BS f fd)(mt:yj K l "other" f)(b:qY K fd ["self"] [])(B:Bt mg)(z:qF K "Put" n)(J:oS K n "road")(L:oS K n "first")(M:oS K n "second")(s:qF K "Part" l)(E:oS K l "road")(G:oS K l "first")(H:oS K l "second")(I:ES P w K mg base "Put" n u x ["self","road","first","second"] ["road","first","second"]):Kx P w K mg base 3 l "other" ["self"] (rW K K22.uZ) f fd:=
 ⟨s.cl,mt,b,fnM F KW λ_ _ _ _ _ _ hr O t=>⟨_,
   (oN (pK (AG I ∅ (oz (tS (pv 0) (by rfl)) (oz (tS (pv 0) (by rfl)) (oz (tS (pv 0) (by rfl)) oB)))))),
   (qk (AH z (oR (sO s E (oO 0)) (oR (sO s G (oO 0)) (oR (sO s H (oO 0)) pP)))))⟩⟩
abbrev vX:Stmt:=top 43
def Fy:oU ["change","m"] ["change","m"] (oI vX):=sC
abbrev AO(P w K mg base):=OO P w K mg base 7 "done_over" vX ["change","m"] (wN K K22.ud)
def FF(D:xN K mg "done_over" vX ["change","m"] f fd)(B:Bt mg)(l:EZ P w K mg base u8 v8)(u:qF K "Put" n)(G:oS K n "road")(H:oS K n "first")(I:oS K n "second")(x:qF K "Part" s)(J:oS K s "road")(L:oS K s "first")(M:oS K s "second")(z:Kx P w K mg base 3 s "other" ["self"] (rW K K22.uZ) fPart_other fdPart_other)(E:DU P w K mg base 6 n "done" ["self","m"] (wN K K21.pZ) fPut_done fdPut_done):AO P w K mg base f fd:=
 ⟨D,E7 D.F Fy λ_ _ _ _ _ _ hr O t=>⟨_,(oN (pK (qP l hr (oz (CZ E ∅ qg (B9 z ∅ (pv 0)) (oz (qP l hr (oz (pv 1) oB)) oB)) oB)))),(QU (qH u (pA (qH x (oQ 0) oP)) (oC (pA (oC (oQ 1) oP)) oP)))⟩⟩
abbrev Bs:Stmt:=yJ 39 3
def KO:oU ["self"] ["self"] (oI Bs):=sC
def K1(F:AN K "other" "Draw.other" Bs f fd)(mt:yj K l "other" f)(b:qY K fd ["self"] [])(B:Bt mg)(z:qF K "Cut" n)(H:oS K n "road")(s:qF K "Draw" l)(E:oS K l "road")(G:ES P w K mg base "Cut" n u x ["self","road"] ["road"]):Kx P w K mg base 3 l "other" ["self"] (rW K K25.wc) f fd:=
 ⟨s.cl,mt,b,fnM F KO λ_ _ _ _ _ _ hr I t=>⟨_,
   (oN (pK (AG G ∅ (oz (tS (pv 0) (by rfl)) oB)))),
   (qk (AH z (oR (sO s E (oO 0)) pP)))⟩⟩
abbrev ym:Stmt:=top 43
def Fo:oU ["change","m"] ["change","m"] (oI ym):=sC
abbrev A8(P w K mg base):=OO P w K mg base 6 "done_over" ym ["change","m"] (wN K K25.xn)
def FU(D:xN K mg "done_over" ym ["change","m"] f fd)(B:Bt mg)(l:EZ P w K mg base u8 v8)(u:qF K "Cut" n)(G:oS K n "road")(x:qF K "Draw" s)(H:oS K s "road")(z:Kx P w K mg base 3 s "other" ["self"] (rW K K25.wc) fDraw_other fdDraw_other)(E:DU P w K mg base 5 n "done" ["self","m"] (wN K K23.rO) fCut_done fdCut_done):A8 P w K mg base f fd:=
 ⟨D,E7 D.F Fo λ_ _ _ _ _ _ hr I t=>⟨_,(oN (pK (qP l hr (oz (CZ E ∅ qg (B9 z ∅ (pv 0)) (oz (qP l hr (oz (pv 1) oB)) oB)) oB)))),(QU (qH u (pA (qH x (oQ 0) oP)) (oC (pA (oC (oQ 1) oP)) oP)))⟩⟩
abbrev Et:Stmt:=yJ 36 2
def P2:oU ["self","m"] ["self","m"] (oI Et):=sC
def Q2(F:AN K "back" "Put.back" Et f fd)(mt:yj K n "back" f)(b:qY K fd ["self","m"] [])(B:Bt mg)(l:yK P w K mg base u23 v23)(t:qF K "Put" n)(E:oS K n "road")(I:oS K n "first")(J:oS K n "second")(G:qF K "Cut" s)(L:oS K s "road")(H:ES P w K mg base "Cut" s x z ["self","road"] ["road"]):DU P w K mg base 8 n "back" ["self","m"] (wN K K22.rh) f fd:=
 ⟨t.cl,mt,b,E7 F P2 λ_ _ _ _ _ _ hr M u=>⟨_,
   (oJ (qX (uR l ∅ qg (oz (pv 0) (oz (pv 1) oB))))
   (oN (pK (AG H ∅ (oz (tS (pv 0) (by rfl)) oB))))),
   (vc (xC (oC (oQ 0) (oC (oQ 1) oP)))
   (vA (qk (AH G (oR (sO t E (oO 0)) pP)))))⟩⟩
abbrev CN:Stmt:=yJ 37 3
def Ov:oU ["self"] ["self"] (oI CN):=sC
def ND(F:AN K "other" "Cut.other" CN f fd)(mt:yj K l "other" f)(b:qY K fd ["self"] [])(B:Bt mg)(s:qF K "Cut" l)(z:oS K l "road")(E:qF K "Draw" n)(H:oS K n "road")(G:ES P w K mg base "Draw" n u x ["self","road"] ["road"]):Kx P w K mg base 3 l "other" ["self"] (rW K K26.Ag) f fd:=
 ⟨s.cl,mt,b,fnM F Ov λ_ _ _ _ _ _ hr I t=>⟨_,
   (oN (pK (AG G ∅ (oz (tS (pv 0) (by rfl)) oB)))),
   (qk (AH E (oR (sO s z (oO 0)) pP)))⟩⟩
abbrev vY:Stmt:=top 44
def GC:oU ["change","m"] ["change","m"] (oI vY):=sC
abbrev Bl(P w K mg base):=OO P w K mg base 9 "back_over" vY ["change","m"] (wN K K26.uf)
def E1(D:xN K mg "back_over" vY ["change","m"] f fd)(B:Bt mg)(l:EZ P w K mg base u8 v8)(z:qF K "Put" n)(L:oS K n "road")(M:oS K n "first")(O:oS K n "second")(E:qF K "Part" s)(Q:oS K s "road")(R:oS K s "first")(S:oS K s "second")(G:qF K "Cut" t)(T:oS K t "road")(U:qF K "Draw" u)(X:oS K u "road")(H:Kx P w K mg base 3 s "other" ["self"] (rW K K22.uZ) fPart_other fdPart_other)(I:DU P w K mg base 8 n "back" ["self","m"] (wN K K22.rh) fPut_back fdPut_back)(J:Kx P w K mg base 3 t "other" ["self"] (rW K K26.Ag) fCut_other fdCut_other):Bl P w K mg base f fd:=
 ⟨D,E7 D.F GC λ_ _ _ _ _ _ hr Y x=>⟨_,(oN (pK (B9 J ∅ (CZ I ∅ qg (B9 H ∅ (pv 0)) (oz (qP l hr (oz (pv 1) oB)) oB))))),(P1 G (qH z (pA (qH E (oQ 0) oP)) (oC (pA (oC (oQ 1) oP)) oP)))⟩⟩
abbrev EO:Stmt:=yJ 37 2
def Q4:oU ["self","m"] ["self","m"] (oI EO):=sC
def QH(F:AN K "back" "Cut.back" EO f fd)(mt:yj K u "back" f)(b:qY K fd ["self","m"] [])(B:Bt mg)(l:yC P w K mg base u24 v24)(s:Eg P w K mg base u19 v19)(n:CY P w K mg base u20 v20)(I:qF K "Put" t)(L:oS K t "road")(M:oS K t "first")(O:oS K t "second")(x:qF K "Cut" u)(z:oS K u "road")(J:ES P w K mg base "Put" t G H ["self","road","first","second"] ["road","first","second"]):DU P w K mg base 7 u "back" ["self","m"] (wN K K26.sF) f fd:=
 ⟨x.cl,mt,b,E7 F Q4 λ_ _ _ _ _ _ hr Q E=>⟨_,
   (oJ (qX (uR l ∅ qg (oz (pv 0) (oz (pv 1) oB))))
   (oN (pK (AG J ∅ (oz (tS (pv 0) (by rfl)) (oz (qP s hr (oz (pv 1) (oz (tS (pv 0) (by rfl)) oB))) (oz (qP n hr (oz (pv 1) (oz (tS (pv 0) (by rfl)) oB))) oB))))))),
   (vc (xC (oC (oQ 0) (oC (oQ 1) oP)))
   (vA (qk (AH I (oR (sO x z (oO 0)) (oR (SK.rOf (pA (oC (oQ 1) (oC (SR.kSc (sO x z (oO 0))) oP)))) (oR (SK.rOf (pA (oC (oQ 1) (oC (SR.kSc (sO x z (oO 0))) oP)))) pP)))))))⟩⟩
abbrev CQ:Stmt:=yJ 36 3
def NX:oU ["self"] ["self"] (oI CQ):=sC
def N3(F:AN K "other" "Put.other" CQ f fd)(mt:yj K l "other" f)(b:qY K fd ["self"] [])(B:Bt mg)(s:qF K "Put" l)(z:oS K l "road")(E:oS K l "first")(G:oS K l "second")(H:qF K "Part" n)(J:oS K n "road")(L:oS K n "first")(M:oS K n "second")(I:ES P w K mg base "Part" n u x ["self","road","first","second"] ["road","first","second"]):Kx P w K mg base 3 l "other" ["self"] (rW K K26.yB) f fd:=
 ⟨s.cl,mt,b,fnM F NX λ_ _ _ _ _ _ hr O t=>⟨_,
   (oN (pK (AG I ∅ (oz (tS (pv 0) (by rfl)) (oz (tS (pv 0) (by rfl)) (oz (tS (pv 0) (by rfl)) oB)))))),
   (qk (AH H (oR (sO s z (oO 0)) (oR (sO s E (oO 0)) (oR (sO s G (oO 0)) pP)))))⟩⟩
abbrev yn:Stmt:=top 44
def FD:oU ["change","m"] ["change","m"] (oI yn):=sC
abbrev Bf(P w K mg base):=OO P w K mg base 8 "back_over" yn ["change","m"] (wN K K26.ue)
def Fe(D:xN K mg "back_over" yn ["change","m"] f fd)(B:Bt mg)(l:EZ P w K mg base u8 v8)(z:qF K "Put" n)(L:oS K n "road")(M:oS K n "first")(O:oS K n "second")(Q:qF K "Part" s)(R:oS K s "road")(S:oS K s "first")(T:oS K s "second")(E:qF K "Cut" t)(U:oS K t "road")(G:qF K "Draw" u)(X:oS K u "road")(H:Kx P w K mg base 3 u "other" ["self"] (rW K K25.wc) fDraw_other fdDraw_other)(I:DU P w K mg base 7 t "back" ["self","m"] (wN K K26.sF) fCut_back fdCut_back)(J:Kx P w K mg base 3 n "other" ["self"] (rW K K26.yB) fPut_other fdPut_other):Bf P w K mg base f fd:=
 ⟨D,E7 D.F FD λ_ _ _ _ _ _ hr Y x=>⟨_,(oN (pK (B9 J ∅ (CZ I ∅ qg (B9 H ∅ (pv 0)) (oz (qP l hr (oz (pv 1) oB)) oB))))),(P1 z (qH E (pA (qH G (oQ 0) oP)) (oC (pA (oC (oQ 1) oP)) oP)))⟩⟩
abbrev Gq:Stmt:=top 46
def WU:oU ["_law_script","_law_k"] ["_law_script","_law_k"] (oI Gq):=sC
abbrev FO(P w K mg base):=Fn P w K mg base 1 "_law_cell" Gq ["_law_script","_law_k"] (rW K Zl.pO)
def VV(D:xN K mg "_law_cell" Gq ["_law_script","_law_k"] f fd)(B:Bt mg):FO P w K mg base f fd:=
 Li D WU (by bv_omega)
abbrev DJ:Stmt:=top 47
def wR:oU ["_law_script","_law_step","_law_shift","_law_stride","_law_off"] ["_law_script"] (oI DJ):=sC
abbrev Mb(P w K mg base):=Fn P w K mg base 2 "_law_names" DJ ["_law_script"] (rW K K12.Bd)
def RC(D:xN K mg "_law_names" DJ ["_law_script"] f fd)(B:Bt mg)(l:FO P w K mg base u31 v31):Mb P w K mg base f fd:=
 Yd D wR λ_ _ _ _ _ _ hr s n=>⟨_,
   (oJ (qD (i:=1) wR oY)
   (oJ (qD (i:=2) wR oY)
   (oJ (rV (qK PZ (rA wo (qP l hr (oz (pv 0) (oz oY oB))) oY) oY (sA _)) (oJ (qD (i:=1) wR (rA xV oY (rA wo (qP l hr (oz (pv 0) (oz oY oB))) (rA Kw oY oY)))) (oN (qD (i:=2) wR (rA wo (qP l hr (oz (pv 0) (oz oY oB))) (rA Kw oY oY))))) qd)
   (oJ (qD (i:=3) wR (rA xV oY (rA wo (rA Cp (qP l hr (oz (pv 0) (oz oY oB))) oY) oY)))
   (oJ (qD (i:=4) wR (rA wo (rA Cp (qP l hr (oz (pv 0) (oz oY oB))) oY) oY))
   (oN (pK (Au (N:=["_law_k","_law_shift","_law_step","_law_off","_law_stride"]) (fr:=[2,1,4,3]) rfl rfl (by trivial) rfl (by trivial) rfl (yz.of (by trivial) rfl rfl (by exact⟨rfl,rfl,rfl,rfl,trivial⟩) (by repeat (first|exact trivial|refine⟨(by first|exact λ_=>⟨_,rfl⟩|exact λh=>(by rcases h with h|h <;> cases h)),?_⟩)) (by exact⟨⟨rfl,rfl,rfl⟩,⟨rfl,rfl,rfl⟩,⟨rfl,rfl,rfl⟩,⟨rfl,rfl,rfl⟩,trivial⟩)) (Bn (by rfl) B.range (oz oY oB)) (λ_ _ _ _=>Hi) (λ_ _ _ _=>(rA xV (rA SG (pv 2) (rA xV (rA wo (rA xV (rA SG (pv 4) (pv 0)) (pv 3)) oY) oY)) (pv 1))))))))))),by infer_instance⟩
abbrev DZ:Stmt:=top 48
def tm:oU ["_law_cells","_law_names_here","_law_parts_here","_law_trail","_law_left","_law_used","_law_cell_here","_law_way","_law_here","_law_end"] ["_law_cells","_law_names_here"] (oI DZ):=sC
abbrev Mi(P w K mg base):=Fn P w K mg base 1 "_law_parts" DZ ["_law_cells","_law_names_here"] (rW K K12.DL)
def Sy(D:xN K mg "_law_parts" DZ ["_law_cells","_law_names_here"] f fd)(B:Bt mg):Mi P w K mg base f fd:=
 Yd D tm λ_ _ _ _ _ _ hr n l=>⟨_,
   (oJ (qD (i:=2) tm (si (oz (si (oz (si oB) oB)) oB)))
   (oJ (qD (i:=3) tm (si (oz oY oB)))
   (oJ (qD (i:=4) tm (si oB))
   (oJ (qD (i:=5) tm oY)
   (oJ (Hg PassesOwn.never rfl (zk (pv 0)) (HY (i:=6) tm)
    (oJ (qD (i:=7) tm (rA wo (pv 6) oY)) (oJ (qD (i:=8) tm (tG qm (tG qm (pv 2) (AZ yi oY) (λ_ _=>rfl)) (tG qm (pv 3) (AZ yi oY) (λ_ _=>rfl)) (λ_ _=>rfl))) (oJ (qD (i:=9) tm (tG qm (pv 1) (pv 5) (λ_ _=>rfl))) (oJ (rV (qK op_eq (rA wo (rA Cp (pv 6) oY) oY) oY (sA _)) (oN (qD (i:=9) tm (AZ yi (pv 9)))) qd) (oN (rV (qK Pe (pv 7) oY (sA _)) (oJ (qX (vN aj aL aN sY (pv 8) (oz (pv 9) oB))) (oJ (qD (i:=5) tm (rA xV (pv 5) oY)) (oN (rV (qK Pe (pv 7) oY (sA _)) (oN (qX (vN aj aL aN sY (pv 4) (oz (AZ yi (pv 9)) oB)))) (oJ (qX (vN aj aL aN sY (pv 3) (oz (qr vp (by rfl) B.len PySem.boot_len (oz (tG qm (pv 2) (AZ yi oY) (λ_ _=>rfl)) oB)) oB))) (oN (qX (vN aj aL aN sY (tG qm (pv 2) (AZ yi oY) (λ_ _=>rfl)) (oz (si (oz (AZ yi (pv 9)) oB)) oB))))))))) (oN (rV (qK Pe (pv 7) oY (sA _)) (oN (rV (IS (pv 4) (λ_=>rfl)) (oN (qX (vN aj aL aN sY (pv 8) (oz (vN aj fO fQ Qp (pv 4) (oz (rA wo (rA Cp (pv 6) oY) (qr vp (by rfl) B.len PySem.boot_len (oz (pv 4) oB))) oB)) oB)))) qd)) (oN (rV (qK op_eq (pv 7) oY (sA _)) (oN (rV (qK PZ (qr vp (by rfl) B.len PySem.boot_len (oz (pv 3) oB)) oY (sA _)) (oN (qX (aiL aj fO fQ aia (pv 3)))) qd)) (oJ (qX (vN aj dN dO DV (pv 8) (oz (pv 4) oB))) (oJ (qD (i:=4) tm (si oB)) (oJ (qX (vN aj aL aN sY (pv 2) (oz (si (oz (si oB) oB)) oB))) (oN (qD (i:=3) tm (si (oz oY oB))))))))))))))))))
   (oJ (qX (vN aj dN dO DV (tG qm (tG qm (pv 2) (AZ yi oY) (λ_ _=>rfl)) (tG qm (pv 3) (AZ yi oY) (λ_ _=>rfl)) (λ_ _=>rfl)) (oz (pv 4) oB)))
   (oN (pK (pv 2))))))))),
   (pT (qN (i:=2) (uK (oC (uK (oC (uK oP) oP)) oP)))
   (pT (qN (i:=3) (uK (oC (SR.kSc pI) oP)))
   (pT (qN (i:=4) (uK oP))
   (pT (qN (i:=5) (SR.kSc pI))
   (pT (RD (oQ 0) (pT (qN (i:=7) (SR.kSc (qc Jp (oO 6) pI))) (ahn (JR (JR (OD 2) (Cw yV pI)) (qc yx (oO 3) (Cw yV pI))) (aaF (UY (SR.kSc (qc yx (oO 1) (oO 5))) ⋯) (aaF (ah3 (rD (qc Ap (qc Jp (qc Sh (oO 6) pI) pI) pI)) (UY (SR.kSc (Cw yV (oO 9))) ⋯) (Z0 (λ_ _ _ h=>h))) (U9 (rD (qc U2 (oO 7) pI)) (ZK (aiD (oQ 9)) (pT (qN (i:=5) (SR.kSc (qc Nj (oO 5) pI))) (um (rD (qc U2 (oO 7) pI)) (BU (i:=4) (SR.kSc (Cw yV (oO 9)))) (pT (BU (i:=3) (SR.kSc (vI BV (oR (qc yx (oO 2) (Cw yV pI)) pP)))) (aeH (JR (OD 2) (Cw yV pI)) (uK (oC (SR.kSc (Cw yV (oO 9))) oP))))))) (U9 (rD (qc U2 (oO 7) pI)) (U9 (Y3 (oO 4)) (aeT (Qh (i:=4) (qc Jp (qc Sh (oO 6) pI) (vI BV (oR (oO 4) pP))))) (afN ql)) (U9 (rD (qc Ap (oO 7) pI)) (afN (um (rD (qc UJ (vI BV (oR (oO 3) pP)) pI)) (YA (adk (i:=3))) ql)) (ZK (agV (Hr 4)) (pT (qN (i:=4) (uK oP)) (pT (BU (i:=2) (uK (oC (uK oP) oP))) (qN (i:=3) (uK (oC (SR.kSc pI) oP))))))))))))))
   (pT (acs (JR (JR (OD 2) (Cw yV pI)) (qc yx (oO 3) (Cw yV pI))) (Hr 4))
   (qk (Eu 2))))))))⟩
abbrev FS:Stmt:=top 49
def Xg:oU ["_law_turn_here","_law_k"] ["_law_turn_here"] (oI FS):=sC
abbrev QO(P w K mg base):=Fn P w K mg base 1 "_law_turn" FS ["_law_turn_here"] (rW K K13.A5)
def WV(D:xN K mg "_law_turn" FS ["_law_turn_here"] f fd)(B:Bt mg):QO P w K mg base f fd:=
 Li D Xg (by bv_omega)
abbrev Iq:Stmt:=top 50
def Zt:oU ["_law_turns"] ["_law_turns"] (oI Iq):=sC
abbrev NB(P w K mg base):=Fn P w K mg base 2 "_law_map" Iq ["_law_turns"] (rW K K13.Aj)
def Zg(D:xN K mg "_law_map" Iq ["_law_turns"] f fd)(B:Bt mg)(l:QO P w K mg base u34 v34):NB P w K mg base f fd:=
 Li D Zt (by bv_omega)
abbrev Iu:Stmt:=top 51
def aak:oU ["_law_parts_here","_law_turns","_law_part"] ["_law_parts_here"] (oI Iu):=sC
abbrev OL(P w K mg base):=Fn P w K mg base 1 "_law_all" Iu ["_law_parts_here"] (rW K Zl.rN)
def Z9(D:xN K mg "_law_all" Iu ["_law_parts_here"] f fd)(B:Bt mg):OL P w K mg base f fd:=
 Li D aak (by bv_omega)
abbrev ye:Stmt:=top 52
def Kl:oU ["_law_found","_law_due_here","_law_k"] ["_law_found","_law_due_here"] (oI ye):=sC
def Al(u:1<=s)(D:xN K mg "_law_alike" ye ["_law_found","_law_due_here"] f fd)(B:Bt mg)(l:mg "tuple" = none)(n:Fn P w K mg base s "_law_alike" ye ["_law_found","_law_due_here"] (rW K fm) f fd):Fn P w K mg base (s+1) "_law_alike" ye ["_law_found","_law_due_here"] (rW K (K13.rE fm)) f fd:=
 Yd D Kl λ_ _ _ _ _ _ hr x t=>⟨_,
   (oJ (rV (PW.pt (Pn (vz (qr (uX.or wB wD) (by rfl) B.isi au (oz (pv 1) (oz (xP (v:=.ty "list") (by rfl) B.list dh rfl) oB)))) (IW (vz (qr (uX.or wB wD) (by rfl) B.isi au (oz (pv 1) (oz (xP (v:=.ty "tuple") (by rfl) l fi rfl) oB))))))) (oJ (rV (PW.pt (Pn (qK LF (qr (uX.or wB wD) (by rfl) B.isi au (oz (pv 0) (oz (xP (v:=.ty "list") (by rfl) B.list dh rfl) oB))) (qr (uX.or wB wD) (by rfl) B.isi au (oz (pv 1) (oz (xP (v:=.ty "list") (by rfl) B.list dh rfl) oB))) (sA _)) (IW (qK LF (qr (uX.or wB wD) (by rfl) B.isi au (oz (pv 0) (oz (xP (v:=.ty "tuple") (by rfl) l fi rfl) oB))) (qr (uX.or wB wD) (by rfl) B.isi au (oz (pv 1) (oz (xP (v:=.ty "tuple") (by rfl) l fi rfl) oB))) (sA _))))) (oN (pK Cs)) qd) (oJ (rV (qK LF (qr vp (by rfl) B.len PySem.boot_len (oz (pv 0) oB)) (qr vp (by rfl) B.len PySem.boot_len (oz (pv 1) oB)) (sA _)) (oN (pK Cs)) qd) (oJ (Hg PassesOwn.never rfl (Bn (by rfl) B.range (oz (qr vp (by rfl) B.len PySem.boot_len (oz (pv 1) oB)) oB)) (HY (i:=2) Kl)
    (oN (rV (AA (vz (afr n hr (oz (tG (KF.or qm wk) (pv 0) (pv 2) (λ_ _=>rfl)) (oz (tG (KF.or qm wk) (pv 1) (pv 2) (λ_ _=>rfl)) oB))))) (oN (pK Cs)) qd))) (oN (pK Cs))))) qd)
   (oJ (rV (qK KG (pv 1) AC (sA _)) (oN (pK (Gb KG (pv 0) AC (sA _)))) qd)
   (oJ (rV (vz (qr (uX.or wB wD) (by rfl) B.isi au (oz (pv 1) (oz (xP (v:=.ty "str") (by rfl) B.str iI rfl) oB)))) (oN (pK (Jn (qr (uX.or wB wD) (by rfl) B.isi au (oz (pv 0) (oz (xP (v:=.ty "str") (by rfl) B.str iI rfl) oB))) (NJ (Gb op_eq (pv 0) (pv 1) (sA _)))))) qd)
   (oN (pK (Jn (qr (uX.or wB wD) (by rfl) B.isi au (oz (pv 0) (oz (xP (v:=.ty "int") (by rfl) B.int jZ rfl) oB))) (Jn (ahV (qr (uX.or wB wD) (by rfl) B.isi au (oz (pv 0) (oz (xP (v:=.ty "bool") (by rfl) B.bool jU rfl) oB)))) (NJ (Gb op_eq (pv 0) (pv 1) (sA _)))))))))),
   (pT (um (Qn (xS (vI AD (oR (oO 1) (oR C4 pP)))) (xS (vI AD (oR (oO 1) (oR C4 pP))))) (pT (um (Qn (rD (qc LG (vI AD (oR (oO 0) (oR C4 pP))) (vI AD (oR (oO 1) (oR C4 pP))))) (rD (qc LG (vI AD (oR (oO 0) (oR C4 pP))) (vI AD (oR (oO 1) (oR C4 pP)))))) (qk (SR.kSc C3)) ql) (pT (um (rD (qc LG (vI BV (oR (oO 0) pP)) (vI BV (oR (oO 1) pP)))) (qk (SR.kSc C3)) ql) (pT (Pf (oR (vI BV (oR (oO 1) pP)) pP) (um (AI (xS (wQ (oR (qc wx (oO 0) (oO 2)) (oR (qc wx (oO 1) (oO 2)) pP))))) (qk (SR.kSc C3)) ql)) (qk (SR.kSc C3))))) ql)
   (pT (um (rD (qc JF (oO 1) AM)) (qk (SR.kSc (qc JF (oO 0) AM))) ql)
   (pT (um (xS (vI AD (oR (oO 1) (oR C4 pP)))) (qk (SR.kSc (KI (vI AD (oR (oO 0) (oR C4 pP))) (qc Ap (oO 0) (oO 1))))) ql)
   (qk (SR.kSc (KI (vI AD (oR (oO 0) (oR C4 pP))) (KI (ain (vI AD (oR (oO 0) (oR C4 pP)))) (qc Ap (oO 0) (oO 1)))))))))⟩
abbrev LA(P w K mg base):=Fn P w K mg base 5 "_law_alike" ye ["_law_found","_law_due_here"] (rW K K13.rP)
def SW(D:xN K mg "_law_alike" ye ["_law_found","_law_due_here"] f fd)(B:Bt mg)(l:mg "tuple" = none):LA P w K mg base f fd:=(Al ⋯ D B l (Al ⋯ D B l (Al ⋯ D B l (Al ⋯ D B l (ab5 (k:=1) D)))))
abbrev DB:Stmt:=top 53
def Ry:oU ["_law_m","_law_then","_law_turn_here","_law_k"] ["_law_m"] (oI DB):=sC
abbrev G1(P w K mg base):=Fn P w K mg base 1 "_law_nexts" DB ["_law_m"] (rW K K15.AX)
def Sx(D:xN K mg "_law_nexts" DB ["_law_m"] f fd)(B:Bt mg):G1 P w K mg base f fd:=
 Li D Ry (by bv_omega)
abbrev D0:Stmt:=top 54
def To:oU ["_law_m","_law_then","_law_have","_law_found","_law_end","_law_gone","_law_now"] ["_law_m"] (oI D0):=sC
abbrev My(P w K mg base):=Fn P w K mg base 3 "_law_lands" D0 ["_law_m"] (rW K K15.wa)
def Sb(D:xN K mg "_law_lands" D0 ["_law_m"] f fd)(B:Bt mg)(l:G1 P w K mg base u38 v38)(n:NB P w K mg base u35 v35):My P w K mg base f fd:=
 Li D To (by bv_omega)
abbrev Fg:Stmt:=top 55
def V0:oU ["_law_m"] ["_law_m"] (oI Fg):=sC
abbrev PD(P w K mg base):=Fn P w K mg base 1 "_law_copy" Fg ["_law_m"] (rW K K51.Bk)
def Wg(D:xN K mg "_law_copy" Fg ["_law_m"] f fd)(B:Bt mg):PD P w K mg base f fd:=
 Yd D V0 λ_ _ _ _ _ _ hr n l=>⟨_,
   (oN (pK (Au (cl:=[]) (N:=["_law_turn_here"]) (fr:=[]) rfl rfl (by trivial) rfl (by trivial) rfl (yz.none (by trivial)) (zk (pv 0)) (λ_ _ _ _=>Hi) (λ_ _ _ _=>(Mm GN (by rfl) B.list dh (oz (pv 0) oB)))))),by infer_instance⟩
abbrev FY:Stmt:=top 56
def LK:oU ["_law_e","_law_kinds"] ["_law_e"] (oI FY):=sC
abbrev Ki(P w K mg base):=FnH P w K mg base 3 "_law_kind" FY ["_law_e"] (rW K K23.xW)
def Xi(D:xN K mg "_law_kind" FY ["_law_e"] f fd)(B:Bt mg)(u:RP P w K mg base "NotThere" "end" "end" EV Jr HH Gy)(x:RP P w K mg base "Taken" "road" "road" Tq adR XU Wp)(z:LJ K mg "TooMany" n I)(G:LJ K mg "NoPlace" t J)(l:mg "ValueError" = none):Ki P w K mg base f fd:=
 ⟨D,D.F.okH LK (λ_ _ _ _=>Ox) λL A outer s H M Q E hr h=>⟨_,(oJ (qD (i:=1) LK (si oB)) (oJ (rV (AA (vz (qr Dg (by rfl) B.isi au (oz (pv 0) (oz (xP (v:=.ty "ValueError") (by rfl) l aeW rfl) oB))))) (oN (qX (vN aj aL aN sY (pv 1) (oz (xB (oz tu (oz oY oB))) oB)))) qd) (oJ (rV (vz (qr Dg (by rfl) B.isi au (oz (pv 0) (oz (zm (v:=.ref Tq) (by rfl) (x.mgc) rfl) oB)))) (oN (qX (vN aj aL aN sY (pv 1) (oz (xB (oz tu (oz (UC (pv 0) rfl) oB))) oB)))) qd) (oJ (rV (vz (qr Dg (by rfl) B.isi au (oz (pv 0) (oz (zm (v:=.ref EV) (by rfl) (u.mgc) rfl) oB)))) (oN (qX (vN aj aL aN sY (pv 1) (oz (xB (oz tu (oz (UC (pv 0) rfl) oB))) oB)))) qd) (oJ (rV (vz (qr Dg (by rfl) B.isi au (oz (pv 0) (oz (zm (v:=.ref t) (by rfl) (G.mgc) rfl) oB)))) (oN (qX (vN aj aL aN sY (pv 1) (oz (xB (oz tu (oz oY oB))) oB)))) qd) (oJ (rV (vz (qr Dg (by rfl) B.isi au (oz (pv 0) (oz (zm (v:=.ref n) (by rfl) (z.mgc) rfl) oB)))) (oN (qX (vN aj aL aN sY (pv 1) (oz (xB (oz tu (oz oY oB))) oB)))) qd) (oN (pK (pv 1))))))))),FE _ (K:=K) (pT (qN (i:=1) (uK oP)) (pT (um (AI (xS (vI Jf (oR (oO 0) (oR C4 pP))))) (BU (i:=1) (yh (oC (SR.kSc tN) (oC (SR.kSc pI) oP)))) ql) (pT (um (xS (vI Jf (oR (oO 0) (oR (M8 x.c) pP)))) (BU (i:=1) (yh (oC (SR.kSc tN) (oC (SR.kSc (Va (oO 0))) oP)))) ql) (pT (um (xS (vI Jf (oR (oO 0) (oR (M8 u.c) pP)))) (BU (i:=1) (yh (oC (SR.kSc tN) (oC (SR.kSc (Va (oO 0))) oP)))) ql) (pT (um (xS (vI Jf (oR (oO 0) (oR (M8 G.c) pP)))) (BU (i:=1) (yh (oC (SR.kSc tN) (oC (SR.kSc pI) oP)))) ql) (pT (um (xS (vI Jf (oR (oO 0) (oR (M8 z.c) pP)))) (BU (i:=1) (yh (oC (SR.kSc tN) (oC (SR.kSc pI) oP)))) ql) (qk (Eu 1)))))))) h⟩⟩
abbrev CU:Stmt:=yJ 38 1
def N5:oU ["self","m"] ["self","m"] (oI CU):=sC
def Oi(F:AN K "done" "Part.done" CU f fd)(mt:yj K n "done" f)(b:qY K fd ["self","m"] [])(B:Bt mg)(l:AO P w K mg base u27 v27)(t:qF K "Part" n)(u:oS K n "road")(x:oS K n "first")(z:oS K n "second"):DU P w K mg base 8 n "done" ["self","m"] (wN K K22.tU) f fd:=
 ⟨t.cl,mt,b,E7 F N5 λ_ _ _ _ _ _ hr E s=>⟨_,
   (oN (pK (uR l ∅ qg (oz (pv 0) (oz (pv 1) oB))))),
   (wL (oC (oQ 0) (oC (oQ 1) oP)))⟩⟩
abbrev Dh:Stmt:=yJ 39 1
def MQ:oU ["self","m"] ["self","m"] (oI Dh):=sC
def Nh(F:AN K "done" "Draw.done" Dh f fd)(mt:yj K n "done" f)(b:qY K fd ["self","m"] [])(B:Bt mg)(l:A8 P w K mg base u28 v28)(t:qF K "Draw" n)(u:oS K n "road"):DU P w K mg base 7 n "done" ["self","m"] (wN K K25.tW) f fd:=
 ⟨t.cl,mt,b,E7 F MQ λ_ _ _ _ _ _ hr x s=>⟨_,
   (oN (pK (uR l ∅ qg (oz (pv 0) (oz (pv 1) oB))))),
   (wL (oC (oQ 0) (oC (oQ 1) oP)))⟩⟩
abbrev Gr:Stmt:=top 57
def zt:oU ["_law_change","_law_m","_law_told","_law_found","_law_e"] ["_law_change","_law_m"] (oI Gr):=sC
abbrev Pm(P w K mg base):=Fn P w K mg base 9 "_law_done" Gr ["_law_change","_law_m"] (rW K K26.yM)
def Vq(D:xN K mg "_law_done" Gr ["_law_change","_law_m"] f fd)(B:Bt mg)(l:agU K mg "MapError" G H)(I:Ki P w K mg base u41 v41)(J:qF K "Put" n)(U:oS K n "road")(X:oS K n "first")(Y:oS K n "second")(L:qF K "Part" s)(ro:oS K s "road")(qS:oS K s "first")(qB:oS K s "second")(M:qF K "Cut" t)(qw:oS K t "road")(O:qF K "Draw" u)(rp:oS K u "road")(Q:qF K "Found" x)(R:qF K "Raze" z)(Co:DU P w K mg base 6 n "done" ["self","m"] (wN K K21.pZ) fPut_done fdPut_done)(BM:DU P w K mg base 5 t "done" ["self","m"] (wN K K23.rO) fCut_done fdCut_done)(S:DU P w K mg base 8 s "done" ["self","m"] (wN K K22.tU) fPart_done fdPart_done)(T:DU P w K mg base 7 u "done" ["self","m"] (wN K K25.tW) fDraw_done fdDraw_done)(Fp:DU P w K mg base 5 x "done" ["self","m"] (wN K K26.sX) fFound_done fdFound_done)(Hy:DU P w K mg base 4 z "done" ["self","m"] (wN K K26.rY) fRaze_done fdRaze_done):Pm P w K mg base f fd:=
 Yd D zt λ_ _ _ _ _ _ hr hu E=>⟨_,
   (oJ (qD (i:=2) zt AC)
   (oJ (qD (i:=3) zt AC)
   (oJ (by (repeat' apply X6) <;> exact TJ (U1 (i:=3) ‹_› ∅ (pv 0) (oz (pv 1) oB) (afB (i:=4) l.xc l.base l.mgc zt.nd rfl rfl (λ_=>(oN (qD (i:=2) zt (YW I ((hr.h _).mono ⋯) (oz (pv 4) oB))))) aaS) zt.nd rfl (by trivial)))
   (oJ (rV (qK KG (pv 2) AC (sA _)) (oN (pK (si (oz tu (oz (pv 3) oB))))) qd)
   (oN (pK (si (oz tu (oz (pv 2) oB))))))))),
   (pT (qN (i:=2) (SR.kSc AM))
   (pT (qN (i:=3) (SR.kSc AM))
   (pT (AB (wO (qH J (oQ 0) (oC (oQ 1) oP)) (Cz l.c (qN (i:=2) (pA (oC (oQ 4) oP))) yS)) (AB (wO (qH M (oQ 0) (oC (oQ 1) oP)) (Cz l.c (qN (i:=2) (pA (oC (oQ 4) oP))) yS)) (AB (wO (qH L (oQ 0) (oC (oQ 1) oP)) (Cz l.c (qN (i:=2) (pA (oC (oQ 4) oP))) yS)) (AB (wO (qH O (oQ 0) (oC (oQ 1) oP)) (Cz l.c (qN (i:=2) (pA (oC (oQ 4) oP))) yS)) (AB (wO (qH Q (oQ 0) (oC (oQ 1) oP)) (Cz l.c (qN (i:=2) (pA (oC (oQ 4) oP))) yS)) (wO (qH R (oQ 0) (oC (oQ 1) oP)) (Cz l.c (qN (i:=2) (pA (oC (oQ 4) oP))) yS)))))))
   (pT (um (rD (qc JF (oO 2) AM)) (qk (uK (oC (SR.kSc tN) (oC (Eu 3) oP)))) ql)
   (qk (uK (oC (SR.kSc tN) (oC (Eu 2) oP))))))))⟩
abbrev DR:Stmt:=top 58
def Tj:oU ["_law_cell_here","_law_m","_law_fresh","_law_free","_law_ends","_law_mix","_law_beyond","_law_way","_law_roads","_law_some","_law_first","_law_second"] ["_law_cell_here","_law_m","_law_fresh","_law_free"] (oI DR):=sC
abbrev Mq(P w K mg base):=Fn P w K mg base 2 "_law_words" DR ["_law_cell_here","_law_m","_law_fresh","_law_free"] (rW K K26.zr)
def SV(D:xN K mg "_law_words" DR ["_law_cell_here","_law_m","_law_fresh","_law_free"] f fd)(B:Bt mg)(l:OL P w K mg base u36 v36):Mq P w K mg base f fd:=
 Li D Tj (by bv_omega)
abbrev FA:Stmt:=top 59
def Vr:oU ["_law_words_here"] ["_law_words_here"] (oI FA):=sC
abbrev Pi(P w K mg base):=Fn P w K mg base 3 "_law_made" FA ["_law_words_here"] (rW K K26.yG)
def Ws(D:xN K mg "_law_made" FA ["_law_words_here"] f fd)(B:Bt mg)(Q:qF K "Put" l)(qT:oS K l "road")(qJ:oS K l "first")(qo:oS K l "second")(R:qF K "Part" n)(ro:oS K n "road")(qS:oS K n "first")(qB:oS K n "second")(S:qF K "Cut" s)(qw:oS K s "road")(T:qF K "Draw" t)(rp:oS K t "road")(U:qF K "Found" u)(X:qF K "Raze" x)(Y:ES P w K mg base "Put" l E G ["self","road","first","second"] ["road","first","second"])(Hk:ES P w K mg base "Part" n H I ["self","road","first","second"] ["road","first","second"])(E4:ES P w K mg base "Cut" s J L ["self","road"] ["road"])(Hs:ES P w K mg base "Draw" t M O ["self","road"] ["road"])(DS:Tb K mg "Found" u)(GV:Tb K mg "Raze" x):Pi P w K mg base f fd:=
 Yd D Vr λ_ _ _ _ _ _ hr hu z=>⟨_,
   (oJ (rV (qK op_eq (tG (KF.or qm wk) (pv 0) oY (λ_ _=>rfl)) tu (sA _)) (oN (pK (AG Y ∅ (oz (tG (KF.or qm wk) (pv 0) oY (λ_ _=>rfl)) (oz (tG (KF.or qm wk) (pv 0) oY (λ_ _=>rfl)) (oz (tG (KF.or qm wk) (pv 0) oY (λ_ _=>rfl)) oB)))))) qd)
   (oJ (rV (qK op_eq (tG (KF.or qm wk) (pv 0) oY (λ_ _=>rfl)) tu (sA _)) (oN (pK (AG Hk ∅ (oz (tG (KF.or qm wk) (pv 0) oY (λ_ _=>rfl)) (oz (tG (KF.or qm wk) (pv 0) oY (λ_ _=>rfl)) (oz (tG (KF.or qm wk) (pv 0) oY (λ_ _=>rfl)) oB)))))) qd)
   (oJ (rV (qK op_eq (tG (KF.or qm wk) (pv 0) oY (λ_ _=>rfl)) tu (sA _)) (oN (pK (AG E4 ∅ (oz (tG (KF.or qm wk) (pv 0) oY (λ_ _=>rfl)) oB)))) qd)
   (oJ (rV (qK op_eq (tG (KF.or qm wk) (pv 0) oY (λ_ _=>rfl)) tu (sA _)) (oN (pK (AG Hs ∅ (oz (tG (KF.or qm wk) (pv 0) oY (λ_ _=>rfl)) oB)))) qd)
   (oJ (rV (qK op_eq (tG (KF.or qm wk) (pv 0) oY (λ_ _=>rfl)) tu (sA _)) (oN (pK (Oj DS))) qd)
   (oN (pK (Oj GV)))))))),
   (pT (um (rD (qc Ap (qc wx (oO 0) pI) tN)) (qk (AH Q (oR (qc wx (oO 0) pI) (oR (qc wx (oO 0) pI) (oR (qc wx (oO 0) pI) pP))))) ql)
   (pT (um (rD (qc Ap (qc wx (oO 0) pI) tN)) (qk (AH R (oR (qc wx (oO 0) pI) (oR (qc wx (oO 0) pI) (oR (qc wx (oO 0) pI) pP))))) ql)
   (pT (um (rD (qc Ap (qc wx (oO 0) pI) tN)) (qk (AH S (oR (qc wx (oO 0) pI) pP))) ql)
   (pT (um (rD (qc Ap (qc wx (oO 0) pI) tN)) (qk (AH T (oR (qc wx (oO 0) pI) pP))) ql)
   (pT (um (rD (qc Ap (qc wx (oO 0) pI) tN)) (qk (NW U)) ql)
   (qk (NW X)))))))⟩
abbrev Dm:Stmt:=yJ 38 2
def Nl:oU ["self","m"] ["self","m"] (oI Dm):=sC
def OC(F:AN K "back" "Part.back" Dm f fd)(mt:yj K n "back" f)(b:qY K fd ["self","m"] [])(B:Bt mg)(l:Bl P w K mg base u29 v29)(u:qF K "Part" n)(x:oS K n "road")(z:oS K n "first")(E:oS K n "second")(G:qF K "Draw" s)(H:oS K s "road"):DU P w K mg base 10 n "back" ["self","m"] (wN K K26.tX) f fd:=
 ⟨u.cl,mt,b,E7 F Nl λ_ _ _ _ _ _ hr I t=>⟨_,
   (oN (pK (uR l ∅ qg (oz (pv 0) (oz (pv 1) oB))))),
   (wL (oC (oQ 0) (oC (oQ 1) oP)))⟩⟩
abbrev Dr:Stmt:=yJ 39 2
def N7:oU ["self","m"] ["self","m"] (oI Dr):=sC
def MY(F:AN K "back" "Draw.back" Dr f fd)(mt:yj K s "back" f)(b:qY K fd ["self","m"] [])(B:Bt mg)(l:Bf P w K mg base u30 v30)(x:qF K "Part" n)(z:oS K n "road")(E:oS K n "first")(G:oS K n "second")(u:qF K "Draw" s)(H:oS K s "road"):DU P w K mg base 9 s "back" ["self","m"] (wN K K26.tT) f fd:=
 ⟨u.cl,mt,b,E7 F N7 λ_ _ _ _ _ _ hr I t=>⟨_,
   (oN (pK (uR l ∅ qg (oz (pv 0) (oz (pv 1) oB))))),
   (wL (oC (oQ 0) (oC (oQ 1) oP)))⟩⟩
abbrev BB:Stmt:=yJ 40 1
def La:oU ["self","m"] ["self","m"] (oI BB):=sC
def K6(F:AN K "back" "Found.back" BB f fd)(mt:yj K n "back" f)(b:qY K fd ["self","m"] [])(B:Bt mg)(l:xE P w K mg base u25 v25)(u:qF K "Found" n)(x:qF K "Raze" s)(z:Tb K mg "Raze" s):DU P w K mg base 7 n "back" ["self","m"] (wN K K26.uE) f fd:=
 ⟨u.cl,mt,b,E7 F La λ_ _ _ _ _ _ hr E t=>⟨_,
   (oJ (qX (uR l ∅ qg (oz (pv 0) (oz (pv 1) oB))))
   (oN (pK (Oj z)))),
   (vc (xC (oC (oQ 0) (oC (oQ 1) oP)))
   (vA (qk (NW x))))⟩⟩
abbrev Dc:Stmt:=yJ 41 1
def OH:oU ["self","m"] ["self","m"] (oI Dc):=sC
def N0(F:AN K "back" "Raze.back" Dc f fd)(mt:yj K n "back" f)(b:qY K fd ["self","m"] [])(B:Bt mg)(l:yc P w K mg base u26 v26)(u:qF K "Found" s)(x:qF K "Raze" n)(z:Tb K mg "Found" s):DU P w K mg base 6 n "back" ["self","m"] (wN K K26.tV) f fd:=
 ⟨x.cl,mt,b,E7 F OH λ_ _ _ _ _ _ hr E t=>⟨_,
   (oJ (qX (uR l ∅ qg (oz (pv 0) (oz (pv 1) oB))))
   (oN (pK (Oj z)))),
   (vc (xC (oC (oQ 0) (oC (oQ 1) oP)))
   (vA (qk (NW u))))⟩⟩
abbrev Gh:Stmt:=top 60
def zB:oU ["_law_change","_law_m","_law_told","_law_found","_law_e"] ["_law_change","_law_m"] (oI Gh):=sC
abbrev O6(P w K mg base):=Fn P w K mg base 11 "_law_back" Gh ["_law_change","_law_m"] (rW K K26.zY)
def VQ(D:xN K mg "_law_back" Gh ["_law_change","_law_m"] f fd)(B:Bt mg)(l:agU K mg "MapError" G H)(I:Ki P w K mg base u41 v41)(J:qF K "Put" n)(Y:oS K n "road")(qJ:oS K n "first")(qo:oS K n "second")(L:qF K "Part" s)(ro:oS K s "road")(qS:oS K s "first")(qB:oS K s "second")(M:qF K "Cut" t)(qw:oS K t "road")(O:qF K "Draw" u)(rp:oS K u "road")(Q:qF K "Found" x)(R:qF K "Raze" z)(JP:DU P w K mg base 8 n "back" ["self","m"] (wN K K22.rh) fPut_back fdPut_back)(JS:DU P w K mg base 7 t "back" ["self","m"] (wN K K26.sF) fCut_back fdCut_back)(S:DU P w K mg base 10 s "back" ["self","m"] (wN K K26.tX) fPart_back fdPart_back)(T:DU P w K mg base 9 u "back" ["self","m"] (wN K K26.tT) fDraw_back fdDraw_back)(U:DU P w K mg base 7 x "back" ["self","m"] (wN K K26.uE) fFound_back fdFound_back)(X:DU P w K mg base 6 z "back" ["self","m"] (wN K K26.tV) fRaze_back fdRaze_back):O6 P w K mg base f fd:=
 Yd D zB λ_ _ _ _ _ _ hr hu E=>⟨_,
   (oJ (qD (i:=2) zB AC)
   (oJ (qD (i:=3) zB AC)
   (oJ (by (repeat' apply X6) <;> exact TJ (U1 (i:=3) ‹_› ∅ (pv 0) (oz (pv 1) oB) (afB (i:=4) l.xc l.base l.mgc zB.nd rfl rfl (λ_=>(oN (qD (i:=2) zB (YW I ((hr.h _).mono ⋯) (oz (pv 4) oB))))) aaS) zB.nd rfl (by trivial)))
   (oJ (rV (qK KG (pv 2) AC (sA _)) (oN (pK (si (oz tu (oz (pv 3) oB))))) qd)
   (oN (pK (si (oz tu (oz (pv 2) oB))))))))),
   (pT (qN (i:=2) (SR.kSc AM))
   (pT (qN (i:=3) (SR.kSc AM))
   (pT (AB (wO (qH J (oQ 0) (oC (oQ 1) oP)) (Cz l.c (qN (i:=2) (pA (oC (oQ 4) oP))) yS)) (AB (wO (qH M (oQ 0) (oC (oQ 1) oP)) (Cz l.c (qN (i:=2) (pA (oC (oQ 4) oP))) yS)) (AB (wO (qH L (oQ 0) (oC (oQ 1) oP)) (Cz l.c (qN (i:=2) (pA (oC (oQ 4) oP))) yS)) (AB (wO (qH O (oQ 0) (oC (oQ 1) oP)) (Cz l.c (qN (i:=2) (pA (oC (oQ 4) oP))) yS)) (AB (wO (qH Q (oQ 0) (oC (oQ 1) oP)) (Cz l.c (qN (i:=2) (pA (oC (oQ 4) oP))) yS)) (wO (qH R (oQ 0) (oC (oQ 1) oP)) (Cz l.c (qN (i:=2) (pA (oC (oQ 4) oP))) yS)))))))
   (pT (um (rD (qc JF (oO 2) AM)) (qk (uK (oC (SR.kSc tN) (oC (Eu 3) oP)))) ql)
   (qk (uK (oC (SR.kSc tN) (oC (Eu 2) oP))))))))⟩
abbrev BY:Stmt:=top 61
def QP:oU ["_law_m","_law_road","_law_prev","_law_end","_law_then","_law_first","_law_second"] ["_law_m","_law_road"] (oI BY):=sC
abbrev Jh(P w K mg base):=Fn P w K mg base 2 "_law_behind" BY ["_law_m","_law_road"] (rW K K26.qu)
def OW(D:xN K mg "_law_behind" BY ["_law_m","_law_road"] f fd)(B:Bt mg)(l:G1 P w K mg base u38 v38):Jh P w K mg base f fd:=
 Li D QP (by bv_omega)
abbrev Ir:Stmt:=top 62
def Zf:oU ["_law_m","_law_words_here"] ["_law_m","_law_words_here"] (oI Ir):=sC
abbrev Us(P w K mg base):=Fn P w K mg base 4 "_law_due" Ir ["_law_m","_law_words_here"] (rW K K26.ve)
def ZX(D:xN K mg "_law_due" Ir ["_law_m","_law_words_here"] f fd)(B:Bt mg)(l:Jh P w K mg base u46 v46)(n:My P w K mg base u39 v39):Us P w K mg base f fd:=
 Li D Zf (by bv_omega)
abbrev IB:Stmt:=top 63
def sj:oU ["_law_script","_law_many","_law_name","_law_cell_here","_law_ends","_law_k","_law_left","_law_follow","_law_end","_law_turns","_law_met","_law_turn_here","_law_names_here"] ["_law_script"] (oI IB):=sC
abbrev UK(P w K mg base):=Fn P w K mg base 2 "_law_any" IB ["_law_script"] (rW K K16.IA)
def Zs(D:xN K mg "_law_any" IB ["_law_script"] f fd)(B:Bt mg)(l:FO P w K mg base u31 v31):UK P w K mg base f fd:=
 Yd D sj λ_ _ _ _ _ _ hr s n=>⟨_,
   (oJ (qD (i:=1) sj (rA wo (qP l hr (oz (pv 0) (oz oY oB))) oY))
   (oJ (qD (i:=2) sj oY)
   (oJ (qD (i:=3) sj (qP l hr (oz (pv 0) (oz oY oB))))
   (oJ (qD (i:=4) sj (si oB))
   (oJ (Hg PassesOwn.never rfl (Bn (by rfl) B.range (oz (pv 1) oB)) (HY (i:=5) sj)
    (oJ (qD (i:=2) sj (rA xV (rA xV (pv 2) oY) (rA wo (pv 3) (rA Kw oY oY)))) (oJ (qD (i:=3) sj (rA aaM (pv 3) (rA Kw oY oY))) (oN (qX (vN aj dN dO DV (pv 4) (oz (si (oz (pv 2) (oz (AZ yi (pv 2)) oB))) oB)))))))
   (oJ (qD (i:=6) sj (Mm GN (by rfl) B.list dh (oz (pv 4) oB)))
   (oJ (qD (i:=3) sj (qP l hr (oz (pv 0) (oz oY oB))))
   (oJ (qD (i:=7) sj JU)
   (oJ (Hg PassesOwn.never rfl (zk (pv 4)) (HY (i:=8) sj)
    (oJ (Oy (Me hr) (pv 7) (pv 8) (vN aj fO fQ Qp (pv 6) (oz (rA wo (pv 3) (qr vp (by rfl) B.len PySem.boot_len (oz (pv 6) oB))) oB)) rfl) (oN (qD (i:=3) sj (rA Cp (pv 3) (rA xV (qr vp (by rfl) B.len PySem.boot_len (oz (pv 6) oB)) oY))))))
   (oJ (qD (i:=9) sj (si oB))
   (oJ (qD (i:=10) sj JU)
   (oJ (Hg PassesOwn.never rfl (zk (pv 4)) (HY (i:=8) sj)
    (oJ (qD (i:=11) sj (si oB)) (oJ (Jz PassesOwn.never (RZ (Hx (Me hr) (pv 8) (pv 10))) (oJ (Oy (Me hr) (pv 10) (pv 8) Cs rfl) (oJ (qX (vN aj aL aN sY (pv 11) (oz (pv 8) oB))) (oN (qD (i:=8) sj (UA (Me hr) (pv 7) (pv 8) (by first|rfl|exact trivial|(intro _ _;rfl)))))))) (oN (rV (IS (pv 11) (λ_=>rfl)) (oN (qX (vN aj aL aN sY (pv 9) (oz (pv 11) oB)))) qd)))))
   (oJ (qD (i:=12) sj (si oB))
   (oJ (qD (i:=2) sj (rA xV oY (rA wo (qP l hr (oz (pv 0) (oz oY oB))) (rA Kw oY oY))))
   (oJ (Jz PassesOwn.never (qK Pe (qr vp (by rfl) B.len PySem.boot_len (oz (pv 12) oB)) oY (sA _)) (oJ (rV (RZ (Hx (Me hr) (pv 2) (pv 10))) (oN (qX (vN aj aL aN sY (pv 12) (oz (pv 2) oB)))) qd) (oN (qD (i:=2) sj (rA xV (pv 2) oY)))))
   (oN (pK (xB (oz (rA Hv (pv 9) (Au (cl:=[]) (N:=["_law_k"]) (fr:=[]) rfl rfl (by trivial) rfl (by trivial) rfl (yz.none (by trivial)) (Bn (by rfl) B.range (oz (rA wo (rA Cp (qP l hr (oz (pv 0) (oz oY oB))) oY) oY) oB)) (λ_ _ _ _=>Hi) (λ_ _ _ _=>(si oB)))) (oz (pv 12) oB)))))))))))))))))))),by infer_instance⟩
abbrev Eo:Stmt:=yJ 36 4
def P5:oU ["self"] ["self"] (oI Eo):=sC
def Pl(F:AN K "told" "Put.told" Eo f fd)(mt:yj K l "told" f)(b:qY K fd ["self"] [])(B:Bt mg)(n:qF K "Put" l)(t:oS K l "road")(u:oS K l "first")(x:oS K l "second"):Kx P w K mg base 1 l "told" ["self"] (rW K K21.wU) f fd:=
 ⟨n.cl,mt,b,fnM F P5 λ_ _ _ _ _ _ hr z s=>⟨_,
   (oN (pK (xB (oz tu (oz (tS (pv 0) (by rfl)) (oz (tS (pv 0) (by rfl)) (oz (tS (pv 0) (by rfl)) oB))))))),
   (qk (yh (oC (SR.kSc tN) (oC (SR.kSc (sO n t (oO 0))) (oC (SR.kSc (sO n u (oO 0))) (oC (SR.kSc (sO n x (oO 0))) oP))))))⟩⟩
abbrev Ey:Stmt:=yJ 37 4
def OS:oU ["self"] ["self"] (oI Ey):=sC
def Px(F:AN K "told" "Cut.told" Ey f fd)(mt:yj K l "told" f)(b:qY K fd ["self"] [])(B:Bt mg)(n:qF K "Cut" l)(t:oS K l "road"):Kx P w K mg base 1 l "told" ["self"] (rW K K22.wX) f fd:=
 ⟨n.cl,mt,b,fnM F OS λ_ _ _ _ _ _ hr u s=>⟨_,
   (oN (pK (xB (oz tu (oz (tS (pv 0) (by rfl)) oB))))),
   (qk (yh (oC (SR.kSc tN) (oC (SR.kSc (sO n t (oO 0))) oP))))⟩⟩
abbrev CT:Stmt:=yJ 38 4
def OB:oU ["self"] ["self"] (oI CT):=sC
def Oc(F:AN K "told" "Part.told" CT f fd)(mt:yj K l "told" f)(b:qY K fd ["self"] [])(B:Bt mg)(n:qF K "Part" l)(t:oS K l "road")(u:oS K l "first")(x:oS K l "second"):Kx P w K mg base 1 l "told" ["self"] (rW K K26.vP) f fd:=
 ⟨n.cl,mt,b,fnM F OB λ_ _ _ _ _ _ hr z s=>⟨_,
   (oN (pK (xB (oz tu (oz (tS (pv 0) (by rfl)) (oz (tS (pv 0) (by rfl)) (oz (tS (pv 0) (by rfl)) oB))))))),
   (qk (yh (oC (SR.kSc tN) (oC (SR.kSc (sO n t (oO 0))) (oC (SR.kSc (sO n u (oO 0))) (oC (SR.kSc (sO n x (oO 0))) oP))))))⟩⟩
abbrev Dz:Stmt:=yJ 39 4
def MR:oU ["self"] ["self"] (oI Dz):=sC
def Ol(F:AN K "told" "Draw.told" Dz f fd)(mt:yj K l "told" f)(b:qY K fd ["self"] [])(B:Bt mg)(n:qF K "Draw" l)(t:oS K l "road"):Kx P w K mg base 1 l "told" ["self"] (rW K K25.vM) f fd:=
 ⟨n.cl,mt,b,fnM F MR λ_ _ _ _ _ _ hr u s=>⟨_,
   (oN (pK (xB (oz tu (oz (tS (pv 0) (by rfl)) oB))))),
   (qk (yh (oC (SR.kSc tN) (oC (SR.kSc (sO n t (oO 0))) oP))))⟩⟩
abbrev BC:Stmt:=yJ 40 3
def Lg:oU ["self"] ["self"] (oI BC):=sC
def Lj(F:AN K "told" "Found.told" BC f fd)(mt:yj K l "told" f)(b:qY K fd ["self"] [])(B:Bt mg)(s:qF K "Found" l):Kx P w K mg base 1 l "told" ["self"] (rW K K26.vd) f fd:=
 ⟨s.cl,mt,b,fnM F Lg λ_ _ _ _ _ _ hr t n=>⟨_,
   (oN (pK (xB (oz tu oB)))),
   (qk (yh (oC (SR.kSc tN) oP)))⟩⟩
abbrev Do:Stmt:=yJ 41 3
def Nb:oU ["self"] ["self"] (oI Do):=sC
def OM(F:AN K "told" "Raze.told" Do f fd)(mt:yj K l "told" f)(b:qY K fd ["self"] [])(B:Bt mg)(s:qF K "Raze" l):Kx P w K mg base 1 l "told" ["self"] (rW K K26.vQ) f fd:=
 ⟨s.cl,mt,b,fnM F Nb λ_ _ _ _ _ _ hr t n=>⟨_,
   (oN (pK (xB (oz tu oB)))),
   (qk (yh (oC (SR.kSc tN) oP)))⟩⟩
abbrev Ed:Stmt:=top 64
def wt:oU ["_law_script","_law_names_here","_law_m","_law_cell_here","_law_free","_law_turns","_law_words_here","_law_change","_law_handed","_law_found","_law_told","_law_back_here","_law_again"] ["_law_script"] (oI Ed):=sC
abbrev ajy(P w K mg base):=Fn P w K mg base 12 "law" Ed ["_law_script"] (rW K K26.UI)
def agD{n:Addr}{s:Addr}{J:Addr}{L:Addr}{M:Addr}{O:Addr}{l:Addr}(D:xN K mg "law" Ed ["_law_script"] f fd)(B:Bt mg)(Vo:Mb P w K mg base u32 v32)(NS:NB P w K mg base u35 v35)(Q:FO P w K mg base u31 v31)(Wj:Mq P w K mg base u43 v43)(R:Pi P w K mg base u44 v44)(S:PD P w K mg base u40 v40)(T:Pm P w K mg base u42 v42)(Rc:O6 P w K mg base u45 v45)(TX:OL P w K mg base u36 v36)(U:UK P w K mg base u48 v48)(t:LA P w K mg base u37 v37)(V1:Mi P w K mg base u33 v33)(X:Us P w K mg base u47 v47)(x:qF K "Put" n)(qT:oS K n "road")(qJ:oS K n "first")(qo:oS K n "second")(z:qF K "Part" s)(ro:oS K s "road")(qS:oS K s "first")(qB:oS K s "second")(E:qF K "Cut" J)(qw:oS K J "road")(G:qF K "Draw" L)(rp:oS K L "road")(H:qF K "Found" M)(I:qF K "Raze" O)(aa6:V7 K n)(abP:W.kitOne K (.ref n) (.ref l)=some true)(Y:mg "Change" = some (.ref l))(abi:V7 K J)(abI:W.kitOne K (.ref J) (.ref l)=some true)(Ui:V7 K s)(aaK:W.kitOne K (.ref s) (.ref l)=some true)(T2:V7 K L)(Z1:W.kitOne K (.ref L) (.ref l)=some true)(PU:V7 K M)(Xo:W.kitOne K (.ref M) (.ref l)=some true)(Tt:V7 K O)(XS:W.kitOne K (.ref O) (.ref l)=some true)(ahH:Kx P w K mg base 1 n "told" ["self"] (rW K K21.wU) fPut_told fdPut_told)(aic:Kx P w K mg base 1 J "told" ["self"] (rW K K22.wX) fCut_told fdCut_told)(afy:Kx P w K mg base 1 s "told" ["self"] (rW K K26.vP) fPart_told fdPart_told)(afY:Kx P w K mg base 1 L "told" ["self"] (rW K K25.vM) fDraw_told fdDraw_told)(adB:Kx P w K mg base 1 M "told" ["self"] (rW K K26.vd) fFound_told fdFound_told)(ae4:Kx P w K mg base 1 O "told" ["self"] (rW K K26.vQ) fRaze_told fdRaze_told):ajy P w K mg base f fd:=
 Yd D wt λ_ _ _ _ _ _ hr hu hu65=>⟨_,
   (oJ (qD (i:=1) wt (qP Vo hr (oz (pv 0) oB)))
   (oJ (qD (i:=2) wt (qP NS hr (oz (qP TX hr (oz (qP V1 hr (oz (Bc DC (pv 0) (B0 oY) (B0 oY)) (oz (pv 1) oB))) oB)) oB)))
   (oJ (qD (i:=3) wt (qP Q hr (oz (pv 0) (oz oY oB))))
   (oJ (qD (i:=4) wt (Gb op_eq (rA wo (qP Q hr (oz (pv 0) (oz oY oB))) oY) oY (sA _)))
   (oJ (rV (vz (pv 4)) (oJ (aio (qP U hr (oz (pv 0) oB)) (aac rfl (Ju (HY (i:=5) wt) (Ju (HY (i:=1) wt) UE)))) (oJ (qD (i:=2) wt (qP NS hr (oz (pv 5) oB))) (oN (qD (i:=3) wt (qP Q hr (oz (pv 0) (oz oY oB))))))) qd)
   (oJ (qD (i:=6) wt (qP Wj hr (oz (pv 3) (oz (pv 2) (oz (tG qm (pv 1) oY (λ_ _=>rfl)) (oz (pv 4) oB))))))
   (oJ (qD (i:=7) wt (qP R hr (oz (pv 6) oB)))
   (oJ (rV (PW.pt (Pn (AA (vz (by (repeat' apply G5) <;> exact qr (Kh (qF.cl ‹_›) ‹_› ‹_› On) (by rfl) B.isi au (oz (pv 7) (oz (zm (v:=.ref l) (by rfl) Y rfl) oB))))) (IW (AA (vz (qP t hr (oz (by (repeat' apply G5) <;> exact B9 ‹_› ∅ (pv 7)) (oz (pv 6) oB)))))))) (oN (pK Cs)) qd)
   (oJ (qD (i:=8) wt (qP S hr (oz (pv 2) oB)))
   (oJ (qD (i:=9) wt (qP T hr (oz (pv 7) (oz (pv 8) oB))))
   (oJ (qD (i:=10) wt (qP Rc hr (oz (pv 7) (oz (pv 8) oB))))
   (oJ (rV (AA (vz (qP t hr (oz (pv 8) (oz (pv 2) oB))))) (oN (pK Cs)) qd)
   (oJ (rV (qK op_eq (tG qm (pv 9) oY (λ_ _=>rfl)) tu (sA _)) (oN (pK (Jn (Gb op_eq (qr vp (by rfl) B.len PySem.boot_len (oz (tG qm (pv 9) oY (λ_ _=>rfl)) oB)) oY (sA _)) (NJ (qP t hr (oz (pv 10) (oz (pv 9) oB))))))) qd)
   (oJ (qD (i:=11) wt (tG qm (pv 10) oY (λ_ _=>rfl)))
   (oJ (rV (PW.pt (Pn (qK LF (tG qm (pv 10) oY (λ_ _=>rfl)) tu (sA _)) (IW (AA (vz (by (repeat' apply G5) <;> exact qr (Kh (qF.cl ‹_›) ‹_› ‹_› On) (by rfl) B.isi au (oz (pv 11) (oz (zm (v:=.ref l) (by rfl) Y rfl) oB)))))))) (oN (pK Cs)) qd)
   (oJ (rV (AA (vz (qP t hr (oz (by (repeat' apply G5) <;> exact B9 ‹_› ∅ (pv 11)) (oz (qP X hr (oz (pv 2) (oz (pv 6) oB))) oB))))) (oN (pK Cs)) qd)
   (oJ (rV (AA (vz (qP t hr (oz (qP T hr (oz (pv 11) (oz (qP S hr (oz (tG qm (pv 9) oY (λ_ _=>rfl)) oB)) oB))) (oz (si (oz tu (oz (pv 2) oB))) oB))))) (oN (pK Cs)) qd)
   (oJ (qD (i:=12) wt (qP Rc hr (oz (pv 11) (oz (qP S hr (oz (tG qm (pv 9) oY (λ_ _=>rfl)) oB)) oB))))
   (oJ (rV (PW.pt (Pn (qK LF (tG qm (pv 12) oY (λ_ _=>rfl)) tu (sA _)) (IW (AA (vz (by (repeat' apply G5) <;> exact qr (Kh (qF.cl ‹_›) ‹_› ‹_› On) (by rfl) B.isi au (oz (tG qm (pv 12) oY (λ_ _=>rfl)) (oz (zm (v:=.ref l) (by rfl) Y rfl) oB)))))))) (oN (pK Cs)) qd)
   (oN (pK (Jn (qP t hr (oz (by (repeat' apply G5) <;> exact B9 ‹_› ∅ (tG qm (pv 12) oY (λ_ _=>rfl))) (oz (pv 6) oB))) (NJ (qP t hr (oz (qP T hr (oz (pv 7) (oz (pv 8) oB))) (oz (pv 9) oB)))))))))))))))))))))))))),
   (pT (qN (i:=1) (pA (oC (oQ 0) oP)))
   (pT (qN (i:=2) (pA (oC (pA (oC (pA (oC (LR (xa 0) (Bq pI) (Bq pI)) (oC (oQ 1) oP))) oP)) oP)))
   (pT (qN (i:=3) (SR.kSc (wQ (oR (oO 0) (oR pI pP)))))
   (pT (qN (i:=4) (SR.kSc (qc Ap (qc Jp (wQ (oR (oO 0) (oR pI pP))) pI) pI)))
   (pT (um (xS (oO 4)) (pT (ac3 [5,1] (pA (oC (oQ 0) oP))) (pT (qN (i:=2) (pA (oC (oQ 5) oP))) (qN (i:=3) (SR.kSc (wQ (oR (oO 0) (oR pI pP))))))) ql)
   (pT (qN (i:=6) (pA (oC (oQ 3) (oC (oQ 2) (oC (SR.kSc (qc yx (oO 1) pI)) (oC (oQ 4) oP))))))
   (pT (qN (i:=7) (pA (oC (oQ 6) oP)))
   (pT (um (Qn (AI (xS (sU (vB (w:=.ref l) (u:=.ref l) x rfl (oO 7)) (sU (vB (w:=.ref l) (u:=.ref l) E rfl (oO 7)) (sU (vB (w:=.ref l) (u:=.ref l) z rfl (oO 7)) (sU (vB (w:=.ref l) (u:=.ref l) G rfl (oO 7)) (sU (vB (w:=.ref l) (u:=.ref l) H rfl (oO 7)) (vB (w:=.ref l) (u:=.ref l) I rfl (oO 7))))))))) (AI (xS (wQ (oR (sU (SK.rOf (pA (qH x (oQ 7) oP))) (sU (SK.rOf (pA (qH E (oQ 7) oP))) (sU (SK.rOf (pA (qH z (oQ 7) oP))) (sU (SK.rOf (pA (qH G (oQ 7) oP))) (sU (SK.rOf (pA (qH H (oQ 7) oP))) (SK.rOf (pA (qH I (oQ 7) oP)))))))) (oR (oO 6) pP)))))) (qk (SR.kSc C3)) ql)
   (pT (qN (i:=8) (pA (oC (oQ 2) oP)))
   (pT (qN (i:=9) (pA (oC (oQ 7) (oC (oQ 8) oP))))
   (pT (qN (i:=10) (pA (oC (oQ 7) (oC (oQ 8) oP))))
   (pT (um (AI (xS (wQ (oR (oO 8) (oR (oO 2) pP))))) (qk (SR.kSc C3)) ql)
   (pT (um (rD (qc Ap (qc yx (oO 9) pI) tN)) (qk (SR.kSc (KI (qc Ap (vI BV (oR (qc yx (oO 9) pI) pP)) pI) (wQ (oR (oO 10) (oR (oO 9) pP)))))) ql)
   (pT (qN (i:=11) (Ek (xa 10) pI))
   (pT (um (Qn (rD (qc LG (qc yx (oO 10) pI) tN)) (AI (xS (sU (vB (w:=.ref l) (u:=.ref l) x rfl (oO 11)) (sU (vB (w:=.ref l) (u:=.ref l) E rfl (oO 11)) (sU (vB (w:=.ref l) (u:=.ref l) z rfl (oO 11)) (sU (vB (w:=.ref l) (u:=.ref l) G rfl (oO 11)) (sU (vB (w:=.ref l) (u:=.ref l) H rfl (oO 11)) (vB (w:=.ref l) (u:=.ref l) I rfl (oO 11)))))))))) (qk (SR.kSc C3)) ql)
   (pT (um (AI (xS (wQ (oR (sU (SK.rOf (pA (qH x (oQ 11) oP))) (sU (SK.rOf (pA (qH E (oQ 11) oP))) (sU (SK.rOf (pA (qH z (oQ 11) oP))) (sU (SK.rOf (pA (qH G (oQ 11) oP))) (sU (SK.rOf (pA (qH H (oQ 11) oP))) (SK.rOf (pA (qH I (oQ 11) oP)))))))) (oR (SK.rOf (pA (oC (oQ 2) (oC (oQ 6) oP)))) pP))))) (qk (SR.kSc C3)) ql)
   (pT (um (AI (xS (wQ (oR (SK.rOf (pA (oC (oQ 11) (oC (pA (oC (Ek (xa 9) pI) oP)) oP)))) (oR (SK.rOf (uK (oC (SR.kSc tN) (oC (oQ 2) oP)))) pP))))) (qk (SR.kSc C3)) ql)
   (pT (qN (i:=12) (pA (oC (oQ 11) (oC (pA (oC (Ek (xa 9) pI) oP)) oP))))
   (pT (um (Qn (rD (qc LG (qc yx (oO 12) pI) tN)) (AI (xS (sU (vB (w:=.ref l) (u:=.ref l) x rfl (qc yx (oO 12) pI)) (sU (vB (w:=.ref l) (u:=.ref l) E rfl (qc yx (oO 12) pI)) (sU (vB (w:=.ref l) (u:=.ref l) z rfl (qc yx (oO 12) pI)) (sU (vB (w:=.ref l) (u:=.ref l) G rfl (qc yx (oO 12) pI)) (sU (vB (w:=.ref l) (u:=.ref l) H rfl (qc yx (oO 12) pI)) (vB (w:=.ref l) (u:=.ref l) I rfl (qc yx (oO 12) pI)))))))))) (qk (SR.kSc C3)) ql)
   (qk (SR.kSc (KI (wQ (oR (sU (SK.rOf (pA (qH x (Ek (xa 12) pI) oP))) (sU (SK.rOf (pA (qH E (Ek (xa 12) pI) oP))) (sU (SK.rOf (pA (qH z (Ek (xa 12) pI) oP))) (sU (SK.rOf (pA (qH G (Ek (xa 12) pI) oP))) (sU (SK.rOf (pA (qH H (Ek (xa 12) pI) oP))) (SK.rOf (pA (qH I (Ek (xa 12) pI) oP)))))))) (oR (oO 6) pP))) (wQ (oR (SK.rOf (pA (oC (oQ 7) (oC (oQ 8) oP)))) (oR (oO 9) pP)))))))))))))))))))))))))⟩
end K26
namespace K13
open PySem L2 Mr Z Xe Zl
def plain:Nat->D->Prop
 |0,_=>False
 |_+1,.int _=>True
 |_+1,.str _=>True
 |n+1,.list ds=>ds.length<1000000/\∀d∈ds,plain n d
 |n+1,.tup ds=>ds.length<1000000/\∀d∈ds,plain n d
 |_+1,_=>False
def xt:Nat->MF
 |0=>XW
 |n+1=>rE (xt n)
def Cj(t:x = .list ds∨x = .tup ds)(hd:∀d∈ds,fm [d,d]=i4 true):∃v,uY 2 (xJ fm) (sV 0 ds.length) [some (.sh x),some (.sh x),none]=some (.nx [some (.sh x),some (.sh x),v]):=by
 have key:=Ao (x:=2) (body:=xJ fm) (λ_ S=>∃v,S=[some (.sh x),some (.sh x),v]) (ds:=sV 0 ds.length) (S:=[some (.sh x),some (.sh x),none]) ⟨none,rfl⟩ (by
  rintro i d S l ⟨v,rfl⟩;have hi:i<ds.length:=by
   have:=(gSq.mp l).1
   rwa [uJ]at this
  rw[Em hi]at l;cases l;have n:atI ds (0+(i:Int))=some ds[i]:=by
   rw[NZ ∅]
   have:(0+(i:Int)).toNat=i:=by lia
   rw[this];exact gEg hi
  have s:=hd ds[i] (gRq hi);refine⟨[some (.sh x),some (.sh x),i0 (0+(i:Int))],?_,_,rfl⟩;rcases t with rfl|rfl
  .simp_arith [xJ,n,s]
  .simp_arith [xJ,n,s])
 obtain⟨u,e,v,rfl⟩:=key;exact⟨v,e⟩
def TN b:WZ (.bl b) (.bl b)=some (.bl false):=by cases b <;> rfl
theorem alike_refl:∀n d,plain n d->xt n [d,d]=i4 true
 |0,_,h=>h.elim
 |n+1,d,h=>by
  show rE (xt n) [d,d]=_;cases d with
  |int i=>simp_arith [rE,uG,eq_self,Ja]
  |str x=>simp_arith [rE,uG,eq_self,Kr]
  |list s=>
   obtain⟨v,e⟩:=Cj (fm:=xt n) (x:=.list s) (.inl rfl) λd hd=>alike_refl n d (h.2 d hd)
   have l:=Af (n:=s.length) h.1
   simp_arith [rE,uG,eq_self,TN,decide_true,fL,l,e]
  |tup s=>
   obtain⟨v,e⟩:=Cj (fm:=xt n) (x:=.tup s) (.inr rfl) λd hd=>alike_refl n d (h.2 d hd)
   have l:=Af (n:=s.length) h.1
   simp_arith [rE,uG,eq_self,TN,decide_true,fL,l,e]
  |_=>exact h.elim
def adz(hl:ns.length<=500000):A5 [dI ns]=some (aI (good ns)):=by
 cases ns with
 |nil=>
  simp_arith [A5,G7,K9]
  rfl
 |cons n ns=>
  obtain⟨t,u⟩:=Mg;have e:=C9 t u;have l:=J0 (n::ns);have hm:WJ [dI (n::ns)]=some (.int (ns.foldl min n)):=by
   show(vU ((n::ns).map D.int)).bind (λns=>(Oz ns).map D.int)=_
   rw[vO];rfl
  have x:BN (dI (n::ns)) [.int (ns.foldl min n)]=some (.int (qv (n::ns) (n::ns).length)):=by
   show(vU ((n::ns).map D.int)).bind _=_;rw[vO];show(if _ then _ else _)=_
   rw[qf t,e]
  have ht:K9 (dI (n::ns))=some true:=rfl;generalize z:n::ns=N at *;have s:(N.drop (qv N N.length)).length+(N.take (qv N N.length)).length<=tH:=by rw[aC,lTq];show _<=16777216;lia
  simp_arith [A5,G7,ht,hm,x,yE,FN N _ l,DX N _ l,s,←mBq,GM]
  rfl
def turn_comp{rs:Λ}(hl:∀r∈rs,r.length<=500000):uF xp (pJ A5 (oE (oW 0) oV)) [] (rs.map dI)=some ((rs.map good).map aI):=by
 rw[Z.yy λd=>aI (good (D3 d))]
 .rw[EX λr=>aI (good r),mPq]
  rfl
 .intro d hd;obtain⟨r,hr,rfl⟩:=CV hd;refine⟨[some (.sh (dI r))],?_⟩
  simp_arith [adz (hl r hr),xA]
def So(hl:∀r∈rs,r.length<=500000)(l:rs.length<=tH):Aj [dM rs]=some (.ow ((A7 (rs.map good)).map aI)):=by
 simp_arith [Aj,QD,turn_comp hl,l]
noncomputable def dL(ms:List Λ):D:=.list (ms.map dM)
def S4{ms:List Λ}{i:Nat}(h:ms[i]?=some m):(ms.take (i+1)).flatten=(ms.take i).flatten++m:=by
 rw[dG,h,fAq];simp
def aaC(ms:List Λ)i:(ms.take i).flatten.length<=ms.flatten.length:=by
 have:=congrArg bU (congrArg jR (aT i ms));rw[fAq,lAq]at this;lia
def acI{ms:List Λ}{i:Nat}(h:(ms.map dM)[i]?=some d):∃m,ms[i]?=some m/\d=dM m:=by
 rw[gMq]at h;obtain⟨r,l,n⟩:=oMq.mp h;exact⟨r,l,n.symm⟩
def oM(rs:Λ):AV:=.ow (rs.map λr=>.sh (dI r))
def X9 rs:pD (oM rs)=dM rs:=by unfold oM;rw[vi,NF]
def Vh(hb:body=Rz 1 (C0 2))(hl:ms.flatten.length<=500000):∃v,uY 2 body (ms.map dM) [some (.sh (dL ms)),some (.ow []),none]=some (.nx [some (.sh (dL ms)),some (oM ms.flatten),v]):=by
 subst hb;have key:=Ao (x:=2) (body:=Rz 1 (C0 2)) (λi S=>∃v,S=[some (.sh (dL ms)),some (oM (ms.take i).flatten),v]) (ds:=ms.map dM) (S:=[some (.sh (dL ms)),some (.ow []),none]) ⟨none,by simp[oM]⟩ (by
  rintro i d S hd ⟨v,rfl⟩;obtain⟨m,hm,rfl⟩:=acI hd;have l:=S4 hm;have n:=aaC ms (i+1);rw[l,lAq]at n;have s:(ms.take i).flatten.length+m.length<=tH:=uL ∅
  refine⟨[some (.sh (dL ms)),some (oM ((ms.take i).flatten++m)),some (.sh (dM m))],?_,some (.sh (dM m)),by rw[l]⟩
  simp_arith [oM,s,Uy,←mBq])
 obtain⟨t,e,v,rfl⟩:=key;rw[lMq,bB]at e;exact⟨v,e⟩
def aih(hl:ms.flatten.length<=500000):rN [dL ms]=some (oM ms.flatten):=by
 obtain⟨v,e⟩:=Vh (ms:=ms) (body:=xU) rfl hl;unfold dL at e ⊢
 simp_arith [rN,BH,e]
def alV(G:Λ):D:=.list [.str "map", dM G]
def acv(n)r(h:r.length<1000000):plain (n+2) (dI r):=⟨by rw[lMq];exact h,λd hd=>by obtain⟨z,_,rfl⟩:=mMq.mp hd;trivial⟩
def T9(n)rs(h:rs.length<=1000)(l:rs.flatten.length<=1000):plain (n+3) (dM rs):=⟨by rw[lMq];lia,λd hd=>by
 obtain⟨r,hr,rfl⟩:=CV hd;exact acv n r (by have:=Cf hr;lia)⟩
def LV G(h:G.length<=1000)(l:G.flatten.length<=1000):plain 4 (alV G):=⟨by show 2<1000000;decide,λd hd=>by
 rcases ah.mp hd with rfl|hd
 .trivial
 .rw[mSq.mp hd];exact T9 0 G h l⟩
def RB(w)z:plain 4 (.list [.str "refused", .list [.tup [.str w,.int z]]]):=⟨by show 2<1000000;decide,λd hd=>by
 rcases ah.mp hd with rfl|hd
 .trivial
 .rw[mSq.mp hd];exact⟨by show 1<1000000;decide,λd hd=>by
   rw[mSq.mp hd];exact⟨by show 2<1000000;decide,λd hd=>by
    rcases ah.mp hd with rfl|hd
    .trivial
    .rw[mSq.mp hd];trivial⟩⟩⟩
end K13
namespace K12
open PySem L2 Mr Z Xe Zl
abbrev aP(part:Λ):AV:=.ow (part.map aI)
def Jm n:ON (n+1) (-1)=some n:=by
 unfold ON;rw[qj ⋯,qf ∅]
 congr 1;lia
def Ze:rR (.ow ((P0++[last]).map aP)) [P0.length]=some (last.map aI):=by
 rw[De,gMq,gYq (ae _),cj];rfl
def E2{r:Ϝ}(hr:last[h]?=some r):rR (.ow ((P0++[last]).map aP)) [P0.length,h]=some (r.map λn=>.sh (.int n)):=by
 rw[De,gMq,gYq (ae _),cj];show rR (.ow (last.map aI)) [h]=_;rw[De,gMq,hr];rfl
def Jt{α β:Type}(f:α->β)(l:List α)i a:(l.map f).set i (f a)=(l.set i a).map f:=by rw[List.map_set]
def Uk{α:Type}(l:List α)a b:(l++[a]).set l.length b=l++[b]:=by
 rw[iE _ _ (ae _),cj];rfl
def alm{last'}:putAt (.ow ((P0++[last]).map aP)) [P0.length] (last'.map aI) = .ow ((P0++[last']).map aP):=by
 rw[EM (a:=aP last) (by rw[gMq,gYq (ae _),cj];rfl)]
 show AV.ow (((P0++[last]).map aP).set P0.length (aP last'))=_;rw[Jt,Uk]
def XI{r r':Ϝ}(hr:last[h]?=some r):putAt (.ow ((P0++[last]).map aP)) [P0.length,h] (r'.map λn=>.sh (.int n)) = .ow ((P0++[last.set h r']).map aP):=by
 rw[EM (a:=aP last) (by rw[gMq,gYq (ae _),cj];rfl)]
 have e:putAt (aP last) [h] (r'.map λn=>.sh (.int n))=aP (last.set h r'):=by
  rw[EM (a:=aI r) (by rw[gMq,hr];rfl)]
  show AV.ow ((last.map aI).set h (aI r'))=_;rw[Jt]
 rw[e,Jt,Uk]
structure Wd where
 P0:List Λ
 last:Λ
 t0:Θ
 h:Nat
 left:Ϝ
 used:Nat
noncomputable def sgn(c e:Int):Int:=if c / 8 % 2=1 then -e else e
def HB(nm:Ϝ)(w:Wd)(c:Int):Wd:=
 let e:=sgn c (nm.getD w.used 0)
 let r:=w.last.getD w.h []
 if c % 8<4 then
  if c % 8<2 then { w with last:=w.last.set w.h (r++[e]),left:=w.left++[-e],used:=w.used+1 }
  else { w with last:=w.last.set w.h (r++[e])++[[-e]],t0:=w.t0++[w.h],h:=w.last.length,used:=w.used+1 }
 else if c % 8<6 then
  if w.left=[]then w else { w with last:=w.last.set w.h (r++[w.left.getD (c / 16 % w.left.length).toNat 0]),left:=w.left.eraseIdx (c / 16 % w.left.length).toNat }
 else if c % 8=6 then
  match w.t0.getLast? with
  |none=>w
  |some h'=>{ w with t0:=w.t0.dropLast,h:=h' }
 else { P0:=w.P0++[w.last.set w.h (r++w.left)],last:=[[]],t0:=[],h:=0,left:=[],used:=w.used }
abbrev cN(l:Θ):Ϝ:=l.map λn:Nat=>(n:Int)
def st(v0 v1:Option AV)(w:Wd)(v6 v7 v8 v9:Option AV):AS:=[v0,v1,some (.ow ((w.P0++[w.last]).map aP)),some (aI (cN (w.t0++[w.h]))),some (aI w.left),i0 (w.used:Int),v6,v7,v8,v9]
def brA:Θ->MS:=(λpath=>oZ ((T5 2 (oW 9)) path) (oZ (pR 5 (kSc (qe yN (oH 5) (rC (.int 1))))) (wZ (tJ (qe Wx (oH 7) (rC (.int 2)))) (zf 4 (kSc (vJ wu (oH 9)))) (oZ (zf 3 (kSc (ze vZ (oK (qe HC (oH 2) (vJ wu (rC (.int 1)))) ph)))) (Ua 2 (pIx 2 (RU 2) (vJ wu (rC (.int 1)))) (sZ (oE (kSc (vJ wu (oH 9))) oV)))))))
def brB:Θ->MS:=(K3 2 (Pa (oH 4)) (MD 2 (FH 4 (qe xZ (qe GR (oH 6) (rC (.int 16))) (ze vZ (oK (oH 4) ph))))) (λ_=>pX))
def brC:Θ->MS:=(λ_=>(wZ (tJ (qe dGt (ze vZ (oK (oH 3) ph)) (rC (.int 1)))) (NQ (LB 3)) pX))
def brE:Θ->MS:=(λpath=>oZ ((UO 2 (C0 4)) path) (oZ (pR 4 (sZ oV)) (oZ (zf 2 (sZ (oE (sZ oV) oV))) (pR 3 (sZ (oE (kSc (rC (.int 0))) oV))))))
def Rf:Θ->MS:=(K3 2 (tJ (qe Wx (oH 7) (rC (.int 4)))) brA (K3 2 (tJ (qe Wx (oH 7) (rC (.int 6)))) brB (K3 2 (tJ (qe CI (oH 7) (rC (.int 6)))) brC brE)))
def aen:vb=(oZ (pR 7 (kSc (qe xZ (oH 6) (rC (.int 8))))) (ac9 8 2 (pIx 2 (pIx 2 (RU 2) (vJ wu (rC (.int 1)))) (qe HC (oH 3) (vJ wu (rC (.int 1))))) (WE 2 (pR 9 (kSc (qe HC (oH 1) (oH 5)))) (WE 2 (wZ (tJ (qe CI (qe xZ (qe GR (oH 6) (rC (.int 8))) (rC (.int 2))) (rC (.int 1)))) (pR 9 (kSc (vJ wu (oH 9)))) pX) Rf)))):=rfl
def ZN{r:Ϝ}(hh:hd<last.length)(hr:last[hd]?=some r)(L:used<nm.length) :
  vb (st v0 (some (.sh (dI nm))) ⟨P0,last,t0,hd,left,used⟩ (i0 c) v7 v8 v9)=Rf [P0.length,hd] (st v0 (some (.sh (dI nm))) ⟨P0,last,t0,hd,left,used⟩ (i0 c) (i0 (c % 8)) none (i0 (sgn c (nm.getD used 0)))):=by
 have z:=uT (i:=c) (j:=8) ⋯
 have B:=Ca (i:=c) (j:=8) ⋯ ⋯
 have E:=uT (i:=c / 8) (j:=2) ⋯
 have G:=E2 (P0:=P0) hr;have H:=Ze (P0:=P0) (last:=last);have l:(P0++[last]).length=P0.length+1:=by simp
 have I:=Jm P0.length;have J:ON last.length (hd:Int)=some hd:=Uv hh;have n:atI ((cN (t0++[hd])).map D.int) (-1)=some (.int (hd:Int)):=by
  unfold cN;rw[mBq,mBq];exact E9 _ _
 have st3:=sm (cN (t0++[hd]));have s:atI (nm.map D.int) (used:Int)=some (.int (nm.getD used 0)):=yr (by rw[gMq,gDq,gEg L];rfl)
 have t:((8:Nat)≠2/\8<10)=True:=by simp
 rw[aen]
 by_cases u:c / 8 % 2=1
 .have x:sgn c (nm.getD used 0) = -(nm.getD used 0):=qf u
  simp_arith [st,z,l,I,H,G,J,st3,dI,n,t,s,B,E,u,x,eq_self]
 .have x:sgn c (nm.getD used 0)=nm.getD used 0:=qj u
  simp_arith [st,z,l,I,H,G,J,st3,dI,n,t,s,B,E,u,x,eq_self]
section
variable {left r:Ϝ}
def MZ(r:Ϝ)e:(r.map λn=>AV.sh (.int n))++[.sh (.int e)]=(r++[e]).map λn=>.sh (.int n):=by rw[mBq];rfl
def Ub(r s:Ϝ):(r.map λn=>AV.sh (.int n))++(s.map D.int).map AV.sh=(r++s).map λn=>.sh (.int n):=by rw[mBq,mPq];rfl
def acu(l:Λ)e:l.map aI++[.ow [.sh (.int e)]]=(l++[[e]]).map aI:=by rw[mBq];rfl
def ad3(P:List Λ):P.map aP++[.ow [.ow []]]=(P++[[[]]]).map aP:=by rw[mBq];rfl
def afX(l)n:(cN l).map (λn=>AV.sh (.int n))++[.sh (.int (n:Int))]=(cN (l++[n])).map λn=>.sh (.int n):=by unfold cN;rw[mBq,mBq];rfl
def Uw(P:List Λ):(P.map aP).map pD=P.map dM:=by
 rw[mPq];refine mCq λp _=>?_
 show pD (.ow (p.map aI))=dM p;rw[vi,mPq];show D.list _=D.list _;congr 1;exact mCq λr _=>sm r
def al2(P0)last:atI ((P0++[last]).map dM) (-1)=some (dM last):=by rw[mBq];exact E9 _ _
theorem Yv{α β:Type}(f:α->β):∀(l:List α) i,(l.map f).eraseIdx i=(l.eraseIdx i).map f
 | [],i=>rfl
 |x::l,0=>rfl
 |x::l,i+1=>by rw[aw,bS,bS,Yv f l i,aw]
def afm{l:Ϝ}(h:l≠[]):K9 (.list (l.map D.int))=some true:=by
 cases l with
 |nil=>exact absurd rfl h
 |cons x l=>rfl
def akf(hh:hd<last.length)(hr:last[hd]?=some r)(l:r.length<500000)(n:left.length<500000)(s:c % 8<4)(t:c % 8<2) :
  Rf [P0.length,hd] (st v0 v1 ⟨P0,last,t0,hd,left,used⟩ (i0 c) (i0 (c % 8)) v8 (i0 e))=some (.nx (st v0 v1 ⟨P0,last.set hd (r++[e]),t0,hd,left++[-e],used+1⟩ (i0 c) (i0 (c % 8)) v8 (i0 e))):=by
 have u:=E2 (P0:=P0) hr;have l1:r.length<tH:=by show _<16777216;lia
 have l2:left.length<tH:=by show _<16777216;lia
 have x:=XI (P0:=P0) (r':=r++[e]) hr;have z:=MZ r e;have B:=MZ left (-e);have E:((used+1:Nat):Int)=(used:Int)+1:=by lia
 simp_arith [Rf,brA,st,s,u,l1,z,x,t,l2,B,E]
def akh(hh:hd<last.length)(hr:last[hd]?=some r)(t:r.length<500000)(u:last.length<500000)(x:t0.length<500000)(z:c % 8<4)(B:¬ c % 8<2) :
  Rf [P0.length,hd] (st v0 v1 ⟨P0,last,t0,hd,left,used⟩ (i0 c) (i0 (c % 8)) v8 (i0 e))=some (.nx (st v0 v1 ⟨P0,last.set hd (r++[e])++[[-e]],t0++[hd],last.length,left,used+1⟩ (i0 c) (i0 (c % 8)) v8 (i0 e))):=by
 have E:=E2 (P0:=P0) hr;have l1:r.length<tH:=by show _<16777216;lia
 have G:=XI (P0:=P0) (r':=r++[e]) hr;have H:=MZ r e;have I:((used+1:Nat):Int)=(used:Int)+1:=by lia
 have J:=Uw (P0++[last.set hd (r++[e])]);have s:=al2 P0 (last.set hd (r++[e]));have L:=Ze (P0:=P0) (last:=last.set hd (r++[e]));have l:(P0++[last.set hd (r++[e])]).length=P0.length+1:=by simp
 have n:(last.set hd (r++[e])).length=last.length:=lZq;have M:=Jm P0.length;have l2:last.length<tH:=by show _<16777216;lia
 have lt':(t0++[hd]).length<tH:=by rw[lAq];show t0.length+1<16777216;lia
 have O:=afX (t0++[hd]) last.length;have P:=acu (last.set hd (r++[e])) (-e);have Q:=alm (P0:=P0) (last:=last.set hd (r++[e])) (last':=last.set hd (r++[e])++[[-e]])
 simp_arith [Rf,brA,st,z,E,l1,H,G,B,J,s,L,l,n,M,l2,lt',O,P,Q,I]
def ajk(hr:last[hd]?=some r)(l:¬ c % 8<4)(n:c % 8<6) :
  Rf [P0.length,hd] (st v0 v1 ⟨P0,last,t0,hd,[],used⟩ (i0 c) (i0 (c % 8)) v8 (i0 e))=some (.nx (st v0 v1 ⟨P0,last,t0,hd,[],used⟩ (i0 c) (i0 (c % 8)) v8 (i0 e))):=by
 have s:=E2 (P0:=P0) hr;have t:K9 (.list [])=some false:=rfl
 simp_arith [Rf,brB,st,l,s,n,t]
def akI(hr:last[hd]?=some r)(x:r.length<500000)(z:left.length<500000)(l:left≠[])(B:¬ c % 8<4)(E:c % 8<6) :
  Rf [P0.length,hd] (st v0 v1 ⟨P0,last,t0,hd,left,used⟩ (i0 c) (i0 (c % 8)) v8 (i0 e))=some (.nx (st v0 v1 ⟨P0,last.set hd (r++[left.getD (c / 16 % left.length).toNat 0]),t0,hd,left.eraseIdx (c / 16 % left.length).toNat,used⟩ (i0 c) (i0 (c % 8)) v8 (i0 e))):=by
 have G:=E2 (P0:=P0) hr;have l1:r.length<tH:=by show _<16777216;lia
 have u:0<left.length:=eT.mpr l;have t:=Ca (i:=c) (j:=16) ⋯ ⋯
 have H:=uT (i:=c / 16) (j:=(left.length:Int)) ∅
 have I:0<=c / 16 % (left.length:Int):=bH _ ∅
 have b1:c / 16 % (left.length:Int)<(left.length:Int):=bF _ ∅
 have s:(c / 16 % (left.length:Int)).toNat<left.length:=by lia
 have J:left.length<=tH:=by show _<=16777216;lia
 have L:(left.map λn=>AV.sh (.int n))[(c / 16 % (left.length:Int)).toNat]?=i0 (left.getD (c / 16 % (left.length:Int)).toNat 0):=by
  rw[gMq,gEg s,gDq,gEg s];rfl
 have g2:(left.map λn=>AV.sh (.int n)).eraseIdx (c / 16 % (left.length:Int)).toNat=(left.eraseIdx (c / 16 % (left.length:Int)).toNat).map λn=>.sh (.int n):=Yv _ _ _
 have M:=XI (P0:=P0) (r':=r++[left.getD (c / 16 % (left.length:Int)).toNat 0]) hr;have O:=MZ r (left.getD (c / 16 % (left.length:Int)).toNat 0);have P:=sm left;have q:(0<=c / 16 % (left.length:Int)/\c / 16 % (left.length:Int)<(left.length:Int)/\left.length<=tH)=True:=by simp[I,b1,J]
 have Q:=afm l
 simp_arith [Rf,brB,st,B,G,E,l1,t,H,q,L,g2,O,M,P,dI,Q,eq_self,true_and]
def aky(hr:last[hd]?=some r)(l:c % 8=6) :
  Rf [P0.length,hd] (st v0 v1 ⟨P0,last,[],hd,left,used⟩ (i0 c) (i0 (c % 8)) v8 (i0 e))=some (.nx (st v0 v1 ⟨P0,last,[],hd,left,used⟩ (i0 c) (i0 (c % 8)) v8 (i0 e))):=by
 have n:=E2 (P0:=P0) hr;have s:¬ (6:Int)<4:=by decide
 have t:¬ (6:Int)<6:=by decide
 have u:=sm (cN [hd]);have x:decide ((1:Int)<((1:Nat):Int))=false:=by decide
 simp_arith [Rf,brC,st,l,n,s,t,u,dI,cN,x]
def akG(hr:last[hd]?=some r)(l:c % 8=6) :
  Rf [P0.length,hd] (st v0 v1 ⟨P0,last,t++[h'],hd,left,used⟩ (i0 c) (i0 (c % 8)) v8 (i0 e))=some (.nx (st v0 v1 ⟨P0,last,t,h',left,used⟩ (i0 c) (i0 (c % 8)) v8 (i0 e))):=by
 have s:=E2 (P0:=P0) hr;have u:¬ (6:Int)<4:=by decide
 have x:¬ (6:Int)<6:=by decide
 have z:=sm (cN (t++[h']++[hd]));have B:(1:Int)<((t++[h']++[hd]).length:Int):=by simp;lia
 have E:(cN (t++[h']++[hd])).map (λn=>AV.sh (.int n))=(cN (t++[h'])).map (λn=>AV.sh (.int n))++[.sh (.int (hd:Int))]:=(afX (t++[h']) hd).symm
 have G:((cN (t++[h'])).map (λn=>AV.sh (.int n))++[AV.sh (.int (hd:Int))])[((cN (t++[h'])).map (λn=>AV.sh (.int n))++[AV.sh (.int (hd:Int))]).length-1]?=i0 (hd:Int):=by
  rw[lAq,lSq,gYq ∅]
  simp
 have H:((cN (t++[h'])).map (λn=>AV.sh (.int n))++[AV.sh (.int (hd:Int))]).dropLast=(cN (t++[h'])).map (λn=>AV.sh (.int n)):=iU
 simp_arith [Rf,brC,st,l,s,u,x,z,dI,B,E,G,H]
def amn(hr:last[hd]?=some r)(t:r.length+left.length<500000)(u:P0.length<500000)(x:¬ c % 8<4)(z:¬ c % 8<6)(B:¬ c % 8=6) :
  Rf [P0.length,hd] (st v0 v1 ⟨P0,last,t0,hd,left,used⟩ (i0 c) (i0 (c % 8)) v8 (i0 e))=some (.nx (st v0 v1 ⟨P0++[last.set hd (r++left)],[[]],[],0,[],used⟩ (i0 c) (i0 (c % 8)) v8 (i0 e))):=by
 have E:=E2 (P0:=P0) hr;have l1:r.length+left.length<=tH:=by show _<=16777216;lia
 have G:=XI (P0:=P0) (r':=r++left) hr;have H:=Ub r left;have s:(r.map λn=>AV.sh (.int n))++(left.map λn=>AV.sh (.int n))=(r++left).map λn=>.sh (.int n):=mBq.symm
 have l:(P0++[last.set hd (r++left)]).length<tH:=by rw[lAq];show P0.length+1<16777216;lia
 have I:=ad3 (P0++[last.set hd (r++left)]);have J:=sm left
 simp_arith [Rf,brE,st,x,E,z,B,l1,H,s,G,l,I,J,dI]
 first|rfl|(simp[cN];done)
end
noncomputable def ED(nm:Ϝ)(k:Nat):Ϝ:=(nm.take k).flatMap λx=>[x, -x]
def Ht(h:nm[k]?=some x):ED nm (k+1)=ED nm k++[x, -x]:=by
 unfold ED;rw[tq h,jd];rfl
theorem JV:∀{k},k<=nm.length->(ED nm k).length=2*k
 |0,_=>rfl
 |k+1,h=>by
  rw[Ht (gEg (show k<nm.length by lia)),lAq,JV ∅]
  show 2*k+2=_;lia
theorem DD{x r:Ϝ}a:∀{l:Λ}{h:Nat},l[h]?=some r->(l.set h (r++x)).flatten.count a=l.flatten.count a+x.count a
 | [],_,h=>by simp at h
 |s::l,0,h=>by
  cases h;rw[fc,fCq,fCq,cAq,cAq,cAq];lia
 |s::l,h+1,e=>by
  rw[gF,fCq,fCq,cAq,cAq,DD a (by simpa using e)]
  lia
theorem LX a:∀{l:Ϝ}{j},j<l.length->(l.eraseIdx j).count a+[l.getD j 0].count a=l.count a
 | [],_,h=>by simp at h
 |x::l,0,_=>by
  rw[show x::l=[x]++l from rfl,cAq]
  show l.count a+[x].count a=_;lia
 |x::l,j+1,h=>by
  have n:=LX a (by simpa using h)
  rw[bS,show x::l.eraseIdx j=[x]++l.eraseIdx j from rfl,show(x::l).getD (j+1) 0=l.getD j 0 from rfl,show x::l=[x]++l from rfl,cAq,cAq]
  lia
def UH a c x:[sgn c x].count a+[-(sgn c x)].count a=[x, -x].count a:=by
 rw[show[x, -x]=[x]++[-x]from rfl,cAq]
 unfold sgn;split
 .rw[iJ];lia
 .rfl
structure XA (nm:Ϝ)(w:Wd)(n:Nat):Prop where
 hh:w.h<w.last.length
 ht:∀k∈w.t0,k<w.last.length
 us:w.used<=n
 lP:w.P0.length<=n
 lt:w.t0.length<=n
 tl:w.P0.flatten.length+w.last.length<=n+1
 cnt:∀a,w.P0.flatten.flatten.count a+w.last.flatten.count a+w.left.count a=(ED nm w.used).count a
def XA.perm(h:XA nm w n):(w.P0.flatten.flatten++w.last.flatten++w.left).Perm (ED nm w.used):=by
 rw[je];intro a;rw[cAq,cAq];exact h.cnt a
def XA.len(h:XA nm w n)(l:w.used<=nm.length):w.last.flatten.length+w.left.length<=2*n:=by
 have:=h.perm.length_eq;rw[JV l,lAq,lAq]at this;have:=h.us;lia
def UF{l:Λ}{h:Nat}{r:Ϝ}(e:l[h]?=some r):r.length<=l.flatten.length:=cT.length_le (ax (mGq e))
def XA.step(h:XA nm w n)(t:w.used<nm.length)c:XA nm (HB nm w c) (n+1):=by
 obtain⟨P0,last,t0,hd,left,used⟩:=w;obtain⟨hh,ht,us,lP,lt,tl,cnt⟩:=h;simp only at hh ht us lP lt tl cnt t;have hr:last[hd]?=some (last.getD hd []):=by rw[gDq,gEg hh];rfl
 have u:nm[used]?=some (nm.getD used 0):=by rw[gDq,gEg t];rfl
 unfold HB;simp only;split
 .split
  .refine⟨?_,?_,?_,?_,?_,?_,λa=>?_⟩
   .simp only[lZq];exact hh
   .simp only[lZq];exact ht
   .simp only;lia
   .simp only;lia
   .simp only;lia
   .simp only[lZq];lia
   .simp only;rw[DD a hr,Ht u,cAq,cAq,←cnt a,←UH a c (nm.getD used 0)];lia
  .refine⟨?_,?_,?_,?_,?_,?_,λa=>?_⟩
   .simp only[lAq,lZq,lSq];lia
   .intro k hk;simp only[lAq,lZq,lSq];rcases mAq.mp hk with q|q
    .have:=ht k q;lia
    .rw[mSq.mp q];lia
   .simp only;lia
   .simp only;lia
   .simp only[lAq,lSq];lia
   .simp only[lAq,lZq,lSq];lia
   .simp only;rw[fAq,cAq,aR,DD a hr,Ht u,cAq,←cnt a,←UH a c (nm.getD used 0)];lia
 .split
  .split
   .exact⟨hh,ht,by simp only;lia,by simp only;lia,by simp only;lia,by simp only;lia,cnt⟩
   .rename_i l;have x:0<left.length:=eT.mpr l;have s:(c / 16 % (left.length:Int)).toNat<left.length:=by
     have B:0<=c / 16 % (left.length:Int):=bH _ ∅
     have b1:c / 16 % (left.length:Int)<(left.length:Int):=bF _ ∅
     lia
    refine⟨?_,?_,?_,?_,?_,?_,λa=>?_⟩
    .simp only[lZq];exact hh
    .simp only[lZq];exact ht
    .simp only;lia
    .simp only;lia
    .simp only;lia
    .simp only[lZq];lia
    .simp only;have:=LX a s;rw[DD a hr,←cnt a];lia
  .split
   .split
    .exact⟨hh,ht,by simp only;lia,by simp only;lia,by simp only;lia,by simp only;lia,cnt⟩
    .rename_i z hl;refine⟨ht z (List.mem_of_getLast? hl),λk hk=>ht k (List.dropLast_subset _ hk),by simp only;lia,by simp only;lia,?_,by simp only;lia,cnt⟩
     simp only[iQ];lia
   .refine⟨?_,?_,?_,?_,?_,?_,λa=>?_⟩
    .simp
    .intro k hk;cases hk
    .simp only;lia
    .simp only[lAq,lSq];lia
    .simp
    .simp only[fAq,lAq,aR,lZq,lSq];lia
    .rw[fAq,fAq,aR,cAq,DD a hr,←cnt a];simp;lia
def Vt(h:XA nm w n)(hn:n<1000)(B:w.used<nm.length):∃E G H,vb (st v0 (some (.sh (dI nm))) w (i0 c) v7 v8 v9)=some (.nx (st v0 (some (.sh (dI nm))) (HB nm w c) (i0 c) E G H)):=by
 have u:=h.len (bZ B);obtain⟨P0,last,t0,hd,left,used⟩:=w;obtain⟨hh,ht,us,lP,lt,tl,cnt⟩:=h;simp only at hh ht us lP lt tl cnt B u;have hr:last[hd]?=some (last.getD hd []):=by rw[gDq,gEg hh];rfl
 have I:=UF hr;have pre:=ZN (P0:=P0) (t0:=t0) (left:=left) (c:=c) (v0:=v0) (v7:=v7) (v8:=v8) (v9:=v9) hh hr B;refine⟨i0 (c % 8),none,i0 (sgn c (nm.getD used 0)),?_⟩;rw[pre];unfold HB;simp only
 by_cases s:c % 8<4
 .rw[qf s]
  by_cases z:c % 8<2
  .rw[qf z];exact akf hh hr ∅ ∅ s z
  .rw[qj z];exact akh hh hr ∅ ∅ ∅ s z
 .rw[qj s]
  by_cases x:c % 8<6
  .rw[qf x]
   by_cases hl:left=[]
   .subst hl;rw[qf rfl];exact ajk hr s x
   .rw[qj hl];exact akI hr ∅ ∅ hl s x
  .rw[qj x]
   by_cases l:c % 8=6
   .rw[qf l];rcases bL t0 with rfl|⟨t,J,rfl⟩
    .exact aky hr l
    .rw[bM,List.getLast?_append];simp only[List.getLast?_singleton,iO,iU];exact akG hr l
   .rw[qj l];exact amn hr ∅ ∅ s x l
noncomputable def w0:Wd:=⟨[],[[]],[],0,[],0⟩
def afx nm:XA nm w0 0:=⟨by decide,(λk h=>by cases h),ae _,ae _,ae _,by decide,λa=>by simp[w0,ED]⟩
theorem words_ok:∀(l:Ϝ) {w}{n},XA nm w n->n+l.length<=nm.length->XA nm (l.foldl (HB nm) w) (n+l.length)
 | [],w,n,h,_=>h
 |c::l,w,n,h,hl=>by
  rw[lCq]at hl;have s:=h.step (by have:=h.us;lia) c
  have:=words_ok l s ∅
  rw[gf,lCq,show n+(l.length+1)=n+1+l.length by lia]
  exact this
def SX(B:l.length<=63)(hn:nm.length=66):∃u n s t,uY 6 vb (l.map D.int) (st (some (.sh (dI l))) (some (.sh (dI nm))) w0 v6 v7 v8 v9)=some (.nx (st (some (.sh (dI l))) (some (.sh (dI nm))) (l.foldl (HB nm) w0) u n s t)):=by
 have key:=Ao (x:=6) (body:=vb) (λi S=>∃v6 v7 v8 v9,S=st (some (.sh (dI l))) (some (.sh (dI nm))) ((l.take i).foldl (HB nm) w0) v6 v7 v8 v9) (ds:=l.map D.int) (S:=st (some (.sh (dI l))) (some (.sh (dI nm))) w0 v6 v7 v8 v9) ⟨v6,v7,v8,v9,rfl⟩ (by
  rintro i d S hd ⟨v6,v7,v8,v9,rfl⟩;rw[gMq]at hd;obtain⟨c,z,rfl⟩:=oMq.mp hd;have hi:i<l.length:=(gSq.mp z).1;have ok:=words_ok (nm:=nm) (l.take i) (afx nm) (by rw[lTq];lia)
  rw[lTq]at ok;obtain⟨n,s,t,e⟩:=Vt (c:=c) (v0:=some (.sh (dI l))) (v7:=v7) (v8:=v8) (v9:=v9) ok ∅ (by have:=ok.us;lia)
  refine⟨_,e,i0 c,n,s,t,?_⟩;rw[WC z])
 obtain⟨E,e,u,n,s,t,rfl⟩:=key;rw[lMq,bB]at e;exact⟨u,n,s,t,e⟩
def X5(E:l.length<=63)(hn:nm.length=66):∃(P:List Λ) (used:Nat),DL [dI l,dI nm]=some (.ow (P.map aP))/\P.flatten.flatten.Perm (ED nm used)/\used<=63/\P.flatten.length<=64/\P.length<=64:=by
 obtain⟨G,H,I,J,e⟩:=SX (v6:=none) (v7:=none) (v8:=none) (v9:=none) E hn;have ok:=words_ok (nm:=nm) l (afx nm) ∅
 rw[cA]at ok;generalize l.foldl (HB nm) w0=w at e ok;have s:=ok.len (by have:=ok.us;lia)
 have u:=ok.perm;obtain⟨P0,last,t0,hd,left,used⟩:=w;obtain⟨hh,ht,us,lP,lt,tl,cnt⟩:=ok;simp only at hh ht us lP lt tl cnt s u;have hr:last[hd]?=some (last.getD hd []):=by rw[gDq,gEg hh];rfl
 have x:=UF hr;generalize last.getD hd []=r at hr x;have L:=E2 (P0:=P0) hr;have M:=Ze (P0:=P0) (last:=last);have t:(P0++[last]).length=P0.length+1:=by simp
 have O:=Jm P0.length;have Q:ON last.length (hd:Int)=some hd:=Uv hh;have z:atI ((cN (t0++[hd])).map D.int) (-1)=some (.int (hd:Int)):=by
  unfold cN;rw[mBq,mBq];exact E9 _ _
 have st3:=sm (cN (t0++[hd]));have R:=XI (P0:=P0) (r':=r++left) hr;have S:=Ub r left;have B:(r.map λn=>AV.sh (.int n))++(left.map λn=>AV.sh (.int n))=(r++left).map λn=>.sh (.int n):=mBq.symm
 have l1:r.length+left.length<=tH:=by show _<=16777216;lia
 have T:uY 6 vb (l.map D.int) [some (.sh (dI l)),some (.sh (dI nm)),some (.ow [.ow [.ow []]]),some (.ow [.sh (.int 0)]),some (.ow []),i0 0,none,none,none,none]=some (.nx [some (.sh (dI l)),some (.sh (dI nm)),some (.ow ((P0++[last]).map aP)),some (aI (cN (t0++[hd]))),some (aI left),i0 (used:Int),G,H,I,J]):=e;refine⟨P0++[last.set hd (r++left)],used,?_,?_,by lia,?_,?_⟩
 .simp_arith [DL,JB,T,t,O,M,L,Q,st3,dI,z,l1,S,B,R]
 .rw[je];intro a;rw[fAq,fAq,aR,cAq,DD a hr,←cnt a];lia
 .rw[fAq,aR,lAq,lZq];lia
 .rw[lAq,lSq];lia
noncomputable def nmk(st sh a b k:Int):Int:=st*((a*k+b) % 67+1)+sh
def nms(st sh a b:Int):Ϝ:=(bT 66).map λk:Nat=>nmk st sh a b k
def Kd{st}(t:1<=a)(u:a<=66):uF xp (kSc (qe yN (qe K4 (oH 2) (qe yN (qe xZ (qe yN (qe K4 (oH 4) (oH 0)) (oH 3)) (rC (.int 67))) (rC (.int 1)))) (oH 1))) [i0 sh,i0 st,i0 b,i0 a] (sV 0 66)=some ((nms st sh a b).map λz=>.sh (.int z)):=by
 have key:=yy (te:=kSc (qe yN (qe K4 (oH 2) (qe yN (qe xZ (qe yN (qe K4 (oH 4) (oH 0)) (oH 3)) (rC (.int 67))) (rC (.int 1)))) (oH 1))) (cap:=[i0 sh,i0 st,i0 b,i0 a])
  (λd=>match d with|.int k=>.sh (.int (nmk st sh a b k))|_=>.sh .non) (ds:=sV 0 66) (by
  intro d hd;rw[HX]at hd;obtain⟨k,_,rfl⟩:=mMq.mp hd;have b1:0<=(a*(k:Int)+b) % 67:=bH _ ⋯
  have b2:(a*(k:Int)+b) % 67<67:=bF _ ⋯
  have n:=akK (i:=a) (j:=(k:Int)) ∅ ∅
  have s:=afk (i:=st) (j:=(a*(k:Int)+b) % 67+1) ∅ ∅
  have l:=λi:Int=>uT (i:=i) (j:=67) ⋯
  refine⟨[i0 (k:Int),i0 sh,i0 st,i0 b,i0 a],?_⟩
  simp_arith [n,s,l,nmk])
 rw[key,HX,mPq];unfold nms;rw[mPq];rfl
def YS ns:∃st sh a b:Int,1<=st/\st<=10 ^ 58/\0<=sh/\sh<10 ^ 58/\1<=a/\a<=66/\Bd [.scr ns]=some (aI (nms st sh a b)):=by
 have L:0<=cell ns 0 / 3 % 66:=bH _ ⋯
 have M:cell ns 0 / 3 % 66<66:=bF _ ⋯
 have O:0<=cell ns 1 % 10 ^ 58:=bH _ ⋯
 have P:cell ns 1 % 10 ^ 58<10 ^ 58:=bF _ ⋯
 have I:0<=cell ns 2 % 10 ^ 58:=bH _ ⋯
 have J:cell ns 2 % 10 ^ 58<10 ^ 58:=bF _ ⋯
 have E:=λi:Int=>uT (i:=i) (j:=3) ⋯
 have s:=λi:Int=>uT (i:=i) (j:=66) ⋯
 have t:=λi:Int=>uT (i:=i) (j:=67) ⋯
 have z:=λi:Int=>uT (i:=i) (j:=10 ^ 58) ⋯
 have G:=λi:Int=>Ca (i:=i) (j:=3) ⋯ ⋯
 have l:=λi:Int=>Ca (i:=i) (j:=198) ⋯ ⋯
 have u:Lc [.int 66]=some (sV 0 66):=Af (n:=66) ⋯
 have x:(sV 0 66).length<=tH:=by rw[uJ];show 66<=16777216;decide
 by_cases H:0<cell ns 0 % 3
 .refine⟨1+cell ns 1 % 10 ^ 58,cell ns 2 % 10 ^ 58,1+cell ns 0 / 3 % 66,cell ns 0 / 198 % 67,by lia,by lia,I,J,by lia,by lia,?_⟩
  have B:=Kd (st:=1+cell ns 1 % 10 ^ 58) (sh:=cell ns 2 % 10 ^ 58) (a:=1+cell ns 0 / 3 % 66) (b:=cell ns 0 / 198 % 67) ∅ ∅
  simp_arith [Bd,En,afC,ajt,ajZ,H,E,s,t,z,G,l,p58,u,x,B]
 .refine⟨1,0,1+cell ns 0 / 3 % 66,cell ns 0 / 198 % 67,by decide,by decide,by decide,by decide,by lia,by lia,?_⟩
  have B:=Kd (st:=1) (sh:=0) (a:=1+cell ns 0 / 3 % 66) (b:=cell ns 0 / 198 % 67) ∅ ∅
  simp_arith [Bd,En,afC,H,E,s,t,G,l,u,x,B]
def aex{st}(z:1<=st)(B:1<=a)(E:a<=66){j k:Nat}(G:j<67)(hk:k<67)(h:nmk st sh a b j=nmk st sh a b k):j=k:=by
 unfold nmk at h;have n:st*((a*j+b) % 67+1)=st*((a*k+b) % 67+1):=by lia
 have H:=Int.eq_of_mul_eq_mul_left ∅ n
 have s:((a*j+b)-(a*k+b)) % 67=0:=Int.emod_eq_emod_iff_emod_sub_eq_zero.mp ∅
 have t:(a*((j:Int)-k)) % 67=0:=by
  rw[←s];congr 1;rw[Int.mul_sub];lia
 obtain⟨l,rfl⟩:∃l:Nat,a=(l:Int)+1:=⟨(a-1).toNat,by lia⟩
 rcases jq j k with q|q|q
 .exfalso;refine Mr.Uz ⟨l,by lia⟩ ⟨k-j,by lia⟩ (by show 0<k-j;lia) ?_
  show(l+1)*(k-j) % 67=0;have u:(((l:Int)+1)*((k:Int)-j)) % 67=0:=by
   have:((l:Int)+1)*((k:Int)-j) = -(((l:Int)+1)*((j:Int)-k)):=by
    rw[←Int.mul_neg];congr 1;lia
   rw[this];lia
  have x:(((l+1)*(k-j) % 67:Nat):Int)=0:=by
   rw[←u];push_cast [bZ q];rfl
  lia
 .exact q
 .exfalso;refine Mr.Uz ⟨l,by lia⟩ ⟨j-k,by lia⟩ (by show 0<j-k;lia) ?_
  show(l+1)*(j-k) % 67=0;have x:(((l+1)*(j-k) % 67:Nat):Int)=0:=by
   rw[←t];push_cast [bZ q];rfl
  lia
structure Nm (nm:Ϝ):Prop where
 len:nm.length=66
 nd:nm.Nodup
 lo:∀x∈nm,1<=x
 hi:∀x∈nm,x<10 ^ 60
def ah6{st}(n:1<=st)(l:st<=10 ^ 58)(z:0<=sh)(s:sh<10 ^ 58)(t:1<=a)(u:a<=66):Nm (nms st sh a b):=by
 have key:∀x∈nms st sh a b,1<=x/\x<10 ^ 60:=λx h=>by
  obtain⟨k,_,rfl⟩:=mMq.mp h;have b1:0<=(a*(k:Int)+b) % 67:=bH _ ⋯
  have b2:(a*(k:Int)+b) % 67<67:=bF _ ⋯
  have l1:1*1<=st*((a*(k:Int)+b) % 67+1):=jH n ∅ ⋯ ∅
  have l2:st*((a*(k:Int)+b) % 67+1)<=10 ^ 58*67:=jH l ∅ ∅ ⋯
  show 1<=st*((a*(k:Int)+b) % 67+1)+sh/\st*((a*(k:Int)+b) % 67+1)+sh<10 ^ 60;lia
 refine⟨by unfold nms;rw[lMq,bq],?_,λx h=>(key x h).1,λx h=>(key x h).2⟩
 unfold nms;rw[aG,bD];refine bo.imp_of_mem (λ{x y} hx hy hne e=>hne (aex n t u (by have:=fj.mp hx;lia) (by have:=fj.mp hy;lia) e)) (aG.mp List.nodup_range)
def GI:z∈ED nm k↔∃x∈nm.take k,z=x∨z = -x:=by
 unfold ED;rw[fR];simp
theorem JC:∀{l:Ϝ},l.Nodup->(∀x∈l,1<=x)->(l.flatMap λx=>[x, -x]).Nodup
 | [],_,_=>ba
 |x::l,hn,hp=>by
  have n:=ak.mp hn;have t:=hp x (aq ..);rw[jt,nAq];refine⟨?_,JC n.2 λy s=>hp y (mCo _ s),λa ha b hb e=>?_⟩
  .rw[ak];refine⟨?_,by simp⟩
   rw[mSq];lia
  .obtain⟨y,s,q⟩:=fR.mp hb;have py:=hp y (mCo _ s);simp at ha q;have:y=x:=by lia
   exact n.1 (this ▸ s)
def Th(h:Nm nm)k:(ED nm k).Nodup:=JC (h.nd.sublist (bj ..)) λx l=>h.lo x (bg l)
def ZI(h:z∈ED nm k):-z∈ED nm k:=by
 obtain⟨x,l,q⟩:=GI.mp h;refine GI.mpr ⟨x,l,?_⟩;lia
end K12
namespace K51
open PySem L2 Mr Z Xe Zl
def TK(hl:rs.length<=500000):Bk [dM rs]=some (.ow (rs.map aI)):=by
 have key:=yy (te:=HN (wj 0)) (cap:=[]) (λd=>match d with|.list l=>.ow (l.map .sh)|_=>.sh .non) (ds:=rs.map dI) (by
  intro d hd;obtain⟨r,_,rfl⟩:=mMq.mp hd;refine⟨[some (.sh (dI r))],?_⟩
  simp_arith [dI])
 have n:rs.length<=tH:=by lia
 have e:(rs.map dI).map (λd=>match d with|D.list l=>AV.ow (l.map .sh)|_=>.sh .non)=rs.map aI:=by
  rw[mPq];refine mCq λr _=>?_
  show AV.ow ((r.map D.int).map .sh)=aI r;rw[mPq];rfl
 rw[e]at key
 simp_arith [Bk,LU,dM,key,n]
end K51
namespace K12
open PySem L2 Mr Z Xe Zl
structure Pt (P:List Λ):Prop where
 nd:P.flatten.flatten.Nodup
 ng:∀z∈P.flatten.flatten, -z∈P.flatten.flatten
 nz:∀z∈P.flatten.flatten,z≠0/\-(10 ^ 60)<z/\z<10 ^ 60
 le:P.flatten.flatten.length<=126
 lt:P.flatten.length<=64
 lp:P.length<=64
def ajn(hm:Nm nm)(n:P.flatten.flatten.Perm (ED nm u))(G:u<=63)(B:P.flatten.length<=64)(E:P.length<=64):Pt P:=by
 refine⟨n.symm.nodup (Th hm u),λz s=>n.mem_iff.mpr (ZI (n.mem_iff.mp s)),λz s=>?_,?_,B,E⟩
 .obtain⟨x,t,q⟩:=GI.mp (n.mem_iff.mp s);have l:=hm.lo x (bg t);have h:=hm.hi x (bg t);lia
 .rw[n.length_eq,JV (by rw[hm.len];lia)]
  lia
def P7(xs:List α)(i:Nat):yw xs (some (i:Int)) none=xs.drop i:=by
 unfold yw;rw[HT.DI,HT.Js,bI (by rw[aC];exact ae _)]
 by_cases h:i<=xs.length
 .rw[eD h]
 .rw[fK ∅,df (ae _),df ∅]
def Yq(xs:List α)(i:Nat):yw xs none (some (i:Int))=xs.take i:=by
 by_cases h:i<=xs.length
 .exact FN xs i h
 .unfold yw;rw[HT.DI,HT.Js,fK ∅,fk,jP,bI (ae _),bI ∅]
def tl:MS:=(oZ (pR 5 (xQ (D8 (oW 3)) [] xp (xQ (D8 (oW 0)) [] xp (HN (wj 0)))))
 (oZ (pR 6 (pJ (okX K13.JD) (oE (oW 5) oV)))
 (oZ (wZ (M5 (xy (tJ (uB K13.rP (oK (oH 6) (oK (oH 2) ph))))) (xy (tJ (uB K13.rP (oK (oH 5) (oK (oH 3) ph)))))) (qh (kSc (rC (.bl false)))) pX)
 (oZ (agv 6 7 (.int 7))
 (oZ (zf 6 (sZ (oE (kSc (rC (.int 8))) oV)))
 (oZ (wZ (M5 (xy (tJ (uB K13.rP (oK (oH 5) (oK (oH 3) ph))))) (xy (tJ (uB K13.rP (oK (rOf (pJ (okX K13.JD) (oE (oW 5) oV))) (oK (oH 2) ph)))))) (qh (kSc (rC (.bl false)))) pX)
 (qh (kSc (uB K13.rP (oK (rOf (pJ (okX K13.JD) (oE (pJ K51.Ys (oE (xQ (D8 (oW 2)) [] xp (HN (wj 0))) oV)) oV))) (oK (oH 2) ph)))))))))))
end K12
namespace K23
open PySem L2 Mr Z Xe Zl
def uns:under "NotThere" "TooMany" = false/\under "NotThere" "Taken" = false/\under "NotThere" "NoPlace" = false/\under "TooMany" "NotThere" = false/\under "TooMany" "Taken" = false/\under "TooMany" "NoPlace" = false:=by trivial
def Ku z:xW [.exc "NotThere" [("end", z)]]=some (.ow [.sh (.tup [.str "there", .int z])]):=by
 have l:0<tH:=by decide
 simp_arith [xW,Hj,uns,jL,l]
noncomputable abbrev cz(z:Int):D:=.ins "Cut" [("road", .int z)]
def aiG z:uC "Cut" "road" (cz z)=some (.int z):=by rfl
def in1 z:Ae "Cut" "done" (.sh (cz z))=some (cz z):=by rfl
def in2 z:Ae "Cut" "back" (.sh (cz z))=some (cz z):=by rfl
noncomputable def wA(z:Int)(t:Ϝ):Ϝ:=t.filter λe=>!decide (e∈[z, -z])
def inT i z:Fv true (.int i) (.tup [.int z,.int (-z)])=some (.bl (!decide (i∈[z, -z]))):=NV true i [z, -z]
def NU(t:Ϝ)p:((t.map D.int).filter λd=>match d with|.int e=>p e|_=>false).map (λd=>AV.sh d)=(t.filter p).map λn=>.sh (.int n):=by
 rw[gh,mPq];rfl
def ab9(z)t:uF (tJ (qe (Fv true) (oH 0) (oH 1))) (oW 0) [some (.sh (.tup [.int z,.int (-z)]))] (t.map D.int)=some ((wA z t).map λn=>.sh (.int n)):=by
 rw[Z.vK (λd=>match d with|.int e=>!decide (e∈[z, -z])|_=>false) (λd=>.sh d)]
 .rw[NU];rfl
 .intro d hd;obtain⟨e,_,rfl⟩:=mMq.mp hd;have h:=inT e z;refine⟨[i0 e,some (.sh (.tup [.int z,.int (-z)]))],?_,λ_=>⟨[i0 e,some (.sh (.tup [.int z,.int (-z)]))],?_⟩⟩
  .simp_arith [h]
  .simp_arith []
def ace(z)t(ht:t.length<=1000):xg [dI t,.tup [.int z,.int (-z)]]=some (aI (wA z t)):=by
 have h:=ab9 z t;have l:t.length<=tH:=uL ∅
 simp_arith [xg,Ew,dI,h,l]
def RV z{rs:Λ}(hr:∀r∈rs,r.length<=1000):uF xp (pJ xg (oE (oW 0) (oE (wz (oE (oW 1) (oE (kSc (vJ wu (oH 1))) oV))) oV))) [i0 z] (rs.map dI)=some ((rs.map (wA z)).map aI):=by
 rw[Z.yy λd=>aI (wA z (D3 d))]
 .rw[EX λr=>aI (wA z r),mPq]
  rfl
 .intro d hd;obtain⟨r,l,rfl⟩:=CV hd;refine⟨[some (.sh (dI r)),i0 z],?_⟩
  simp_arith [ace z r (hr r l),xA]
def C(z:Int)(rs:Λ):Λ:=rs.map (wA z)
noncomputable def AK(w:Str)(z:Int):AV:=.ow [.sh (.str "refused"),.ow [.sh (.tup [.str w,.int z])]]
def KY(G:Λ):AV:=.ow [.sh (.str "map"),.ow (G.map aI)]
def aaP:(C z rs).flatten=wA z rs.flatten:=by
 unfold C wA;rw[List.filter_flatten]
def amw(h:rs.flatten.length<=128):(C z rs).flatten.length<=128:=by
 rw[aaP];exact aZ (dw _ _) h
def R8(n:rs.flatten.length<=128)(hl:rs.length<=1000):f_settled [dM rs]=some (if bare rs<=128 then .ok (.ow ((A7 (rs.map good)).map aI))else .ex "TooMany" []):=by
 have l:=Su (rs:=rs) ∅
 have s:=uQ (rs:=rs) (λr hr=>by have:=Cf hr;lia) (uL ∅)
 by_cases c:bare rs<=128
 .rw[qf ⟨n,c⟩]at l;rw[qf c]
  simp_arith [f_settled,mf_settled,l,s]
 .rw[qj λq=>c q.2]at l
  rw[qj c]
  simp_arith [f_settled,mf_settled,l]
def X3(n:rs.flatten.length<=128)(h:z∉rs.flatten):qW [dM rs,.int z]=some (.ex "NotThere" [("end", z)]):=by
 have ht:=By (rs:=rs) ∅
 have l:decide (z∈rs.flatten)=false:=d4 h
 simp_arith [qW,wJ,ht,l]
def aeI(t:rs.flatten.length<=128)(hl:rs.length<=1000)(h:z∈rs.flatten):qW [dM rs,.int z]=some (if bare (C z rs)<=128 then .ok (.ow ((A7 ((C z rs).map good)).map aI))else .ex "TooMany" []):=by
 have ht:=By (rs:=rs) ∅
 have n:=d0 h;have l:=R8 (rs:=C z rs) (amw t) (by unfold C;rw[lMq];exact hl)
 have s:=RV z (rs:=rs) λr hr=>by have:=Cf hr;lia
 have sc:((rs.map (wA z)).map aI).map pD=(C z rs).map dI:=by rw[mPq];exact mCq λr _=>sm r
 have l1:rs.length<=tH:=uL ∅
 by_cases c:bare (C z rs)<=128
 .rw[qf c]at l ⊢
  simp_arith [qW,wJ,ht,n,s,sc,l,l1]
 .rw[qj c]at l ⊢
  simp_arith [qW,wJ,ht,n,s,sc,l,l1]
def done_eq d:rO [cz z,d]=qW [d,.int z]:=by
 have h:=aiG z;cases e:qW [d,.int z]with
 |none=>simp_arith [rO,CP,h,e]
 |some r=>cases r <;> simp_arith [rO,CP,h,e]
def ref_ex(h:qW [d,.int z]=some (.ex c fs)):uc [cz z,d]=some (.ex c fs):=by
 have l:=done_eq (z:=z) d;rw[h]at l;have n:=in1 z
 simp_arith [uc,xx,wg,l,n]
end K23
namespace K21
open PySem L2 Mr Z Xe Zl
open K23 (AK KY)
def plain:Nat->D->Prop
 |0,_=>False
 |_+1,.int _=>True
 |_+1,.str _=>True
 |_+1,.non=>True
 |n+1,.list ds=>ds.length<1000000/\∀d∈ds,plain n d
 |n+1,.tup ds=>ds.length<1000000/\∀d∈ds,plain n d
 |_+1,_=>False
theorem alike_refl:∀n d,plain n d->K13.xt n [d,d]=i4 true
 |0,_,h=>h.elim
 |n+1,d,h=>by
  show K13.rE (K13.xt n) [d,d]=_;cases d with
  |int i=>simp_arith [K13.rE,K13.uG,eq_self,Ja]
  |str x=>simp_arith [K13.rE,K13.uG,eq_self,Kr]
  |non=>simp_arith [K13.rE,K13.uG,eq_self,Qk]
  |list s=>
   obtain⟨v,e⟩:=K13.Cj (fm:=K13.xt n) (x:=.list s) (.inl rfl) λd hd=>alike_refl n d (h.2 d hd)
   have l:=Af (n:=s.length) h.1
   simp_arith [K13.rE,K13.uG,eq_self,K13.TN,decide_true,fL,l,e]
  |tup s=>
   obtain⟨v,e⟩:=K13.Cj (fm:=K13.xt n) (x:=.tup s) (.inr rfl) λd hd=>alike_refl n d (h.2 d hd)
   have l:=Af (n:=s.length) h.1
   simp_arith [K13.rE,K13.uG,eq_self,K13.TN,decide_true,fL,l,e]
  |_=>exact h.elim
noncomputable def sp(n s:Int)(t:Ϝ):Ϝ:=if s∈t then t.take (t.idxOf s+1)++n::t.drop (t.idxOf s+1)else t
def spA(n s:Int)(t:Ϝ):AV:=if s∈t then aI (sp n s t)else .sh (dI t)
def agF(n s)t:pD (spA n s t)=dI (sp n s t):=by
 unfold spA sp;split
 .rw[sm]
 .rw[Ky]
def Qq{r:Ϝ}(l:e∈r):BN (.list (r.map D.int)) [.int e]=some (.int (r.idxOf e:Nat)):=by
 show(vU (r.map D.int)).bind _=_;rw[vO];show(if _ then _ else _)=_
 rw[qf l]
def W3(ht:t.length<=1000)n s:A6 [dI t,.int n,.int s]=some (spA n s t):=by
 by_cases h:s∈t
 .have l:decide (s∈t)=true:=d0 h;have u:=Qq h;have x:yw t none (some ((t.idxOf s:Int)+1))=t.take (t.idxOf s+1):=K12.Yq t (t.idxOf s+1);have z:yw t (some ((t.idxOf s:Int)+1)) none=t.drop (t.idxOf s+1):=K12.P7 t (t.idxOf s+1);have l1:(t.take (t.idxOf s+1)).length+1<=tH:=uL (by rw[lTq];lia)
  have l2:(t.take (t.idxOf s+1)++[n]).length+(t.drop (t.idxOf s+1)).length<=tH:=uL (by rw[lAq,lTq,aC,lSq];lia)
  have q1:(t.take (t.idxOf s+1)).map D.int++[D.int n]=(t.take (t.idxOf s+1)++[n]).map D.int:=by rw[mBq];rfl
  have B:(t.take (t.idxOf s+1)++[n])++t.drop (t.idxOf s+1)=sp n s t:=by unfold sp;rw[qf h,ao];rfl
  unfold spA;rw[qf h]
  simp_arith [A6,Hc,dI,l,u,yE,x,z,l1,q1,l2,←mBq,B,GM]
 .have l:decide (s∈t)=false:=d4 h;unfold spA;rw[qj h]
  simp_arith [A6,Hc,dI,l]
def QZ{rs:Λ}(hr:∀r∈rs,r.length<=1000)n s:uF xp (pJ A6 (oE (oW 0) (oE (oW 1) (oE (oW 2) oV)))) [i0 n,i0 s] (rs.map dI)=some (rs.map (spA n s)):=by
 rw[Z.yy λd=>spA n s (D3 d)]
 .rw[EX λr=>spA n s r]
 .intro d hd;obtain⟨r,l,rfl⟩:=CV hd;refine⟨[some (.sh (dI r)),i0 n,i0 s],?_⟩
  simp_arith [W3 (hr r l),xA]
def K7(u:rs.flatten.length<=1000)(hl:rs.length<=1000)s:xw [dM rs,.int n,.int s]=some (if s∈rs.flatten then .ok (.ow (rs.map (spA n s)))else .ex "NotThere" [("end", s)]):=by
 have ht:=By (rs:=rs) ∅
 by_cases h:s∈rs.flatten
 .have l:decide (s∈rs.flatten)=true:=d0 h;have t:=QZ (rs:=rs) (λr hr=>by have:=Cf hr;lia) n s
  have l1:rs.length<=tH:=uL ∅
  rw[qf h]
  simp_arith [xw,AE,ht,l,t,l1]
 .have l:decide (s∈rs.flatten)=false:=d4 h;rw[qj h]
  simp_arith [xw,AE,ht,l]
def M0(hl:rs.length<=1000):yD [dM rs,.int n]=some (if []∈rs then .ok (.ow ((rs.set (rs.idxOf []) [n]).map λr=>.sh (dI r)))else .ex "NoPlace" []):=by
 by_cases h:([]:Ϝ)∈rs
 .have l:decide (([]:Ϝ)∈rs)=true:=d0 h;have hk:=cH.mpr h;have s:yw rs none (some (rs.idxOf []:Int))=rs.take (rs.idxOf []):=K12.Yq rs (rs.idxOf []);have t:yw rs (some ((rs.idxOf []:Int)+1)) none=rs.drop (rs.idxOf []+1):=K12.P7 rs (rs.idxOf []+1);have l1:(rs.take (rs.idxOf [])).length+1<=tH:=uL (by rw[lTq];lia)
  have l2:(rs.take (rs.idxOf [])++[[n]]).length+(rs.drop (rs.idxOf []+1)).length<=tH:=uL (by rw[lAq,lTq,aC,lSq];lia)
  have q1:(rs.take (rs.idxOf [])).map dI++[D.list [D.int n]]=(rs.take (rs.idxOf [])++[[n]]).map dI:=by rw[mBq];rfl
  have u:(rs.take (rs.idxOf [])++[[n]])++rs.drop (rs.idxOf []+1)=rs.set (rs.idxOf []) [n]:=by rw[List.set_eq_take_append_cons_drop,qf hk,ao];rfl
  rw[qf h]
  simp_arith [yD,B2,TQ,l,aae,h,yE,s,t,l1,q1,l2,←mBq,u]
 .have l:decide (([]:Ϝ)∈rs)=false:=d4 h;rw[qj h]
  simp_arith [yD,B2,TQ,l]
noncomputable def pr:D->Ϝ->Bool
 | .non,r=>decide (r=[])
 | .int s,r=>decide (s∈r)
 |_,_=>false
def inr(n:Int):D->Ϝ->Ϝ
 | .int s,r=>sp n s r
 |_,r=>n::r
def Cg(rs:Λ)(n:Int)(d:D):Option Λ:=if rs.any (pr d)=true then some (rs.set (rs.findIdx (pr d)) (inr n d (rs.getD (rs.findIdx (pr d)) [])))else none
noncomputable def Xq:D->WB
 | .int s=>.ex "NotThere" [("end", s)]
 |_=>.ex "NoPlace" []
def rQ(d:D):Prop:=d = .non∨∃s,d = .int s
section
variable {rs:Λ}
def TM{p:Ϝ->Bool}{f:Ϝ->Ϝ}(t:∀r,p r=false->f r=r)(hn:rs.Pairwise λa b=>¬ (p a=true/\p b=true))(l:rs.any p=true):rs.map f=rs.set (rs.findIdx p) (f (rs.getD (rs.findIdx p) [])):=by
 induction rs with
 |nil=>cases l
 |cons r rs u=>
  obtain⟨x,z⟩:=cf.mp hn;cases c:p r with
  |true=>
   rw[fB,c];show f r::rs.map f=f r::rs;congr 1;refine(mCq λs B=>t s ?_).trans (du _)
   cases d:p s with
   |true=>exact absurd ⟨c,d⟩ (x s B)
   |false=>rfl
  |false=>
   rw[dF,c,jJ]at l;rw[fB,c];show f r::rs.map f=r::_;rw[t r c,u z l];rfl
def adC(hn:rs.flatten.Nodup)s:rs.Pairwise λa b=>¬ (decide (s∈a)=true/\decide (s∈b)=true):=by
 induction rs with
 |nil=>exact .nil
 |cons r rs l=>
  rw[fCq,nAq]at hn;refine cf.mpr ⟨λa ha q=>?_,l hn.2.1⟩
  exact hn.2.2 s (of_decide_eq_true q.1) s (mFq.mpr ⟨a,ha,of_decide_eq_true q.2⟩) rfl
def Fc s:rs.any (pr (.int s))=decide (s∈rs.flatten):=by
 rw[cL,cE,decide_eq_true_eq,mFq];exact⟨λ⟨r,h,q⟩=>⟨r,h,of_decide_eq_true q⟩,λ⟨r,h,q⟩=>⟨r,h,d0 q⟩⟩
def IH:rs.any (pr .non)=decide ([]∈rs):=by
 rw[cL,cE,decide_eq_true_eq];exact⟨λ⟨r,h,q⟩=>of_decide_eq_true q ▸ h,λh=>⟨[],h,rfl⟩⟩
def acg:rs.findIdx (pr .non)=rs.idxOf []:=by
 unfold List.idxOf;congr 1;funext r;cases r <;> rfl
def Kk(hn:rs.flatten.Nodup)(B:rs.flatten.length<=1000)(hl:rs.length<=1000)(hd:rQ d):(∃l z,Cg rs n d=some l/\pD z=dM l/\vW [dM rs,.int n,d]=some (.ok z))∨(Cg rs n d=none/\vW [dM rs,.int n,d]=some (Xq d)):=by
 rcases hd with rfl|⟨s,rfl⟩
 .have u:=M0 (rs:=rs) (n:=n) hl;have t:FP .non .non=some (.bl true):=rfl
  by_cases h:([]:Ϝ)∈rs
  .rw[qf h]at u;refine .inl ⟨rs.set (rs.idxOf []) [n],.ow ((rs.set (rs.idxOf []) [n]).map λr=>.sh (dI r)),?_,by rw[vi,NF],?_⟩
   .unfold Cg;rw[IH,acg,qf (d0 h)];have hk:=cH.mpr h;have:rs.getD (rs.idxOf []) []=[]:=by rw[gDq,gEg hk,eY hk];rfl
    rw[this];rfl
   .simp_arith [vW,Aa,t,u]
  .rw[qj h]at u;refine .inr ⟨?_,?_⟩
   .unfold Cg;rw[IH,qj (by simp[h])]
   .simp_arith [vW,Aa,t,u,Xq]
 .have x:=K7 (rs:=rs) (n:=n) B hl s;have t:FP (.int s) .non=some (.bl false):=rfl
  by_cases h:s∈rs.flatten
  .rw[qf h]at x;refine .inl ⟨rs.map (sp n s),.ow (rs.map (spA n s)),?_,?_,?_⟩
   .unfold Cg;rw[Fc,qf (d0 h)];congr 1;exact(TM (p:=pr (.int s)) (f:=sp n s) (λr q=>by unfold sp;rw[qj (of_decide_eq_false q)]) (adC hn s) (by rw[Fc];exact d0 h)).symm
   .rw[vi,mPq];show D.list _=D.list _;rw[mPq];congr 1;exact mCq λr _=>agF n s r
   .simp_arith [vW,Aa,t,x]
  .rw[qj h]at x;refine .inr ⟨?_,?_⟩
   .unfold Cg;rw[Fc,qj (by simp[h])]
   .simp_arith [vW,Aa,t,x,Xq]
def Y4{r r':Ϝ}(hk:rs[k]?=some r)(h:r'.Perm (n::r)):(rs.set k r').flatten.Perm (n::rs.flatten):=by
 induction rs generalizing k with
 |nil=>cases hk
 |cons a rs l=>
  cases k with
  |zero=>
   cases hk;exact(h.append_right _)
  |succ k=>
   have:=l (k:=k) hk;show(a++(rs.set k r').flatten).Perm (n::(a++rs.flatten));exact(this.append_left a).trans eR
def aey(h:s∈t):(sp n s t).Perm (n::t):=by
 unfold sp;rw[qf h];exact eR.trans (by rw[aT])
def zX(hd:rQ d)(h:Cg rs n d=some l):l.flatten.Perm (n::rs.flatten)/\l.length=rs.length:=by
 unfold Cg at h;split at h
 .rename_i t;cases h;refine⟨?_,lZq⟩;obtain⟨x,u,z⟩:=cE.mp t;have hk:rs.findIdx (pr d)<rs.length:=List.findIdx_lt_length_of_exists ⟨x,u,z⟩;have B:=List.findIdx_getElem (xs:=rs) (p:=pr d) (w:=hk);have e:rs.getD (rs.findIdx (pr d)) []=rs[rs.findIdx (pr d)]:=by rw[gDq,gEg hk];rfl
  rw[e];refine Y4 (gEg hk) ?_;rcases hd with rfl|⟨s,rfl⟩
  .exact .refl _
  .exact aey (of_decide_eq_true B)
 .cases h
def Xb(t:rs.flatten.length<=1000)(hl:rs.length<=1000):K23.f_settled [dM rs]=some (if rs.flatten.length<=128/\bare rs<=128 then .ok (.ow ((A7 (rs.map good)).map aI))else .ex "TooMany" []):=by
 have l:=Su (rs:=rs) ∅
 have s:=uQ (rs:=rs) (λr hr=>by have:=Cf hr;lia) (uL ∅)
 by_cases c:rs.flatten.length<=128/\bare rs<=128
 .rw[qf c]at l ⊢
  simp_arith [K23.f_settled,K23.mf_settled,l,s]
 .rw[qj c]at l ⊢
  simp_arith [K23.f_settled,K23.mf_settled,l]
end
end K21
namespace K51
open PySem L2 Mr Z Xe Zl
noncomputable def rot(r:Ϝ):Ϝ:=r.drop 1++r.take 1
def uw(r:Ϝ):List (qM×Int):=(r.zip (rot r)).map λp=>(.inl p.1,p.2)
def qE(rs:Λ):List (qM×Int):=(rs.map uw).flatten
noncomputable def wG(ps:List (qM×Int)):List (qM×D):=ps.map λp=>(p.1,D.int p.2)
def Gp r:(rot r).length=r.length:=by
 unfold rot;rw[lAq,aC,lTq];lia
def rot_perm r:(rot r).Perm r:=by
 refine bQ.trans ?_;rw[aT]
def Az r:(uw r).length=r.length:=by
 unfold uw;rw[lMq,List.length_zip,Gp,Nat.min_self]
def FK r:(uw r).map (·.1)=r.map bh:=by
 unfold uw;rw[mPq];have:r.map bh=((r.zip (rot r)).map Prod.fst).map (bh:Int->qM):=by rw[hZ (by rw[Gp];exact ae _)]
 rw[this,mPq];rfl
def M3 r:(uw r).map (·.2)=rot r:=by
 unfold uw;rw[mPq];have:rot r=(r.zip (rot r)).map Prod.snd:=by rw[List.map_snd_zip (by rw[Gp];exact ae _)]
 exact this.symm
theorem wW:∀rs,(qE rs).map (·.1)=rs.flatten.map bh
 | []=>rfl
 |r::rs=>by
  show(uw r++qE rs).map (·.1)=_;rw[mBq,FK,wW rs,fCq,mBq]
theorem zD:∀rs,((qE rs).map (·.2)).Perm rs.flatten
 | []=>.nil
 |r::rs=>by
  show((uw r++qE rs).map (·.2)).Perm _;rw[mBq,M3];exact(rot_perm r).append (zD rs)
def LY rs:(qE rs).length=rs.flatten.length:=by
 have:=congrArg bU (wW rs)
 rwa [lMq,lMq]at this
def IZ(rs)r:qE (rs++[r])=qE rs++uw r:=by
 unfold qE;simp
def ac5 ps:(wG ps).length=ps.length:=lMq _
def aca a b:wG (a++b)=wG a++wG b:=mBq
def aar ps:(wG ps).map (·.1)=ps.map (·.1):=by
 unfold wG;rw[mPq];rfl
def Jq{j:Nat}(h:r[j]?=some z)(l:(rot r)[j]?=some y):(uw r)[j]?=some (.inl z,y):=by
 unfold uw;rw[gMq,dJ (z:=(z,y)).mpr ⟨h,l⟩];rfl
def PN{rs:Λ}{r:Ϝ}(hn:rs.flatten.Nodup)(hr:rs[i]?=some r)(n:r[j]?=some z)(B:(rot r)[j]?=some y) :
  FC (wG (qE (rs.take i)++(uw r).take j)) (.inl z) (.int y)=wG (qE (rs.take i)++(uw r).take (j+1)):=by
 have s:=vD hr;have l:((rs.take i).flatten++r).Nodup:=by
  rw[←s];have E:rs.flatten=(rs.take (i+1)).flatten++(rs.drop (i+1)).flatten:=by rw[←fAq,aT]
  rw[E]at hn;exact(nAq.mp hn).1
 rw[Ft]
 .rw[tq (Jq n B),←ao,aca (_++_) [_]];rfl
 .rw[aar,mBq,wW,jc,FK,←jc];intro m;rcases mAq.mp m with m|m
  .obtain⟨x,t,u⟩:=mMq.mp m;cases u;exact(nAq.mp l).2.2 _ t _ (mGq n) rfl
  .obtain⟨x,t,u⟩:=mMq.mp m;cases u;have:=bo.sublist (bj (j+1) r) (nAq.mp l).2.1;rw[tq n]at this;exact(nAq.mp this).2.2 _ t _ ⋯ rfl
def Ma{rs:Λ}{r:Ϝ}(hl:rs.flatten.length<=1000)(hr:rs[i]?=some r):(wG (qE (rs.take i)++(uw r).take j)).length<tH:=by
 have l:=yW rs (i+1);rw[vD hr,lAq]at l;rw[ac5,lAq,LY,lTq,Az];lia
def alT(r:Ϝ):yw (r.map D.int) (some 1) none=(r.drop 1).map D.int:=by
 rw[yE];cases r with
 |nil=>rfl
 |cons x r=>rw[show(some 1)=some ((1:Nat):Int)from rfl,DX _ _ ⋯]
def alH(r:Ϝ):yw (r.map D.int) none (some 1)=(r.take 1).map D.int:=by
 rw[yE];cases r with
 |nil=>rfl
 |cons x r=>rw[show(some 1)=some ((1:Nat):Int)from rfl,FN _ _ ⋯]
def Zx(hn:rs.flatten.Nodup)(hl:rs.flatten.length<=1000):IG [dM rs]=some (.owd (wG (qE rs))):=by
 have key:=Ao (x:=2) (body:=EI) (λi S=>∃E l n,S=[some (.sh (dM rs)),some (.owd (wG (qE (rs.take i)))),E,l,n]) (ds:=rs.map dI) (S:=[some (.sh (dM rs)),some (.owd []),none,none,none]) ⟨none,none,none,rfl⟩ (by
  rintro i d S hd ⟨E,l,n,rfl⟩;obtain⟨r,hr,rfl⟩:=Om hd;have I:r.length<=1000:=by
   have J:=yW rs (i+1);rw[vD hr,lAq]at J;lia
  have t:(r.map D.int).length=((rot r).map D.int).length:=by rw[lMq,lMq,Gp]
  have L:=afZ (x:=3) (y:=4) (k:=0) (body:=EU) (λj S=>∃l n,S=[some (.sh (dM rs)),some (.owd (wG (qE (rs.take i)++(uw r).take j))),some (.sh (dI r)),l,n]) (S:=[some (.sh (dM rs)),some (.owd (wG (qE (rs.take i)))),some (.sh (dI r)),l,n]) t ⟨l,n,by simp⟩ (by
   rintro j d e S hd M ⟨l,n,rfl⟩;obtain⟨z,O,rfl⟩:=UD hd;obtain⟨y,P,rfl⟩:=UD M;have Q:=Ma (j:=j) hl hr;have u:=PN hn hr O P;refine⟨_,?_,i0 z,i0 y,rfl⟩
   simp_arith [EU,Q,u])
  obtain⟨U,H,R,T,rfl⟩:=L;rw[cA,lMq,←Az,bB]at H;refine⟨_,?_,some (.sh (dI r)),R,T,rfl⟩;rw[tq hr,IZ];have G:(r.drop 1).length+(r.take 1).length<=tH:=uL (by rw[aC,lTq];lia)
  have B:(r.drop 1).map D.int++(r.take 1).map D.int=(rot r).map D.int:=by unfold rot;rw[mBq]
  have s:=(Gp r).symm
  simp_arith [EI,alT,alH,G,B,s,H])
 obtain⟨X,e,E,l,n,rfl⟩:=key;rw[lMq,bB]at e
 simp_arith [IG,QI,e]
end K51
namespace K15
open PySem L2 Mr Z Xe Zl
def Bh(hn:(ps.map (·.1)).Nodup)(h:(k,n)∈ps):Z.getD (K51.wG ps) k=some (.int n):=by
 induction ps with
 |nil=>cases h
 |cons p ps l=>
  rw[aw,ak]at hn;show(((p.1,D.int p.2)::K51.wG ps).find? _).map _=_;rcases ah.mp h with e|e
  .rw[←e,eE ⋯]
   rfl
  .rw[dg (by
    intro z;have s:=by simpa using z
    exact hn.1 (by rw[s];exact mMq.mpr ⟨_,e,rfl⟩))]
   exact l hn.2 e
def Y9{ps:List (qM×Int)}(hn:(ps.map (·.2)).Nodup)(h:(k,n)∈ps)(h':(s,n)∈ps):k=s:=by
 induction ps with
 |nil=>cases h
 |cons p ps t=>
  rw[aw,ak]at hn;rcases ah.mp h with e|e
  .rcases ah.mp h' with l|l
   .rw[←e]at l;exact(congrArg Prod.fst l).symm
   .exact absurd (mMq.mpr ⟨_,l,by rw[←e]⟩) hn.1
  .rcases ah.mp h' with l|l
   .exact absurd (mMq.mpr ⟨_,e,by rw[←l]⟩) hn.1
   .exact t hn.2 e l
def nx(rs:Λ)(e:Int):Int:=match Z.getD (K51.wG (K51.qE rs)) (.inl e)with
 |some (.int n)=>n
 |_=>0
def fw(rs:Λ)(e:Int):Int:=nx rs (-e)
def MJ(hn:rs.flatten.Nodup):((K51.qE rs).map (·.1)).Nodup:=by
 rw[K51.wW,aG,bD];exact bo.imp (λh e=>h (bh.inj e)) (aG.mp hn)
def D2(hn:rs.flatten.Nodup)(s:e∈rs.flatten):(bh e,nx rs e)∈K51.qE rs:=by
 have hk:(bh e)∈(K51.qE rs).map (·.1):=by rw[K51.wW];exact mMq.mpr ⟨e,s,rfl⟩
 obtain⟨⟨k,n⟩,l,rfl⟩:=mMq.mp hk;have:=Bh (MJ hn) l;unfold nx;rw[this];exact l
def abd(hn:rs.flatten.Nodup)(l:e∈rs.flatten):Z.getD (K51.wG (K51.qE rs)) (.inl e)=some (.int (nx rs e)):=Bh (MJ hn) (D2 hn l)
def S6(hn:rs.flatten.Nodup)(l:e∈rs.flatten):nx rs e∈rs.flatten:=(K51.zD rs).mem_iff.mp (mMq.mpr ⟨_,D2 hn l,rfl⟩)
def aag(hn:rs.flatten.Nodup)(ha:a∈rs.flatten)(hb:b∈rs.flatten)(h:nx rs a=nx rs b):a=b:=by
 have l:=D2 hn ha;have n:=D2 hn hb;rw[h]at l;exact bh.inj (Y9 ((K51.zD rs).symm.nodup hn) l n)
def GZ(hm:Mp rs):Rg (fw rs) rs.flatten:=⟨hm.hn,λe l=>S6 hm.hn (hm.hneg e l),λa ha b hb h=>by
 have:=aag hm.hn (hm.hneg a ha) (hm.hneg b hb) h;lia⟩
def stp(rs:Λ)(E:Ϝ):List (qM×D):=E.map λe=>(bh e,.int (fw rs e))
def ad5(hn:rs.flatten.Nodup)(l:e∈rs.flatten):Z.getD (stp rs rs.flatten) (.inl e)=some (.int (fw rs e)):=by
 have h:=Bh (ps:=rs.flatten.map λe=>(bh e,fw rs e)) (by
  rw[mPq,aG,bD];exact bo.imp (λh e=>h (bh.inj e)) (aG.mp hn)) (mMq.mpr ⟨e,l,rfl⟩)
 unfold K51.wG at h;rw[mPq]at h;exact h
def afO rs:(K51.wG (K51.qE rs)).map (λp=>kD p.1)=rs.flatten.map D.int:=by
 have:(K51.wG (K51.qE rs)).map (λp=>kD p.1)=((K51.qE rs).map (·.1)).map kD:=by
  unfold K51.wG;rw[mPq,mPq];rfl
 rw[this,K51.wW,mPq];rfl
def SI(hm:Mp rs):DE [dM rs]=some (.owd (stp rs rs.flatten)):=by
 have z:=K51.Zx hm.hn hm.hl;have hl:=hm.hl;have key:=Ao (x:=3) (body:=Bu) (λi S=>∃l,S=[some (.sh (dM rs)),some (.sh (.fd (K51.wG (K51.qE rs)))),some (.owd (stp rs (rs.flatten.take i))),l]) (ds:=rs.flatten.map D.int) (S:=[some (.sh (dM rs)),some (.sh (.fd (K51.wG (K51.qE rs)))),some (.owd []),none]) ⟨none,rfl⟩ (by
  rintro i d S hd ⟨l,rfl⟩;rw[gMq]at hd;obtain⟨e,n,rfl⟩:=oMq.mp hd;have s:=mGq n;have B:=abd hm.hn (hm.hneg e s);have l1:(stp rs (rs.flatten.take i)).length<tH:=by unfold stp;rw[lMq,lTq];show _<16777216;lia
  have t:FC (stp rs (rs.flatten.take i)) (.inl e) (.int (nx rs (-e)))=stp rs (rs.flatten.take (i+1)):=by
   rw[Ft]
   .unfold stp;rw[tq n,mBq];rfl
   .intro m;obtain⟨p,t,E⟩:=mMq.mp m;obtain⟨x,G,rfl⟩:=mMq.mp t;have H:=bh.inj E;subst H;have:=bo.sublist (bj (i+1) rs.flatten) hm.hn;rw[tq n]at this;exact(nAq.mp this).2.2 x G x ⋯ rfl
  refine⟨_,?_,i0 e,rfl⟩
  simp_arith [Bu,B,l1,t])
 obtain⟨J,e,l,rfl⟩:=key;rw[lMq,bB]at e;have I:=afO rs;have u:((3)≠1)=True:=by simp
 simp_arith [DE,Kp,z,u,I,e]
noncomputable def mu(N:Nat):AS->Nat
 | [_,_,some (.ow l),_]=>N+1-l.length
 |_=>0
def aeJ(f)e n:((bT n).map λk=>itr f k e)++[itr f n e]=(bT (n+1)).map λk=>itr f k e:=by rw[List.range_succ,mBq];rfl
def adE(hm:Mp rs)(B:e∈rs.flatten):∃l,Cy (fw rs) e l/\l.length<=rs.flatten.length/\zo [.dict (stp rs rs.flatten),.int e]=some (aI l):=by
 have one:=GZ hm;obtain⟨l,cy,u,s⟩:=one.cy B;have hl:=hm.hl;refine⟨l,cy,u,?_⟩;have t:∀n,Z.getD (stp rs rs.flatten) (.inl (itr (fw rs) n e))=some (.int (itr (fw rs) (n+1) e)):=λn=>ad5 hm.hn (one.itr_mem B n)
 have key:=CM (c:=tJ (qe WZ (oH 3) (oH 1))) (body:=yP) (λS=>∃n,1<=n/\n<=l.length/\S=[some (.sh (.dict (stp rs rs.flatten))),i0 e,some (aI ((bT n).map λk=>itr (fw rs) k e)),i0 (itr (fw rs) n e)]) (mu l.length) (λS=>∃E,S=[some (.sh (.dict (stp rs rs.flatten))),i0 e,some (aI l),E]) (by
  rintro S ⟨n,O,P,rfl⟩
  by_cases hn:n<l.length
  .have x:¬ itr (fw rs) n e=e:=s n ∅ hn
   have G:=t n;have l1:n<tH:=by show _<16777216;lia
   have H:((bT n).map λk=>itr (fw rs) k e).map (λn=>AV.sh (.int n))++[.sh (.int (itr (fw rs) n e))]=((bT (n+1)).map λk=>itr (fw rs) k e).map λn=>.sh (.int n):=by rw[←aeJ,mBq];rfl
   refine⟨true,[some (.sh (.dict (stp rs rs.flatten))),i0 e,some (aI ((bT n).map λk=>itr (fw rs) k e)),i0 (itr (fw rs) n e)],?_,λ_=>⟨[some (.sh (.dict (stp rs rs.flatten))),i0 e,some (aI ((bT (n+1)).map λk=>itr (fw rs) k e)),i0 (itr (fw rs) (n+1) e)],?_,⟨n+1,by lia,by lia,rfl⟩,?_⟩,λq=>(nomatch q)⟩
   .simp_arith [x]
   .simp_arith [yP,bq,l1,H,G]
   .show l.length+1-_<l.length+1-_;simp only[lMq,bq];lia
  .have I:n=l.length:=by lia
   subst I;have hb:=cy.back;have J:=cy.get;refine⟨false,[some (.sh (.dict (stp rs rs.flatten))),i0 e,some (aI ((bT l.length).map λk=>itr (fw rs) k e)),i0 (itr (fw rs) l.length e)],?_,λq=>(nomatch q),λ_=>⟨i0 (itr (fw rs) l.length e),by rw[←J]⟩⟩
   simp_arith [hb])
 have L:=t 0;obtain⟨Q,M,E,rfl⟩:=key 100000 [some (.sh (.dict (stp rs rs.flatten))),i0 e,some (.ow [.sh (.int e)]),i0 (itr (fw rs) (0+1) e)] ⟨1,ae _,cy.len,rfl⟩ (by
  show l.length+1-1<100000;lia)
 have z:Z.getD (stp rs rs.flatten) (.inl e)=some (.int (itr (fw rs) (0+1) e)):=L
 simp_arith [zo,El,z,M]
noncomputable def kI(l:Ϝ):List (qM×D):=l.map λk=>((bh k:qM),D.bl true)
def ZD(l)t:(kI l).any (λs=>decide (s.1=(bh t:qM)))=decide (t∈l):=by
 induction l with
 |nil=>simp[kI]
 |cons k l n=>
  unfold kI at n ⊢;rw[aw,dF,n]
  by_cases h:t=k
  .subst h;simp
  .have u:¬ (bh k:qM)=bh t:=λq=>h (bh.inj q).symm
   simp[u,h]
def JX(l)t:(Z.getD (kI l) (bh t)).isSome=decide (t∈l):=by
 unfold Z.getD;rw[gS,←ZD,cL,List.find?_isSome,cE]
def Te(h:t∉l):FC (kI l) (bh t) (.bl true)=kI (l++[t]):=by
 unfold FC;rw[ZD,d4 h];simp[kI]
def Ro l:(kI l).length=l.length:=by unfold kI;rw[lMq]
structure Rd (f:Int->Int)(E:Ϝ)(kn:Ϝ)(L:Λ):Prop where
 cy:∀l∈L,∃e,Cy f e l
 fl:L.flatten=kn
 nd:kn.Nodup
 sub:∀x∈kn,x∈E
 cl:∀x∈kn,f x∈kn
theorem Rd.itr(h:Rd f E kn L)(l:x∈kn):∀n,itr f n x∈kn
 |0=>l
 |n+1=>h.cl _ (h.itr l n)
def Rd.out(h:Rd f E kn L)(c:Cy f e l)(t:e∉kn):∀x∈l,x∉kn:=by
 intro x u hk;obtain⟨j,n⟩:=bK.mp u;have s:=(gSq.mp n).1;rw[c.at s]at n;have z:=aY.inj n;subst z;have:=h.itr hk (l.length-j);rw[←BI,show l.length-j+j=l.length by lia,c.back]at this
 exact t this
def Rd.add(G:Rg f E)(h:Rd f E kn L)(c:Cy f e l)(s:e∈E)(H:e∉kn):Rd f E (kn++l) (L++[l]):=by
 have I:=h.out c H;refine⟨λm hm=>?_,by rw[fAq,h.fl,aR],?_,λx t=>?_,λx t=>?_⟩
 .rcases mAq.mp hm with q|q
  .exact h.cy m q
  .rw[mSq.mp q];exact⟨e,c⟩
 .rw[nAq];exact⟨h.nd,c.nd,λa ha b hb q=>I b hb (q ▸ ha)⟩
 .rcases mAq.mp t with q|q
  .exact h.sub x q
  .rw[c.get]at q;obtain⟨n,_,rfl⟩:=mMq.mp q;exact G.itr_mem s n
 .rcases mAq.mp t with q|q
  .exact mAq.mpr (.inl (h.cl x q))
  .refine mAq.mpr (.inr ?_);obtain⟨j,u⟩:=bK.mp q;have z:=(gSq.mp u).1;rw[c.at z]at u;rw[←aY.inj u];show Zl.itr f (j+1) e∈l
   by_cases B:j+1<l.length
   .exact mGq (c.at B)
   .rw[show j+1=l.length by lia,c.back]
    exact c.self
def Rd.orb(h:Rd f E kn L)(l:∀x∈E,x∈kn):O3 f E L:=⟨h.cy,by rw[h.fl];exact h.nd,λx=>by rw[h.fl];exact⟨h.sub x,l x⟩⟩
noncomputable def yO(rs:Λ):Λ:=(rs.filter λr=>decide (r=[])).map λ_=>[]
def abk rs:uF (tJ (qe CI (ze vZ (oK (oH 0) ph)) (rC (.int 0)))) (sZ oV) [] (rs.map dI)=some ((yO rs).map aI):=by
 rw[Z.vK (λd=>decide (D3 d=[])) (λ_=>.ow [])]
 .unfold yO;rw[gh,mPq,mPq];have:(λd=>decide (D3 d=[]))∘dI=λr=>decide (r=[]):=by funext r;show decide (D3 (dI r)=[])=_;rw[xA]
  rw[this];rfl
 .intro d hd;obtain⟨r,hr,rfl⟩:=CV hd;rw[xA];refine⟨[some (.sh (dI r))],?_,λ_=>⟨[some (.sh (dI r))],?_⟩⟩
  .by_cases h:r=[]
   .subst h;have z:((0:Nat):Int)=0:=rfl
    simp_arith [dI,z]
   .have l:¬ ((r.length):Int)=0:=λq=>h (bz.mp ∅)
    simp_arith [dI,l,h]
  .simp_arith []
def VR(hn:(kn++l).Nodup)(hl:kn.length+l.length<500000):∃n,uY 6 Ck (l.map D.int) [v0,v1,some (.owd (kI kn)),v3,v4,v5,v6]=some (.nx [v0,v1,some (.owd (kI (kn++l))),v3,v4,v5,n]):=by
 have key:=Ao (x:=6) (body:=Ck) (λi S=>∃n,S=[v0,v1,some (.owd (kI (kn++l.take i))),v3,v4,v5,n]) (ds:=l.map D.int) (S:=[v0,v1,some (.owd (kI kn)),v3,v4,v5,v6]) ⟨v6,by simp⟩ (by
  rintro i d S hd ⟨n,rfl⟩;rw[gMq]at hd;obtain⟨e,t,rfl⟩:=oMq.mp hd;have s:=λm=>by
   have u:=bo.sublist (cT.append (cT.refl kn) (bj (i+1) l)) hn;rw[tq t,←ao]at u;exact(nAq.mp u).2.2 e m e ⋯ rfl
  have z:=Te s;rw[ao,←tq t]at z;have l1:(kI (kn++l.take i)).length<tH:=by rw[Ro,lAq,lTq];show _<16777216;lia
  refine⟨_,?_,i0 e,rfl⟩
  simp_arith [Ck,l1,z])
 obtain⟨B,e,n,rfl⟩:=key;rw[lMq,bB]at e;exact⟨n,e⟩
def KL(B L:Λ):AV:=.ow (B.map aI++L.map λl=>.sh (dI l))
def RA(hm:Mp rs):∃v1 v2 v4 v5 v6 L,uY 4 zZ ((ER rs.flatten).map D.int) [some (.sh (dM rs)),some (.owd (stp rs rs.flatten)),some (.owd []),some (KL (yO rs) []),none,none,none]=some (.nx [some (.sh (dM rs)),v1,v2,some (KL (yO rs) L),v4,v5,v6])/\O3 (fw rs) rs.flatten L:=by
 have one:=GZ hm;have hl:=hm.hl;have J:=hm.hr;have M:=GX rs.flatten;have key:=Ao (x:=4) (body:=zZ) (λi S=>∃s L v1 v4 v5 v6,S=[some (.sh (dM rs)),some v1,some (.owd (kI s)),some (KL (yO rs) L),v4,v5,v6]/\pD v1 = .dict (stp rs rs.flatten)/\(∀x,v1=x->(x = .owd (stp rs rs.flatten)∨x = .sh (.dict (stp rs rs.flatten))))/\Rd (fw rs) rs.flatten s L/\L.length<=i/\∀j x,j<i->(ER rs.flatten)[j]?=some x->x∈s) (ds:=(ER rs.flatten).map D.int) (S:=[some (.sh (dM rs)),some (.owd (stp rs rs.flatten)),some (.owd []),some (KL (yO rs) []),none,none,none]) ⟨[],[],.owd (stp rs rs.flatten),none,none,none,rfl,rfl,λx h=>.inl h.symm,⟨by simp,rfl,ba,by simp,by simp⟩,ae _,λj x h=>absurd h (dC _)⟩ (by
  rintro i d S hd ⟨s,L,v1,v4,v5,v6,rfl,z,B,hr,R,n⟩;rw[gMq]at hd;obtain⟨e,H,rfl⟩:=oMq.mp hd;have O:=(gSq.mp H).1;rw[M.length_eq]at O;have E:e∈rs.flatten:=M.mem_iff.mp (mGq H);have I:=JX s e
  by_cases c:e∈s
  .rw[d0 c]at I;refine⟨[some (.sh (dM rs)),some v1,some (.owd (kI s)),some (KL (yO rs) L),i0 e,v5,v6],?_,s,L,v1,_,_,_,rfl,z,B,hr,by lia,λj x u t=>?_⟩
   .simp_arith [zZ,I]
   .rcases dP.mp u with q|rfl
    .exact n j x q t
    .rw[H]at t;cases t;exact c
  .rw[d4 c]at I;obtain⟨l,cy,T,U⟩:=adE hm E;have G:=hr.add one cy E c;have X:=Wq _ _ hr.nd hr.sub;obtain⟨P,Q⟩:=VR (kn:=s) (l:=l) (v0:=some (.sh (dM rs))) (v1:=some (.sh (.dict (stp rs rs.flatten)))) (v3:=some (KL (yO rs) L)) (v4:=i0 e) (v5:=some (.sh (dI l))) (v6:=v6) G.nd ∅
   have Y:=sm l;have lb:(yO rs).length<=rs.length:=by unfold yO;rw[lMq];exact dw _ _
   have l1:((yO rs).map aI++L.map λl=>AV.sh (dI l)).length<tH:=by rw[lAq,lMq,lMq];show _<16777216;lia
   have ea:((yO rs).map aI++L.map λl=>AV.sh (dI l))++[.sh (dI l)]=(yO rs).map aI++(L++[l]).map λl=>.sh (dI l):=by rw[ao,mBq];rfl
   refine⟨[some (.sh (dM rs)),some (.sh (.dict (stp rs rs.flatten))),some (.owd (kI (s++l))),some (KL (yO rs) (L++[l])),i0 e,some (.sh (dI l)),P],?_,s++l,L++[l],.sh (.dict (stp rs rs.flatten)),_,_,_,rfl,rfl,λx h=>.inr h.symm,G,by rw[lAq,lSq];lia,λj x u t=>?_⟩
   .unfold KL at Q ⊢
    simp_arith [zZ,I,z,U,Y,Q,l1,ea]
   .rcases dP.mp u with q|rfl
    .exact mAq.mpr (.inl (n j x q t))
    .rw[H]at t;cases t;exact mAq.mpr (.inr cy.self))
 obtain⟨S',e,s,L,v1,v4,v5,v6,rfl,_,_,hr,_,n⟩:=key;refine⟨_,_,_,_,_,L,e,hr.orb λx t=>?_⟩
 obtain⟨j,u⟩:=bK.mp (M.mem_iff.mpr t);exact n j x (by rw[lMq];exact(gSq.mp u).1) u
def JK rs:(yO rs).length<=rs.length:=by unfold yO;rw[lMq];exact dw _ _
def LM B L:pD (KL B L)=dM (B++L):=by
 unfold KL;rw[vi,mBq,mPq,mPq];show D.list _=D.list ((B++L).map dI);rw[mBq];congr 2
 .exact mCq λr _=>sm r
def Oa(hm:Mp rs)(h:O3 (fw rs) rs.flatten L):(∀l∈L,l.length<=1000)/\L.length<=1000:=by
 have p:=(cx h.dj hm.hn).mpr h.all;have hl:=hm.hl;refine⟨λl n=>?_,?_⟩
 .have:=cT.length_le (ax n);rw[p.length_eq]at this;lia
 .have:∀{L:Λ},(∀l∈L,1<=l.length)->L.length<=L.flatten.length:=λ{L} h=>by
   induction L with
   |nil=>exact ae _
   |cons a L s=>
    have t:=h a (aq ..);have u:=s λl hl=>h l (mCo _ hl)
    rw[lCq,fCq,lAq];lia
  have:=this λl hl=>by obtain⟨e,c⟩:=h.cy l hl;exact c.len
  rw[p.length_eq]at this;lia
def JT(hm:Mp rs):∃L,O3 (fw rs) rs.flatten L/\sQ [dM rs]=some (.ow ((A7 ((yO rs++L).map good)).map aI)):=by
 obtain⟨H,I,J,M,O,L,e,n⟩:=RA hm;have hl:=hm.hl;have l:=hm.hr;have ow:=SI hm;have s:=abk rs;have t:=ac4 (rs:=rs) ∅
 have u:rs.length<=tH:=by show _<=16777216;lia
 have z:AV.ow ((yO rs).map aI)=KL (yO rs) []:=by unfold KL;rw[fg,aNq]
 have st:=LM (yO rs) L;obtain⟨B,P⟩:=Oa hm n;have bl:=JK rs;have E:=uQ (rs:=yO rs++L) (λr hr=>by
  rcases mAq.mp hr with q|q
  .obtain⟨x,_,rfl⟩:=mMq.mp q;exact bb _
  .have:=B r q;lia) (by rw[lAq];show _<=16777216;lia)
 refine⟨L,n,?_⟩;have G:=sm (ER rs.flatten)
 simp_arith [sQ,Ph,ow,dM,s,u,z,t,G,dI,e,st,E]
def Zb(l:j<r.length):(K51.rot r)[j]?=r[(j+1) % r.length]?:=by
 unfold K51.rot
 by_cases h:j+1<r.length
 .rw[fS h,gZq (by rw[aC];lia),dm,gk]
 .have e:j+1=r.length:=by lia
  rw[e,ir,gYq (by rw[aC];lia),aC,cG ∅]
  congr 1;lia
def Lw(hm:Mp rs):AX [dM rs]=some (.owd (K51.wG (K51.qE rs))):=by
 have hn:=hm.hn;have hl:=hm.hl;have key:=Ao (x:=2) (body:=Bz) (λi S=>∃t l,S=[some (.sh (dM rs)),some (.owd (K51.wG (K51.qE (rs.take i)))),t,l]) (ds:=rs.map dI) (S:=[some (.sh (dM rs)),some (.owd []),none,none]) ⟨none,none,rfl⟩ (by
  rintro i d S hd ⟨t,l,rfl⟩;obtain⟨r,hr,rfl⟩:=Om hd;have G:=hm.row hr;have H:=Ao (x:=3) (body:=BK) (λj S=>∃l,S=[some (.sh (dM rs)),some (.owd (K51.wG (K51.qE (rs.take i)++(K51.uw r).take j))),some (.sh (dI r)),l]) (ds:=sV 0 r.length) (S:=[some (.sh (dM rs)),some (.owd (K51.wG (K51.qE (rs.take i)))),some (.sh (dI r)),l]) ⟨l,by simp⟩ (by
   rintro j d S hd ⟨l,rfl⟩;have u:j<r.length:=by
    have:=(gSq.mp hd).1
    rwa [uJ]at this
   rw[Em u,jQ]at hd;cases hd;have B:r[j]?=some r[j]:=gEg u;have n:(j+1) % r.length<r.length:=Nat.mod_lt _ ∅
   have I:(K51.rot r)[j]?=some r[(j+1) % r.length]:=by rw[Zb u];exact gEg n
   have J:=K51.Ma (j:=j) hl hr;have s:=K51.PN hn hr B I;have L:atI (r.map D.int) (j:Int)=some (.int r[j]):=yr (by rw[gMq,B];rfl)
   have E:=uT (i:=(j)+1) (j:=(r.length)) ∅
   have M:((j:Int)+1) % (r.length)=(((j+1) % r.length:Nat)):=by rfl
   rw[M]at E;have O:atI (r.map D.int) (((j+1) % r.length:Nat))=some (.int r[(j+1) % r.length]):=yr (by rw[gMq,gEg n];rfl)
   refine⟨_,?_,i0 (j),rfl⟩
   simp_arith [BK,dI,L,E,O,J,s])
  obtain⟨R,z,P,rfl⟩:=H;rw[uJ,←K51.Az,bB]at z;have Q:Lc [.int (r.length)]=some (sV 0 r.length):=Af ∅
  rw[K51.Az]at z;refine⟨_,?_,some (.sh (dI r)),P,rfl⟩;rw[tq hr,K51.IZ]
  simp_arith [Bz,dI,Q,z])
 obtain⟨T,e,t,l,rfl⟩:=key;rw[lMq,bB]at e
 simp_arith [AX,KD,e]
def WL rs:uF (xy (Pa (oH 0))) (sZ oV) [] (rs.map dI)=some ((yO rs).map aI):=by
 rw[Z.vK (λd=>decide (D3 d=[])) (λ_=>.ow [])]
 .unfold yO;rw[gh,mPq,mPq];have:(λd=>decide (D3 d=[]))∘dI=λr=>decide (r=[]):=by funext r;show decide (D3 (dI r)=[])=_;rw[xA]
  rw[this];rfl
 .intro d hd;obtain⟨r,hr,rfl⟩:=CV hd;rw[xA];refine⟨[some (.sh (dI r))],?_,λ_=>⟨[some (.sh (dI r))],?_⟩⟩
  .cases r with
   |nil=>
    have t0:K9 (dI [])=some false:=rfl
    simp_arith [t0]
   |cons x r=>
    have l:K9 (dI (x::r))=some true:=rfl
    simp_arith [l]
  .simp_arith []
noncomputable def mu2(N:Nat):AS->Nat
 | [_,_,_,_,_,some (.ow l),_]=>N+1-l.length
 |_=>0
def aaO(hm:Mp rs)(hr:Rd (fw rs) rs.flatten s H)(x:e∈rs.flatten)(I:e∉s):∃l v6,Cy (fw rs) e l/\vL (tJ (vC (oH 6) (oH 2))) zj 100000 [v0,some (.sh (.fd (K51.wG (K51.qE rs)))),some (.owd (kI s)),v3,i0 e,some (.ow []),i0 e]=some (.nx [v0,some (.sh (.fd (K51.wG (K51.qE rs)))),some (.owd (kI (s++l))),v3,i0 e,some (aI l),v6]):=by
 have one:=GZ hm;obtain⟨l,cy,J,E⟩:=one.cy x;have hl:=hm.hl;have L:=Wq _ _ hr.nd hr.sub;have M:=hr.out cy I;have B:∀n,Z.getD (K51.wG (K51.qE rs)) (.inl (-(itr (fw rs) n e)))=some (.int (itr (fw rs) (n+1) e)):=λn=>abd hm.hn (hm.hneg _ (one.itr_mem x n))
 have key:=CM (c:=tJ (vC (oH 6) (oH 2))) (body:=zj) (λS=>∃n,n<=l.length/\S=[v0,some (.sh (.fd (K51.wG (K51.qE rs)))),some (.owd (kI (s++l.take n))),v3,i0 e,some (aI (l.take n)),i0 (itr (fw rs) n e)]) (mu2 l.length) (λS=>∃v6,S=[v0,some (.sh (.fd (K51.wG (K51.qE rs)))),some (.owd (kI (s++l))),v3,i0 e,some (aI l),v6]) (by
  rintro S ⟨n,T,rfl⟩;have z:=JX (s++l.take n) (itr (fw rs) n e)
  by_cases hn:n<l.length
  .have t:=cy.at hn;have u:itr (fw rs) n e∉s++l.take n:=λm=>by
    rcases mAq.mp m with q|q
    .exact M _ (mGq t) q
    .have:=bo.sublist (bj (n+1) l) cy.nd;rw[tq t]at this;exact(nAq.mp this).2.2 _ q _ ⋯ rfl
   rw[d4 u]at z;have G:=Te u;rw[ao,←tq t]at G;have O:=B n;have l1:(kI (s++l.take n)).length<tH:=by rw[Ro,lAq,lTq];show _<16777216;lia
   have l2:(l.take n).length<tH:=by rw[lTq];show _<16777216;lia
   have P:(l.take n).map (λn=>AV.sh (.int n))++[.sh (.int (itr (fw rs) n e))]=(l.take (n+1)).map λn=>.sh (.int n):=by rw[tq t,mBq];rfl
   refine⟨true,[v0,some (.sh (.fd (K51.wG (K51.qE rs)))),some (.owd (kI (s++l.take n))),v3,i0 e,some (aI (l.take n)),i0 (itr (fw rs) n e)],?_,λ_=>⟨[v0,some (.sh (.fd (K51.wG (K51.qE rs)))),some (.owd (kI (s++l.take (n+1)))),v3,i0 e,some (aI (l.take (n+1))),i0 (itr (fw rs) (n+1) e)],?_,⟨n+1,by lia,rfl⟩,?_⟩,λq=>(nomatch q)⟩
   .simp_arith [z]
   .simp_arith [zj,l1,G,l2,P,O]
   .show l.length+1-_<l.length+1-_;simp only[lMq,lTq];lia
  .have Q:n=l.length:=by lia
   subst Q;have hb:=cy.back;rw[hb,bB]at z ⊢;rw[d0 (mAq.mpr (.inr cy.self))]at z;refine⟨false,[v0,some (.sh (.fd (K51.wG (K51.qE rs)))),some (.owd (kI (s++l))),v3,i0 e,some (aI l),i0 e],?_,λq=>(nomatch q),λ_=>⟨_,rfl⟩⟩
   simp_arith [z])
 obtain⟨U,R,v6,rfl⟩:=key 100000 [v0,some (.sh (.fd (K51.wG (K51.qE rs)))),some (.owd (kI s)),v3,i0 e,some (.ow []),i0 e] ⟨0,bb _,by simp[itr]⟩ (by
  show l.length+1-0<100000;lia)
 exact⟨l,v6,cy,R⟩
def PJ(hm:Mp rs):∃v2 v4 v5 v6 L,uY 4 xu (rs.flatten.map D.int) [some (.sh (dM rs)),some (.sh (.fd (K51.wG (K51.qE rs)))),some (.owd []),some (KL (yO rs) []),none,none,none]=some (.nx [some (.sh (dM rs)),some (.sh (.fd (K51.wG (K51.qE rs)))),v2,some (KL (yO rs) L),v4,v5,v6])/\O3 (fw rs) rs.flatten L:=by
 have one:=GZ hm;have hl:=hm.hl;have G:=hm.hr;have key:=Ao (x:=4) (body:=xu) (λi S=>∃s L v4 v5 v6,S=[some (.sh (dM rs)),some (.sh (.fd (K51.wG (K51.qE rs)))),some (.owd (kI s)),some (KL (yO rs) L),v4,v5,v6]/\Rd (fw rs) rs.flatten s L/\L.length<=i/\∀j x,j<i->rs.flatten[j]?=some x->x∈s) (ds:=rs.flatten.map D.int) (S:=[some (.sh (dM rs)),some (.sh (.fd (K51.wG (K51.qE rs)))),some (.owd []),some (KL (yO rs) []),none,none,none]) ⟨[],[],none,none,none,rfl,⟨by simp,rfl,ba,by simp,by simp⟩,ae _,λj x h=>absurd h (dC _)⟩ (by
  rintro i d S hd ⟨s,L,v4,v5,v6,rfl,hr,M,n⟩;rw[gMq]at hd;obtain⟨e,B,rfl⟩:=oMq.mp hd;have hi:=(gSq.mp B).1;have z:e∈rs.flatten:=mGq B;have E:=JX s e
  by_cases c:e∈s
  .rw[d0 c]at E;refine⟨[some (.sh (dM rs)),some (.sh (.fd (K51.wG (K51.qE rs)))),some (.owd (kI s)),some (KL (yO rs) L),i0 e,v5,v6],?_,s,L,_,_,_,rfl,hr,by lia,λj x u t=>?_⟩
   .simp_arith [xu,E]
   .rcases dP.mp u with q|rfl
    .exact n j x q t
    .rw[B]at t;cases t;exact c
  .rw[d4 c]at E;obtain⟨l,H,cy,J⟩:=aaO hm hr z c (v0:=some (.sh (dM rs))) (v3:=some (KL (yO rs) L));have I:=hr.add one cy z c;have O:=sm l;have lb:=JK rs;have l1:((yO rs).map aI++L.map λl=>AV.sh (dI l)).length<tH:=by rw[lAq,lMq,lMq];show _<16777216;lia
   have P:((yO rs).map aI++L.map λl=>AV.sh (dI l))++[.sh (dI l)]=(yO rs).map aI++(L++[l]).map λl=>.sh (dI l):=by rw[ao,mBq];rfl
   refine⟨[some (.sh (dM rs)),some (.sh (.fd (K51.wG (K51.qE rs)))),some (.owd (kI (s++l))),some (KL (yO rs) (L++[l])),i0 e,some (.sh (dI l)),H],?_,s++l,L++[l],_,_,_,rfl,I,by rw[lAq,lSq];lia,λj x u t=>?_⟩
   .unfold KL at J ⊢
    simp_arith [xu,E,J,O,l1,P]
   .rcases dP.mp u with q|rfl
    .exact mAq.mpr (.inl (n j x q t))
    .rw[B]at t;cases t;exact mAq.mpr (.inr cy.self))
 obtain⟨Q,e,s,L,v4,v5,v6,rfl,hr,_,n⟩:=key;refine⟨_,_,_,_,L,e,hr.orb λx t=>?_⟩
 obtain⟨j,u⟩:=bK.mp t;exact n j x (by rw[lMq];exact(gSq.mp u).1) u
def VP(hm:Mp rs):∃L,O3 (fw rs) rs.flatten L/\wa [dM rs]=some (.ow ((A7 ((yO rs++L).map good)).map aI)):=by
 obtain⟨I,J,M,O,L,e,s⟩:=PJ hm;have l:=hm.hr;have t:=Lw hm;have u:=afO rs;have z:=WL rs;have B:rs.length<=tH:=by show _<=16777216;lia
 have E:AV.ow ((yO rs).map aI)=KL (yO rs) []:=by unfold KL;rw[fg,aNq]
 have st:=LM (yO rs) L;obtain⟨G,P⟩:=Oa hm s;have bl:=JK rs;have H:=K13.So (rs:=yO rs++L) (λr hr=>by
  rcases mAq.mp hr with q|q
  .obtain⟨x,_,rfl⟩:=mMq.mp q;exact bb _
  .have:=G r q;lia) (by rw[lAq];show _<=16777216;lia)
 refine⟨L,s,?_⟩;have n:((4)≠1)=True:=by simp
 simp_arith [wa,JA,t,dM,z,B,E,n,u,e,st,H]
def SD(hm:Mp rs):∃G:Λ,sQ [dM rs]=some (.ow (G.map aI))/\wa [dM rs]=some (.ow (G.map aI))/\G.flatten.Perm rs.flatten/\G.length<=1000+rs.length:=by
 obtain⟨L,n,s⟩:=JT hm;obtain⟨M,t,u⟩:=VP hm;have z:((yO rs++L).map good).Perm ((yO rs++M).map good):=by
  rw[mBq,mBq];exact bX.append_left _ (n.perm (GZ hm) t)
 refine⟨A7 ((yO rs++L).map good),s,by rw[u,DO z],?_,?_⟩
 .refine(Gz (uD _)).trans ((yg vt _).trans ?_);have B:=(cx n.dj hm.hn).mpr n.all;have hb:(yO rs).flatten=[]:=by
   refine iu.mpr λl hl=>?_
   obtain⟨x,_,rfl⟩:=mMq.mp hl;rfl
  rw[fAq,hb];exact B
 .have:=(Oa hm n).2;have:=JK rs;rw[Ab,lMq,lAq];lia
end K15
namespace K16
open PySem L2 Mr Z Xe Zl
def aec(h:0<j)(l:j.natAbs.log2<9000):Zr (.int i) (.int j)=some (.int (i / j)):=wI ⟨h,l⟩ _
def akl:Ie (.int 10) (.int 57)=some (.int (10 ^ 57)):=by simp_arith []
def ajw:Ie (.int 10) (.int 59)=some (.int (10 ^ 59)):=by simp_arith []
noncomputable def pm(l:Ϝ):Ϝ:=l.flatMap λx=>[x, -x]
def acU(l)x:pm (l++[x])=pm l++[x, -x]:=by unfold pm;rw[jd];simp
def Xx l:(pm l).length=2*l.length:=by
 unfold pm
 induction l with
 |nil=>rfl
 |cons a l n=>
  rw[jt,lAq,n,lCq (as:=l)];show 2+_=_;lia
def aiS(h:z∈pm l):-z∈pm l:=by
 unfold pm at h ⊢;rw[fR]at h ⊢;obtain⟨x,n,s⟩:=h;refine⟨x,n,?_⟩;rcases ah.mp s with e|e
 .rw[e];simp
 .rw[mSq.mp e,iJ];simp
def alu(hn:n<=30):∃s l last v5,uY 5 B6 (sV 0 n) [s0,s1,i0 0,i0 c,some (.ow []),none,none,none,none,none,none,none,none]=some (.nx [s0,s1,i0 last,i0 s,some (aI (pm l)),v5,none,none,none,none,none,none,none])/\l.length=n/\l.Nodup/\(∀z∈l,1<=z):=by
 have key:=Ao (x:=5) (body:=B6) (λi S=>∃s l last v5,S=[s0,s1,i0 last,i0 s,some (aI (pm l)),v5,none,none,none,none,none,none,none]/\l.length=i/\l.Nodup/\(∀z∈l,1<=z/\z<=last)/\0<=last) (ds:=sV 0 n) (S:=[s0,s1,i0 0,i0 c,some (.ow []),none,none,none,none,none,none,none,none])
  ⟨c,[],0,none,rfl,rfl,ba,λz t=>(by cases t),by decide⟩ (by
  rintro i d S hd ⟨s,l,last,v5,rfl,hl,u,hr,B⟩;have hi:i<n:=by
   have:=(gSq.mp hd).1
   rwa [uJ]at this
  have E:=uT (i:=s) (j:=10 ^ 57) ⋯
  have M:=bH s (b:=10 ^ 57) ⋯
  have G:=aec (i:=s) (j:=10 ^ 57) ⋯ (by trivial)
  have H:=akl;have l3:(pm l).length+2<=tH:=by rw[Xx];show _<=16777216;lia
  generalize I:last+1+s % 10 ^ 57=x;have J:last+1<=x:=by lia
  have L:(pm l).map (λn=>AV.sh (.int n))++[.sh (.int x),.sh (.int (-x))]=(pm (l++[x])).map λn=>.sh (.int n):=by rw[acU,mBq];rfl
  refine⟨[s0,s1,i0 x,i0 (s / 10 ^ 57),some (aI (pm (l++[x]))),some (.sh d),none,none,none,none,none,none,none],?_,s / 10 ^ 57,l++[x],x,some (.sh d),rfl,by rw[lAq,hl];rfl,?_,?_,by lia⟩
  .simp_arith [B6,H,E,I,G,l3,L]
  .rw[nAq];refine⟨u,by simp,λa ha b hb e=>?_⟩
   rw[mSq.mp hb]at e;have:=hr a ha;lia
  .intro z t;rcases mAq.mp t with t|t
   .have:=hr z t;exact⟨this.1,by lia⟩
   .rw[mSq.mp t];exact⟨by lia,gJ _⟩)
 obtain⟨O,e,s,l,last,v5,rfl,hl,u,hr,B⟩:=key;rw[uJ]at hl;exact⟨s,l,last,v5,e,hl,u,λz t=>(hr z t).1⟩
noncomputable def HU(M:List (Int×Int)):List (qM×D):=M.map λp=>(.inl p.1,.int p.2)
def acL M:(HU M).length=M.length:=lMq _
def acY M:HU M=K51.wG (M.map λp=>((bh p.1:qM),p.2)):=by unfold HU K51.wG;rw[mPq];rfl
def aaA(h:z∉M.map (·.1)):FC (HU M) (.inl z) (.int x)=HU (M++[(z,x)]):=by
 rw[Ft]
 .unfold HU;rw[mBq];rfl
 .intro m;obtain⟨p,l,n⟩:=mMq.mp m;obtain⟨q,s,rfl⟩:=mMq.mp l;exact h (mMq.mpr ⟨q,s,bh.inj n⟩)
theorem Lv{α β:Type}(f:α->β):∀(l:List α) k,(l.map f).eraseIdx k=(l.eraseIdx k).map f
 | [],_=>rfl
 |a::l,0=>rfl
 |a::l,k+1=>by
  rw[aw,bS,bS,aw,Lv f l k]
def amk(R:E.Nodup)(hl:E.length<=60):∃v6 v3 M v8,uY 8 B8 (E.map D.int) [s0,s1,s2,i0 cl,some (.sh (dI E)),s5,some (aI E),some (.owd []),none,none,none,none,none]=some (.nx [s0,s1,s2,v3,some (.sh (dI E)),s5,v6,some (.owd (HU M)),v8,none,none,none,none])/\M.map (·.1)=E/\∀p∈M,p.2∈E:=by
 have key:=Ao (x:=8) (body:=B8) (λi S=>∃left cell M v8,S=[s0,s1,s2,i0 cell,some (.sh (dI E)),s5,some (aI left),some (.owd (HU M)),v8,none,none,none,none]/\left.length+i=E.length/\(∀x∈left,x∈E)/\M.map (·.1)=E.take i/\∀p∈M,p.2∈E) (ds:=E.map D.int) (S:=[s0,s1,s2,i0 cl,some (.sh (dI E)),s5,some (aI E),some (.owd []),none,none,none,none,none])
  ⟨E,cl,[],none,rfl,rfl,λ_ h=>h,rfl,λp B=>(by cases B)⟩ (by
  rintro i d S hd ⟨l2,cell,M,v8,rfl,T,G,s,H⟩;rw[gMq]at hd;obtain⟨z,I,rfl⟩:=oMq.mp hd;have hi:i<E.length:=(gSq.mp I).1;have l:(0:Int)<((l2.length:Nat):Int):=by lia
  have U:=uT (i:=cell) (j:=((l2.length:Nat):Int)) l;have b0:=bH cell (b:=((l2.length:Nat):Int)) ∅
  have b1:=bF cell l;obtain⟨k,hk⟩:∃k:Nat,cell % ((l2.length:Nat):Int)=(k:Int):=⟨(cell % ((l2.length:Nat):Int)).toNat,by lia⟩
  have P:k<l2.length:=by lia
  obtain⟨x,Q⟩:∃x,l2[k]?=some x:=⟨_,gEg P⟩;have J:(l2.map λn=>AV.sh (D.int n))[k]?=i0 x:=by rw[gMq,Q];rfl
  have X:(0:Int)<=(k:Int):=by lia
  have Y:(k:Int)<((l2.length:Nat):Int):=by lia
  have c3:l2.length<=tH:=by show _<=16777216;lia
  have he:=Lv (λn=>AV.sh (D.int n)) l2 k
  have t:(l2.eraseIdx k).length=l2.length-1:=List.length_eraseIdx_of_lt P;have d1:=Ca (i:=cell) (j:=((l2.eraseIdx k).length:Int)+1) ∅ (by rw[t];lia)
  have tn:=fq k;have L:z∉M.map (·.1):=by
   rw[s];intro m;have:=bo.sublist (bj (i+1) E) R;rw[tq I]at this;exact(nAq.mp this).2.2 z m z ⋯ rfl
  have u:=aaA (x:=x) L;have O:(HU M).length<tH:=by
   rw[acL];have:=congrArg bU s;rw[lMq,lTq]at this;show _<16777216;lia
  refine⟨[s0,s1,s2,i0 (cell / (((l2.eraseIdx k).length:Int)+1)),some (.sh (dI E)),s5,some (aI (l2.eraseIdx k)),some (.owd (HU (M++[(z,x)]))),i0 z,none,none,none,none],?_,_,_,_,_,rfl,by rw[t];lia,λy hy=>G y (List.mem_of_mem_eraseIdx hy),?_,?_⟩
  .simp_arith [B8,aI,U,hk,X,Y,c3,and_self,tn,J,he,O,u,d1]
  .rw[tq I,←s,mBq];rfl
  .intro p B;rcases mAq.mp B with q|q
   .exact H p q
   .rw[mSq.mp q];exact G x (mGq Q))
 obtain⟨S',e,left,cell,M,v8,rfl,T,G,s,H⟩:=key;rw[lMq,bB]at s;exact⟨_,_,M,v8,e,s,H⟩
def kv_get{E:Ϝ}(t:E.Nodup)(l:M.map (·.1)=E)(u:∀p∈M,p.2∈E)(n:z∈E):∃y,y∈E/\Z.getD (HU M) (.inl z)=some (.int y):=by
 rw[←l]at n;obtain⟨p,s,rfl⟩:=mMq.mp n;refine⟨p.2,u p s,?_⟩;rw[acY];refine K15.Bh ?_ (mMq.mpr ⟨p,s,rfl⟩);rw[mPq,aG,bD];have:=aG.mp (l ▸ t);rw[bD]at this;exact this.imp λh e=>h (bh.inj e)
noncomputable def mu3(N:Nat):AS->Nat
 | [_,_,_,_,_,_,_,_,_,_,_,some (.ow l),_]=>N+1-l.length
 |_=>0
def alB{E:Ϝ}(P:E.Nodup)(hl:E.length<=60)(Q:M.map (·.1)=E)(R:∀p∈M,p.2∈E)(hk:kn.Nodup)(T:∀x∈kn,x∈E)(U:e∈E):∃t z,vL (tJ (vC (oH 8) (oH 10))) BQ 100000 [s0,s1,s2,s3,s4,s5,s6,some (.owd (HU M)),i0 e,s9,some (.owd (K15.kI kn)),some (.ow []),none]=some (.nx [s0,s1,s2,s3,s4,s5,s6,some (.owd (HU M)),i0 z,s9,some (.owd (K15.kI (kn++t))),some (aI t),none])/\(kn++t).Nodup/\(∀x∈kn++t,x∈E)/\e∈kn++t:=by
 have key:=CM (c:=tJ (vC (oH 8) (oH 10))) (body:=BQ) (λS=>∃t z,S=[s0,s1,s2,s3,s4,s5,s6,some (.owd (HU M)),i0 z,s9,some (.owd (K15.kI (kn++t))),some (aI t),none]/\z∈E/\(kn++t).Nodup/\(∀x∈kn++t,x∈E)/\(z=e∨e∈kn++t)) (mu3 60) (λS=>∃t z,S=[s0,s1,s2,s3,s4,s5,s6,some (.owd (HU M)),i0 z,s9,some (.owd (K15.kI (kn++t))),some (aI t),none]/\(kn++t).Nodup/\(∀x∈kn++t,x∈E)/\e∈kn++t) (by
  rintro S ⟨t,z,rfl,J,hn,l,s⟩;have H:=K15.JX (kn++t) z;have I:=Wq _ _ hn l;rw[lAq]at I
  by_cases c:z∈kn++t
  .rw[d0 c]at H;refine⟨false,[s0,s1,s2,s3,s4,s5,s6,some (.owd (HU M)),i0 z,s9,some (.owd (K15.kI (kn++t))),some (aI t),none],?_,λq=>(nomatch q),λ_=>⟨t,z,rfl,hn,l,?_⟩⟩
   .simp_arith [H]
   .rcases s with q|q
    .rw[←q];exact c
    .exact q
  .rw[d4 c]at H;have L:=K15.Te c;rw[ao]at L;obtain⟨y,X,Y⟩:=kv_get P Q R J;have u:(kn++(t++[z])).Nodup:=by
    rw[←ao,nAq];exact⟨hn,by simp,λa ha b hb q=>c (by rw[mSq.mp hb]at q;exact q ▸ ha)⟩
   have B:∀x∈kn++(t++[z]),x∈E:=λx O=>by
    rw[←ao]at O;rcases mAq.mp O with q|q
    .exact l x q
    .rw[mSq.mp q];exact J
   have G:=Wq _ _ u B;rw[lAq,lAq,lSq]at G;have l1:(K15.kI (kn++t)).length<tH:=by rw[K15.Ro,lAq];show _<16777216;lia
   have l2:t.length<tH:=by show _<16777216;lia
   have ap:t.map (λn=>AV.sh (.int n))++[.sh (.int z)]=(t++[z]).map λn=>.sh (.int n):=by rw[mBq];rfl
   refine⟨true,[s0,s1,s2,s3,s4,s5,s6,some (.owd (HU M)),i0 z,s9,some (.owd (K15.kI (kn++t))),some (aI t),none],?_,λ_=>⟨[s0,s1,s2,s3,s4,s5,s6,some (.owd (HU M)),i0 y,s9,some (.owd (K15.kI (kn++(t++[z])))),some (aI (t++[z])),none],?_,⟨t++[z],y,rfl,X,u,B,?_⟩,?_⟩,λq=>(nomatch q)⟩
   .simp_arith [H]
   .simp_arith [BQ,l1,L,l2,ap,Y]
   .refine .inr ?_;rcases s with q|q
    .rw[←q];simp
    .rw[←ao];exact mAq.mpr (.inl q)
   .show 60+1-_<60+1-_;simp only[lMq,lAq,lSq];lia)
 obtain⟨S',ew,t,z,rfl,h1,h2,h3⟩:=key 100000 [s0,s1,s2,s3,s4,s5,s6,some (.owd (HU M)),i0 e,s9,some (.owd (K15.kI kn)),some (.ow []),none] ⟨[],e,by simp,U,by simpa using hk,by simpa using T,.inl rfl⟩ (by
  show 60+1-0<100000;lia)
 exact⟨t,z,ew,h1,h2,h3⟩
def al5(J:E.Nodup)(hl:E.length<=60)(R:M.map (·.1)=E)(T:∀p∈M,p.2∈E):∃TT kn u l,uY 8 Ac (E.map D.int) [s0,s1,s2,s3,some (.sh (dI E)),s5,s6,some (.owd (HU M)),v8,some (.ow []),some (.owd []),none,none]=some (.nx [s0,s1,s2,s3,some (.sh (dI E)),s5,s6,some (.owd (HU M)),u,some (K13.oM TT),some (.owd (K15.kI kn)),l,none])/\TT.flatten=kn/\kn.Perm E/\TT.length<=60:=by
 have key:=Ao (x:=8) (body:=Ac) (λi S=>∃TT kn v8 l,S=[s0,s1,s2,s3,some (.sh (dI E)),s5,s6,some (.owd (HU M)),v8,some (K13.oM TT),some (.owd (K15.kI kn)),l,none]/\TT.flatten=kn/\kn.Nodup/\(∀x∈kn,x∈E)/\(∀x∈E.take i,x∈kn)/\TT.length<=i) (ds:=E.map D.int) (S:=[s0,s1,s2,s3,some (.sh (dI E)),s5,s6,some (.owd (HU M)),v8,some (.ow []),some (.owd []),none,none])
  ⟨[],[],v8,none,rfl,rfl,ba,λ_ h=>(by cases h),λ_ h=>(by cases h),ae _⟩ (by
  rintro i d S hd ⟨TT,kn,v8,l,rfl,s,hk,B,ha,L⟩;rw[gMq]at hd;obtain⟨e,G,rfl⟩:=oMq.mp hd;have hi:i<E.length:=(gSq.mp G).1;have H:=mGq G;obtain⟨t,z,I,O,P,U⟩:=alB (s0:=s0) (s1:=s1) (s2:=s2) (s3:=s3) (s4:=some (.sh (dI E))) (s5:=s5) (s6:=s6) (s9:=some (K13.oM TT)) J hl R T hk B H;have n:∀x∈E.take (i+1),x∈kn++t:=λx Q=>by
   rw[tq G]at Q;rcases mAq.mp Q with q|q
   .exact mAq.mpr (.inl (ha x q))
   .rw[mSq.mp q];exact U
  unfold K13.oM at I ⊢
  by_cases c:t=[]
  .subst c;have t0:K9 (dI [])=some false:=rfl;refine⟨[s0,s1,s2,s3,some (.sh (dI E)),s5,s6,some (.owd (HU M)),i0 z,some (.ow (TT.map λr=>.sh (dI r))),some (.owd (K15.kI (kn++[]))),some (aI []),none],?_,TT,kn++[],_,_,rfl,by rw[aNq];exact s,O,P,n,by lia⟩
   have s0:=sm [];have X:aI [] = .ow []:=rfl
   simp_arith [Ac,I,s0,t0]
  .have Y:=K12.afm c;have st:=sm t;have l1:TT.length<tH:=by show _<16777216;lia
   have ap:(TT.map λr=>AV.sh (dI r))++[.sh (dI t)]=(TT++[t]).map λr=>.sh (dI r):=by rw[mBq];rfl
   refine⟨[s0,s1,s2,s3,some (.sh (dI E)),s5,s6,some (.owd (HU M)),i0 z,some (.ow ((TT++[t]).map λr=>.sh (dI r))),some (.owd (K15.kI (kn++t))),some (.sh (dI t)),none],?_,TT++[t],kn++t,_,_,rfl,by rw[fAq,s,aR],O,P,n,by rw[lAq,lSq];lia⟩
   simp_arith [Ac,I,st,Y,l1,ap])
 obtain⟨S',e,TT,kn,v8,l,rfl,s,hk,B,ha,L⟩:=key;rw[lMq]at L ha;rw[bB]at ha;exact⟨TT,kn,v8,l,e,s,(cx hk J).mpr λx=>⟨B x,ha x⟩,by lia⟩
noncomputable def above(kn:Ϝ)(n:Int):Nat:=kn.countP λk=>decide (n<=k)
def Ye(kn)n:above kn n<=kn.length:=fU
theorem QG:∀{kn}{n},n∈kn->above kn (n+1)<above kn n
 |a::kn,n,h=>by
  have mono:∀l:Ϝ,above l (n+1)<=above l n:=λl=>iK λx _ s=>by
   have:=of_decide_eq_true s;exact d0 ∅
  unfold above;rw[dk,dk];have m:=mono kn;unfold above at m;rcases ah.mp h with e|e
  .subst e;have q1:decide (n+1<=n)=false:=d4 ∅
   have t:decide (n<=n)=true:=d0 ∅
   rw[q1,t];simp only[if_true,cg,if_false];lia
  .have u:=QG e;unfold above at u;have:(if decide (n+1<=a)=true then 1 else 0)<=(if decide (n<=a)=true then 1 else 0):=by
    by_cases c:n+1<=a
    .rw[d0 c,d0 (show n<=a by lia)];exact ae _
    .rw[d4 c];exact bb _
   lia
def SB(kn)n:above kn (n+1)<=above kn n:=iK λx _ l=>by
 have:=of_decide_eq_true l;exact d0 ∅
def mu4(kn:Ϝ):AS->Nat
 | [_,_,some (.sh (.int n)),_,_,_,_,_,_,_,_,_,some (.ow l)]=>66-l.length+above kn n
 |_=>0
def alY(hl:kn.length<=60):∃nm v2,vL (tJ (qe Wx (ze vZ (oK (oH 12) ph)) (rC (.int 66)))) zV 100000 [s0,s1,i0 n,s3,s4,s5,s6,s7,s8,s9,some (.owd (K15.kI kn)),s11,some (.ow [])]=some (.nx [s0,s1,v2,s3,s4,s5,s6,s7,s8,s9,some (.owd (K15.kI kn)),s11,some (aI nm)])/\nm.length=66/\∀x∈nm,n<=x/\x∉kn:=by
 have key:=CM (c:=tJ (qe Wx (ze vZ (oK (oH 12) ph)) (rC (.int 66)))) (body:=zV) (λS=>∃nm m,S=[s0,s1,i0 m,s3,s4,s5,s6,s7,s8,s9,some (.owd (K15.kI kn)),s11,some (aI nm)]/\n<=m/\nm.length<=66/\∀x∈nm,n<=x/\x∉kn) (mu4 kn) (λS=>∃nm v2,S=[s0,s1,v2,s3,s4,s5,s6,s7,s8,s9,some (.owd (K15.kI kn)),s11,some (aI nm)]/\nm.length=66/\∀x∈nm,n<=x/\x∉kn) (by
  rintro S ⟨nm,m,rfl,hm,z,l⟩
  by_cases c:nm.length<66
  .have s:((nm.length:Nat):Int)<66:=by lia
   have t:=K15.JX kn m
   by_cases u:m∈kn
   .rw[d0 u]at t;refine⟨true,[s0,s1,i0 m,s3,s4,s5,s6,s7,s8,s9,some (.owd (K15.kI kn)),s11,some (aI nm)],?_,λ_=>⟨[s0,s1,i0 (m+1),s3,s4,s5,s6,s7,s8,s9,some (.owd (K15.kI kn)),s11,some (aI nm)],?_,⟨nm,m+1,rfl,by lia,z,l⟩,?_⟩,λq=>(nomatch q)⟩
    .simp_arith [s]
    .simp_arith [zV,t]
    .show 66-_+above kn (m+1)<66-_+above kn m;have:=QG u;lia
   .rw[d4 u]at t;have l2:nm.length<tH:=by show _<16777216;lia
    have E:nm.map (λn=>AV.sh (.int n))++[.sh (.int m)]=(nm++[m]).map λn=>.sh (.int n):=by rw[mBq];rfl
    refine⟨true,[s0,s1,i0 m,s3,s4,s5,s6,s7,s8,s9,some (.owd (K15.kI kn)),s11,some (aI nm)],?_,λ_=>⟨[s0,s1,i0 (m+1),s3,s4,s5,s6,s7,s8,s9,some (.owd (K15.kI kn)),s11,some (aI (nm++[m]))],?_,⟨nm++[m],m+1,rfl,by lia,by rw[lAq,lSq];lia,λx B=>?_⟩,?_⟩,λq=>(nomatch q)⟩
    .simp_arith [s]
    .simp_arith [zV,t,l2,E]
    .rcases mAq.mp B with q|q
     .exact l x q
     .rw[mSq.mp q];exact⟨hm,u⟩
    .show 66-((nm++[m]).map λn=>AV.sh (.int n)).length+above kn (m+1)<66-(nm.map λn=>AV.sh (.int n)).length+above kn m
     have:=SB kn m;rw[lMq,lMq,lAq,lSq];lia
  .have s:¬ ((nm.length:Nat):Int)<66:=by lia
   refine⟨false,[s0,s1,i0 m,s3,s4,s5,s6,s7,s8,s9,some (.owd (K15.kI kn)),s11,some (aI nm)],?_,λq=>(nomatch q),λ_=>⟨nm,_,rfl,by lia,l⟩⟩
   simp_arith [s])
 obtain⟨J,G,nm,v2,rfl,H,I⟩:=key 100000 [s0,s1,i0 n,s3,s4,s5,s6,s7,s8,s9,some (.owd (K15.kI kn)),s11,some (.ow [])] ⟨[],n,rfl,gJ _,bb _,λx l=>(by cases l)⟩ (by
  show 66-0+above kn n<100000;have:=Ye kn n;lia)
 exact⟨nm,v2,G,H,I⟩
structure Tn (T:Λ):Prop where
 nd:T.flatten.Nodup
 neg:∀z∈T.flatten, -z∈T.flatten
 le:T.flatten.length<=126
 len:T.length<=120
 nz:∀z∈T.flatten,z≠0
def Im ns{k:Nat}(hk:k<1000):∃c:Int,pO [.scr ns,.int (k:Int)]=i0 c:=⟨_,GJ ns ∅⟩
def ahA ns:∃T nm,IA [.scr ns]=some (.sh (.tup [dM T,dI nm]))/\Tn T/\nm.length=66/\∀x∈nm,1<=x/\x∉T.flatten:=by
 obtain⟨t,O⟩:=Im ns (k:=1) ∅
 obtain⟨c2,P⟩:=Im ns (k:=2) ∅
 obtain⟨c3,Q⟩:=Im ns (k:=3) ∅
 obtain⟨I,R⟩:=Im ns (k:=4) ∅
 have O:pO [.scr ns,.int 1]=i0 t:=O;have P:pO [.scr ns,.int 2]=i0 c2:=P;have Q:pO [.scr ns,.int 3]=i0 c3:=Q;have R:pO [.scr ns,.int 4]=i0 I:=R;have m1:=uT (i:=t) (j:=31) ⋯
 have b0:=bH t (b:=31) ⋯
 have b1:=bF t (b:=31) ⋯
 obtain⟨n,hn⟩:∃n:Nat,t % 31=(n:Int):=⟨(t % 31).toNat,by lia⟩
 obtain⟨c',l,last,S,a0,ll,ln,lp⟩:=alu (s0:=some (.sh (.scr ns))) (s1:=i0 (n:Int)) (c:=c2) (n:=n) ∅
 have U:=Af (n:=n) ∅
 have J:(pm l).Nodup:=K12.JC ln lp;have gE:∀z∈pm l, -z∈pm l:=λz u=>aiS u
 have L:(pm l).length<=60:=by rw[Xx];lia
 have zE:∀z∈pm l,z≠0:=λz u q=>by
  obtain⟨y,hy,c⟩:=fR.mp u;have:=lp y hy;simp at c;lia
 generalize pm l=E at a0 J gE L zE;obtain⟨v6,v3,M,v8,a1,hM,hv⟩:=amk (s0:=some (.sh (.scr ns))) (s1:=i0 (n:Int)) (s2:=i0 last) (s5:=S) (cl:=c3) J L;obtain⟨TT,kn,X,Y,a3,G,B,hT⟩:=al5 (s0:=some (.sh (.scr ns))) (s1:=i0 (n:Int)) (s2:=i0 last) (s3:=v3) (s5:=S) (s6:=v6) (v8:=v8) J L hM hv;have p59:=ajw;have m4:=uT (i:=I) (j:=10 ^ 59) ⋯
 have m40:=bH I (b:=10 ^ 59) ⋯
 obtain⟨nm,v2,a4,hnm,hx⟩:=alY (kn:=kn) (s0:=some (.sh (.scr ns))) (s1:=i0 (n:Int)) (s3:=v3) (s4:=some (.sh (dI E))) (s5:=S) (s6:=v6) (s7:=some (.owd (HU M))) (s8:=X) (s9:=some (K13.oM TT)) (s11:=Y) (by rw[B.length_eq];exact L) (n:=1+I % 10 ^ 59)
 have d1:=Ca (i:=t) (j:=31) ⋯ ⋯
 have m2:=uT (i:=t / 31) (j:=4) ⋯
 have b2:=bH (t / 31) (b:=4) ⋯
 have b3:=bF (t / 31) (b:=4) ⋯
 obtain⟨b,hb⟩:∃b:Nat,t / 31 % 4=(b:Int):=⟨(t / 31 % 4).toNat,by lia⟩
 have hrb:=Af (n:=b) ∅
 have lb:=uJ 0 b;have lb2:b<=tH:=by show _<=16777216;lia
 have H:=Zi b;have s:(TT++aE b []).flatten=TT.flatten:=by
  rw[fAq];have:(aE b ([]:Ϝ)).flatten=[]:=by simp
  rw[this,aNq]
 refine⟨TT++aE b [],nm,?_,⟨?_,?_,?_,?_,?_⟩,hnm,λx h=>?_⟩
 .have lT:TT.length+b<=tH:=by show _<=16777216;lia
  have sE:=sm E;have snm:=sm nm;have sR:(aE b (AV.ow [])).map pD=(aE b ([]:Ϝ)).map dI:=by rw[gG,gG];rfl
  have sT:((TT.map dI++(aE b ([]:Ϝ)).map dI).map AV.sh).map pD=(TT++aE b []).map dI:=by
   rw[←mBq,mPq];exact(mCq (g:=id) λ_ _=>rfl).trans (du _)
  unfold K13.oM at a3 a4
  simp_arith -implicitDefEqProofs [IA,Q5,O,P,Q,R,m1,hn,U,a0,sE,a1,a3,p59,m4,a4,d1,m2,hb,hrb,lb,lb2,H,bG,lT,sR,snm,sT]
 .rw[s,G,B.nodup_iff];exact J
 .rw[s,G];exact λz u=>B.mem_iff.mpr (gE z (B.mem_iff.mp u))
 .rw[s,G,B.length_eq];lia
 .rw[lAq,bG];lia
 .rw[s,G];exact λz u=>zE z (B.mem_iff.mp u)
 .have:=hx x h;rw[s,G];exact⟨by lia,this.2⟩
end K16
namespace K16
open PySem L2 Mr Z Xe Zl K15
def YD(hn:rs.flatten.Nodup){r:Ϝ}(hr:r∈rs)(l:r[j]?=some z)(n:r[(j+1) % r.length]?=some y):nx rs z=y:=by
 have s:=(gSq.mp l).1;have t:=K51.Jq l ((Zb s).trans n);have u:(bh z,y)∈K51.qE rs:=by
  unfold K51.qE;exact mFq.mpr ⟨_,mMq.mpr ⟨r,hr,rfl⟩,mGq t⟩
 have x:=Bh (MJ hn) u;unfold nx;rw[x]
theorem T6(hn:rs.flatten.Nodup){r:Ϝ}(hr:r∈rs)(l:r[0]?=some e):∀n,r[n % r.length]?=some (itr (nx rs) n e)
 |0=>by exact l
 |n+1=>by
  have u:=(gSq.mp l).1;have x:=T6 hn hr l n;have hm:(n+1) % r.length<r.length:=Nat.mod_lt _ u;have s:(n % r.length+1) % r.length=(n+1) % r.length:=by rw[Nat.mod_add_mod]
  obtain⟨y,t⟩:∃y,r[(n+1) % r.length]?=some y:=⟨_,gEg hm⟩;have:=YD hn hr x (s ▸ t);rw[t,←this];rfl
def aiw(hn:rs.flatten.Nodup){r:Ϝ}(hr:r∈rs)(l:r[0]?=some e):Cy (nx rs) e r:=by
 have s:=(gSq.mp l).1;have n:=T6 hn hr l;refine⟨s,?_,?_,bo.sublist (ax hr) hn⟩
 .refine fu λi=>?_
  rw[gMq]
  by_cases hi:i<r.length
  .rw[eU hi,cw,←n i,fS hi]
  .rw[bJ ∅,bJ (by rw[bq];lia)]
   rfl
 .have:=n r.length;rw[ir,l]at this;exact(aY.inj this).symm
noncomputable def ne(rs:Λ):Λ:=rs.filter λr=>!decide (r=[])
theorem IE:∀rs:Λ,(ne rs).flatten=rs.flatten
 | []=>rfl
 | []::rs=>IE rs
 | (x::r)::rs=>by
  show((x::r)::ne rs).flatten=_;rw[fCq,fCq,IE rs]
theorem Oe:∀rs:Λ,(yO rs++ne rs).Perm rs
 | []=>.nil
 | []::rs=>(Oe rs).cons []
 | (x::r)::rs=>eR.trans ((Oe rs).cons (x::r))
def agp{r:Ϝ}:r∈ne rs↔r∈rs/\r≠[]:=by
 unfold ne;simp
def ZQ(hn:rs.flatten.Nodup):O3 (nx rs) rs.flatten (ne rs):=by
 refine⟨λl hl=>?_,by rw[IE];exact hn,λx=>by rw[IE]⟩
 obtain⟨n,s⟩:=agp.mp hl;cases l with
 |nil=>exact absurd rfl s
 |cons x l=>exact⟨x,aiw hn n rfl⟩
def agQ(hn:rs.flatten.Nodup):Rg (nx rs) rs.flatten:=⟨hn,λe l=>S6 hn l,λa ha b hb h=>aag hn ha hb h⟩
def akJ(hn:rs.flatten.Nodup)(h:∀l∈rs,l=[]∨∃e,Cy f e l)(z:x∈rs.flatten):nx rs x=f x:=by
 obtain⟨l,hl,n⟩:=mFq.mp z;rcases h l hl with rfl|⟨e,c⟩
 .cases n
 .obtain⟨j,s⟩:=bK.mp n;have t:=(gSq.mp s).1;have u:=c.at t;rw[s]at u;have B:=aY.inj u;refine YD hn hl s ?_;rw[B];show _=some (itr f (j+1) e)
  by_cases q:j+1<l.length
  .rw[fS q];exact c.at q
  .have E:j+1=l.length:=by lia
   rw[E,ir,c.back];exact c.at ∅
theorem Ml(l:Rg f E)(h:∀x∈E,f x=g x)(s:e∈E):∀n,itr f n e=itr g n e
 |0=>rfl
 |n+1=>by
  show f (itr f n e)=g (itr g n e);rw[h _ (l.itr_mem s n),Ml l h s n]
def abc(t:Rg f E)(h:∀x∈E,f x=g x)(u:e∈E)(c:Cy f e l):Cy g e l:=by
 have s:=Ml t h u;refine⟨c.len,?_,by rw[←s];exact c.back,c.nd⟩
 rw[←mCq λn _=>s n]
 exact c.get
def Vp(s:Rg f E)(h:∀x∈E,f x=g x)(t:∀x,x∈E↔x∈n)(o:O3 f E L):O3 g n L:=by
 refine⟨λl hl=>?_,o.dj,λx=>(o.all x).trans (t x)⟩
 obtain⟨e,c⟩:=o.cy l hl;exact⟨e,abc s h ((o.all e).mp (mFq.mpr ⟨l,hl,c.self⟩)) c⟩
def aeC(c:Cy f e l):∃n,Cy f n (good l):=by
 unfold good
 by_cases h:qv l l.length<l.length
 .exact⟨_,c.rot h⟩
 .refine⟨e,?_⟩;unfold Mr.rot;rw[cu ∅,bI ∅]
  exact c
theorem FR:∀rs:Λ,yO rs=aE (rs.count []) []
 | []=>rfl
 | []::rs=>by
  rw[List.count_cons_self,jb,←FR rs];rfl
 | (x::r)::rs=>by
  rw[iM ⋯,←FR rs]
  rfl
theorem Pp:∀{L:Λ},(∀l∈L,1<=l.length)->L.length<=L.flatten.length
 | [],_=>ae _
 |a::L,h=>by
  have n:=h a (aq ..);have s:=Pp λl hl=>h l (mCo _ hl)
  rw[lCq,fCq,lAq];lia
theorem Qt:∀{L:Λ},(∀l∈L,1<=l.length)->(L.map good).count []=0
 | [],_=>rfl
 |a::L,h=>by
  have s:=h a (aq ..);have n:good a≠[]:=λq=>by
   have:=congrArg bU q;rw[HI,cO]at this;lia
  rw[aw,iM n];exact Qt λl hl=>h l (mCo _ hl)
def aaZ(hm:Mp rs)(P:rs.length+rs.flatten.length<=1000):∃M:Λ,sQ [dM rs]=some (.ow (M.map aI))/\Mp M/\sQ [dM M]=some (.ow ((A7 (rs.map good)).map aI))/\M.flatten.Perm rs.flatten/\A7 (M.map good)=M/\M.count []=rs.count []/\M.length<=rs.length+rs.flatten.length:=by
 obtain⟨L,z,Q⟩:=JT hm;have R:=(cx z.dj hm.hn).mpr z.all;have B:∀l∈L,1<=l.length:=λl hl=>by obtain⟨e,c⟩:=z.cy l hl;exact c.len
 have H:=Pp B;rw[R.length_eq]at H;have hb:(yO rs).flatten=[]:=by
  refine iu.mpr λl hl=>?_
  obtain⟨x,_,rfl⟩:=mMq.mp hl;rfl
 have E:(yO rs++L).flatten=L.flatten:=by rw[fAq,hb,dD]
 have u:(A7 ((yO rs++L).map good)).flatten.Perm rs.flatten:=by
  refine(Gz (uD _)).trans ((yg vt _).trans ?_);rw[E];exact R
 have S:=uI (by rw[E];exact z.dj)
 have n:(A7 ((yO rs++L).map good)).count []=rs.count []:=by
  rw[(uD _).count_eq,mBq,cAq,Qt B,FR,gG,good_nil,List.count_replicate_self];rfl
 have G:(A7 ((yO rs++L).map good)).length<=rs.length+rs.flatten.length:=by
  have:=JK rs;rw[Ab,lMq,lAq];lia
 have t:∀l∈A7 ((yO rs++L).map good),l=[]∨∃e,Cy (fw rs) e l:=λl hl=>by
  obtain⟨m,I,rfl⟩:=mMq.mp ((uD _).mem_iff.mp hl);rcases mAq.mp I with q|q
  .left;obtain⟨x,_,rfl⟩:=mMq.mp q;rfl
  .right;obtain⟨e,c⟩:=z.cy m q;exact aeC c
 generalize A7 ((yO rs++L).map good)=M at Q u S n G t;have T:=u.nodup_iff.mpr hm.hn;have s:Mp M:=⟨T,by rw[u.length_eq];exact hm.hl,by lia,λe U=>u.mem_iff.mpr (hm.hneg e (u.mem_iff.mp U))⟩
 obtain⟨L2,X,Y⟩:=JT s;have J:∀x∈M.flatten,fw M x=nx rs x:=λx hx=>by
  show nx M (-x)=_;rw[akJ T t (s.hneg x hx)];show nx rs (- -x)=_;rw[iJ]
 have O:=Vp (GZ s) J (λx=>u.mem_iff) X
 have hp:=O.perm (agQ hm.hn) (ZQ hm.hn);refine⟨M,Q,s,?_,u,S,n,G⟩;rw[Y];have hq:((yO M++L2).map good).Perm (rs.map good):=by
  rw[mBq,FR M,n,←FR rs];refine(bX.append_left _ hp).trans ?_;rw[←mBq];exact(Oe rs).map good
 rw[DO hq]
end K16
namespace K25
open PySem L2 Mr Z Xe Zl K15 K16
section
variable {rs:Λ}
def Rt(rs:Λ)(x:Int)(w:Ϝ):Prop:=∃u v,u++x::v∈rs/\w=v++u
def Rt.of(h:x∈rs.flatten):∃w,Rt rs x w:=by
 obtain⟨r,hr,l⟩:=mFq.mp h;obtain⟨u,v,rfl⟩:=eA l;exact⟨v++u,u,v,hr,rfl⟩
def Rt.mem(h:Rt rs x w):x∈rs.flatten:=by
 obtain⟨u,v,hr,_⟩:=h;exact mFq.mpr ⟨_,hr,by simp⟩
def Rt.nd(hn:rs.flatten.Nodup)(h:Rt rs x w):(x::w).Nodup:=by
 obtain⟨u,v,hr,rfl⟩:=h;have:=bo.sublist (ax hr) hn;exact(bQ (l₁:=x::v) (l₂:=u)).nodup_iff.mpr this
def Rt.to(hn:rs.flatten.Nodup)(h:Rt rs x w):nx rs x=w.headD x:=by
 obtain⟨u,v,hr,rfl⟩:=h;refine YD hn hr (j:=u.length) ⋯ ?_
 cases v with
 |nil=>
  rw[show(u++[x]).length=u.length+1 by simp,ir]
  cases u <;> rfl
 |cons y v=>
  rw[fS ⋯]
  simp
def Rt.step{w:Ϝ}(h:Rt rs x (a::w)):Rt rs a (w++[x]):=by
 obtain⟨u,v,hr,e⟩:=h;cases v with
 |nil=>
  rw[dD]at e;subst e;exact⟨[],w++[x],hr,by simp⟩
 |cons y v=>
  obtain⟨rfl,rfl⟩:=jK.inj e;exact⟨u++[x],v,by simpa using hr,by simp⟩
theorem Rt.go:∀{z}{a b:Ϝ},Rt rs z (a++x::b)->Rt rs x (b++z::a)
 |z,[],b,h=>h.step
 |z,y::a,b,h=>by
  have:=Rt.go (z:=y) (a:=a) (b:=b++[z]) (by simpa using h.step)
  simpa using this
def Rt.filt{x}p(l:p x=true)(h:Rt rs x w):Rt (rs.map λr=>r.filter p) x (w.filter p):=by
 obtain⟨u,v,hr,rfl⟩:=h;refine⟨u.filter p,v.filter p,mMq.mpr ⟨_,hr,?_⟩,by rw[bu]⟩
 rw[bu,bN l]
noncomputable def pz(z e:Int):Bool:=!decide (e∈[z, -z])
def G4:pz z e=true↔e≠z/\e ≠ -z:=by unfold pz;simp
def LL(h:¬ pz z e=true):e=z∨e = -z:=by
 rw[G4]at h;lia
def acr z:¬ pz z z=true:=by rw[G4];lia
def aby z:¬ pz z (-z)=true:=by rw[G4];lia
theorem aa3{r:Ϝ}(ha:a∈r):∀rs:Λ,rs.count r<=rs.flatten.count a
 | []=>ae _
 |s::rs=>by
  have l:=aa3 ha rs;rw[dE,fCq,cAq]
  by_cases h:s=r
  .subst h;have:=gH.mpr ha;simp;lia
  .simp[h];lia
theorem Ul{r:Ϝ}(l:r≠r')(ha:a∈r)(n:a∈r'):∀rs:Λ,rs.count r+rs.count r'<=rs.flatten.count a
 | []=>ae _
 |s::rs=>by
  have u:=Ul l ha n rs;rw[dE,dE,fCq,cAq]
  by_cases h:s=r
  .subst h;have:=gH.mpr ha;simp[l];lia
  .by_cases t:s=r'
   .subst t;have:=gH.mpr n;simp[h];lia
   .simp[h,t];lia
def abY(t:z ≠ -z){r:Ϝ}(hn:r.Nodup):(if r.filter (pz z)=[]then 1 else 0)=(if r=[]then 1 else 0)+(if r=[z]then 1 else 0)+(if r=[-z]then 1 else 0)+(if r=[z, -z]then 1 else 0)+(if r=[-z,z]then 1 else 0):=by
 have x:=acr z;have B:=aby z
 match r,hn with
 | [],_=>simp
 | [a],_=>
  by_cases h:pz z a=true
  .have l:=G4.mp h;rw[bN h];simp[l.1,l.2]
  .rw[bA h];rcases LL h with rfl|rfl
   .simp[t]
   .simp[t.symm]
 | [a,b],hn=>
  have n:a≠b:=by simpa using hn
  by_cases h:pz z a=true
  .have l:=G4.mp h;rw[bN h];simp[l.1,l.2]
  .rw[bA h]
   by_cases s:pz z b=true
   .have u:=G4.mp s;rw[bN s];simp[u.1,u.2]
   .rw[bA s];rcases LL h with rfl|rfl <;> rcases LL s with rfl|rfl
    .exact absurd rfl n
    .simp[t]
    .simp[t.symm]
    .exact absurd rfl n
 |a::b::c::r,hn=>
  have:(a::b::c::r).filter (pz z)≠[]:=λq=>by
   rw[iC]at q;have E:=LL (q a ⋯)
   have l:=LL (q b ⋯)
   have s:=LL (q c ⋯)
   simp only[ak,ah,not_or]at hn;lia
  rw[qj this];simp
theorem O0(l:z ≠ -z):∀{rs},(∀r∈rs,r.Nodup)->bare (rs.map λr=>r.filter (pz z))=bare rs+rs.count [z]+rs.count [-z]+(rs.count [z, -z]+rs.count [-z,z])
 | [],_=>rfl
 |r::rs,h=>by
  have n:=O0 l (rs:=rs) λr hr=>h r (mCo _ hr)
  have s:=abY l (h r (aq ..));unfold bare at n ⊢;rw[aw,dk,dk,dE,dE,dE,dE,n];simp only[decide_eq_true_eq,beq_iff_eq]at s ⊢;lia
def EY(hn:rs.flatten.Nodup){r s:Ϝ}(hr:r∈rs)(n:s∈rs)(t:x∈r)(u:x∈s):r=s:=by
 obtain⟨i,hi⟩:=bK.mp hr;obtain⟨j,l⟩:=bK.mp n;have:=Sl hn hi l t u;subst this;exact aY.inj (hi.symm.trans l)
end
end K25
namespace K26
open PySem L2 Mr Z Xe Zl
open K25 (Rt EY)
open K21 (sp pr inr Cg rQ TM)
open K23 (C wA)
abbrev gm(T:Λ):Λ:=A7 (T.map good)
noncomputable def xo(w:Ϝ):D:=match w.getLast? with
 |some x=>.int x
 |none=>.non
def yo(w:Ϝ)x:xo (w++[x]) = .int x:=by unfold xo;rw[List.getLast?_concat]
def FQ w:rQ (xo w):=by
 rcases bL w with rfl|⟨v,x,rfl⟩
 .exact .inl rfl
 .rw[bM,yo];exact .inr ⟨x,rfl⟩
def DF(hn:(a++b).Nodup):good (b++a)=good (a++b):=by
 have:=Kq hn a.length;unfold rot at this
 rwa [jE,iN]at this
theorem Oq:∀{p l q n:Ϝ},s∉p->s∉l->p++s::q=l++s::n->p=l/\q=n
 | [],[],_,_,_,_,h=>by cases h;exact⟨rfl,rfl⟩
 | [],_::_,_,_,_,h2,h=>by cases h;exact absurd aq h2
 |_::_,[],_,_,h1,_,h=>by cases h;exact absurd aq h1
 |x::p,y::l,_,_,h1,h2,h=>by
  injection h with e h
  obtain⟨t,u⟩:=Oq (λm=>h1 (mCo _ m)) (λm=>h2 (mCo _ m)) h
  exact⟨by rw[e,t],u⟩
def N6{v:Ϝ}:∃p q,good (u++s::v)=p++s::q/\q++p=v++u:=by
 have e:(u++s::v).take (qv (u++s::v) (u++s::v).length)++(u++s::v).drop (qv (u++s::v) (u++s::v).length)=u++s::v:=aT ..;show ∃p q,(u++s::v).drop (qv (u++s::v) (u++s::v).length)++(u++s::v).take (qv (u++s::v) (u++s::v).length)=p++s::q/\q++p=v++u;generalize (u++s::v).take (qv (u++s::v) (u++s::v).length)=A at e ⊢;generalize (u++s::v).drop (qv (u++s::v) (u++s::v).length)=B at e ⊢;rcases List.append_eq_append_iff.mp e with⟨c,l,n⟩|⟨c,l,n⟩
 .subst l;subst n;exact⟨c,v++A,by simp,by simp⟩
 .cases c with
  |nil=>
   rw[aNq]at l;rw[dD]at n;subst l;rw[←n];exact⟨[],v++A,by simp,by simp⟩
  |cons y c=>
   cases n;subst l;exact⟨B++u,c,by simp,by simp⟩
def ZV{a b X Y:Ϝ}(x:(a++s::b).Nodup)(z:(X++s::Y).Nodup)(h:good (a++s::b)=good (X++s::Y)):b++a=Y++X:=by
 obtain⟨p,q,n,B⟩:=N6;obtain⟨H,I,t,E⟩:=N6 (u:=X);rw[←B,←E];rw[n,t]at h;have G:=λm=>by
  have:=n ▸ (vt _).nodup_iff.mpr x;exact(nAq.mp this).2.2 s m s aq rfl
 have l:=λm=>by
  have:=t ▸ (vt _).nodup_iff.mpr z;exact(nAq.mp this).2.2 s m s aq rfl
 obtain⟨rfl,rfl⟩:=Oq G l h;rfl
section
variable {T R:Λ}
def ake{b:Ϝ}(h:s∉a):sp n s (a++s::b)=a++s::n::b:=by
 unfold sp;rw[gU,qj h,fZ,cA];have e:a++s::b=(a++[s])++b:=by simp
 have l:(a++[s]).length=a.length+1:=by simp
 rw[e,←l,iN];simp
def Nq n(hn:T.flatten.Nodup)(u:s∈T.flatten):∃A a b B,T=A++(a++s::b)::B/\Cg T n (.int s)=some (A++(a++s::n::b)::B):=by
 obtain⟨r,hr,l⟩:=mFq.mp u;obtain⟨A,B,rfl⟩:=eA hr;obtain⟨a,b,rfl,ha⟩:=dA l;refine⟨A,a,b,B,rfl,?_⟩;rw[fAq,nAq]at hn;have x:∀t∈A,¬ pr (.int s) t=true:=λt ht q=>hn.2.2 s (mFq.mpr ⟨t,ht,of_decide_eq_true q⟩) s ⋯ rfl
 have hi:(A++(a++s::b)::B).findIdx (pr (.int s))=A.length:=by
  rw[jf,fV λt ht=>hU.mpr (x t ht),fB,show pr (.int s) (a++s::b)=true from d0 l]
  simp
 unfold Cg;rw[qf (cE.mpr ⟨_,hr,d0 l⟩),hi];have g:(A++(a++s::b)::B).getD A.length []=a++s::b:=by simp
 rw[g,show inr n (.int s) (a++s::b)=a++s::n::b from ake ha]
 simp
def Nv n(l:[]∈T):∃A B,T=A++[]::B/\Cg T n .non=some (A++[n]::B):=by
 obtain⟨A,B,rfl,u⟩:=dA l;refine⟨A,B,rfl,?_⟩;have hi:(A++[]::B).findIdx (pr .non)=A.length:=by
  rw[jf,fV (p:=pr .non) λt ht=>d4 λq=>u (q ▸ ht),fB,show pr .non []=true from rfl]
  simp
 unfold Cg;rw[qf (cE.mpr ⟨_,l,rfl⟩),hi];have g:(A++[]::B).getD A.length []=([]):=by simp
 rw[g];show some ((A++[]::B).set A.length [n])=_;simp
def Gg(h:gm T=gm U):(T.map good).Perm (U.map good):=((uD _).symm.trans (.of_eq h)).trans (uD _)
def Jx(h:(T.map good).Perm (U.map good)):gm T=gm U:=DO h
def Ko(A B:Λ)(r:Ϝ):((A++r::B).map good).Perm (good r::(A++B).map good):=(eR.map good)
def uk(h:gm T=gm U):T.flatten.Perm U.flatten:=by
 have k:∀T:Λ,(T.map good).flatten.Perm T.flatten:=λT=>by
  induction T with
  |nil=>exact .refl _
  |cons r T l=>exact(vt r).append l
 exact((k T).symm.trans (Gg h).flatten).trans (k U)
def OU{X Y:Ϝ}(hn:T.flatten.Nodup)(z:n∉T.flatten)(h:gm T=gm ((X++s::Y)::R)):∃E,Cg T n (.int s)=some E/\gm E=gm ((X++s::n::Y)::R):=by
 have fl:=uk h;have l:=fl.nodup_iff.mp hn;have J:s∈T.flatten:=fl.mem_iff.mpr ⋯
 obtain⟨A,a,b,B,rfl,e⟩:=Nq n hn J;refine⟨_,e,Jx ?_⟩;have pm:=(Ko A B (a++s::b)).symm.trans (Gg h);rw[aw]at pm;have G:good (a++s::b)=good (X++s::Y):=by
  rcases ah.mp (pm.mem_iff.mp aq)with q|q
  .exact q
  .obtain⟨r,hr,L⟩:=mMq.mp q;rw[fCq,nAq]at l;have:s∈r:=(vt r).mem_iff.mp (L ▸ (vt _).mem_iff.mpr ⋯)
   exact absurd rfl (l.2.2 s ⋯ s (mFq.mpr ⟨r,hr,this⟩))
 rw[G]at pm;have t:=pm.cons_inv;rw[fCq,nAq]at l;have H:(a++s::b).Nodup:=by
  rw[fAq,fCq,nAq,nAq]at hn;exact hn.2.1.1
 have I:=l.1;have u:=ZV H I G;have M:n∉a++s::b:=λq=>z (by rw[fAq,fCq];exact ay _ (bw _ q))
 have O:n∉X++s::Y:=λq=>z (fl.mem_iff.mpr (by rw[fCq];exact bw _ q))
 have g:∀{p q:Ϝ},(p++s::q).Nodup->n∉p++s::q->good (p++s::n::q)=good (s::n::(q++p)):=λ{p q} nd nm=>by
  have x:(p++s::n::q).Nodup:=by
   have:(p++s::n::q).Perm (n::(p++s::q)):=by
    rw[show p++s::n::q=(p++[s])++n::q by simp,show n::(p++s::q)=n::((p++[s])++q) by simp]
    exact eR
   exact this.nodup_iff.mpr (ak.mpr ⟨nm,nd⟩)
  have:=DF x;rw[←this];simp
 refine(Ko A B _).trans ?_;rw[aw,g H M,g I O,u];exact t.cons _
def Vn(h:gm T=gm ([]::R)):∃l,Cg T n .non=some l/\gm l=gm ([n]::R):=by
 have t:∀r,good r=[]->r=[]:=λr q=>bz.mp (by rw[← (vt r).length_eq,q];rfl)
 have u:[]∈T:=by
  obtain⟨r,hr,e⟩:=mMq.mp ((Gg h).mem_iff.mpr (by exact aq))
  rw[←t r e];exact hr
 obtain⟨A,B,rfl,e⟩:=Nv n u;refine⟨_,e,Jx ?_⟩;have pm:=(Ko A B []).symm.trans (Gg h);exact(Ko A B [n]).trans (pm.cons_inv.cons _)
def Ke{w:Ϝ}(hn:T.flatten.Nodup)(t:n∉T.flatten)(h:gm T=gm (w::R)):∃l,Cg T n (xo w)=some l/\gm l=gm ((n::w)::R):=by
 rcases bL w with rfl|⟨X,f,rfl⟩
 .exact Vn h
 .rw[bM]at h ⊢;rw[yo];obtain⟨l,z,B⟩:=OU hn t h;refine⟨l,z,B.trans (Jx ?_)⟩;rw[aw,show X++f::[n]=(X++[f])++[n] by simp]
  have fl:=uk h;have nd:((X++[f])++[n]).Nodup:=by
   have u:=fl.nodup_iff.mp hn;rw[fCq,nAq]at u;rw[nAq];refine⟨u.1,by simp,λx E y G=>?_⟩
   rw[mSq.mp G];intro q;exact t (fl.mem_iff.mpr (by exact bw _ (q ▸ E)))
  rw[←DF nd];exact .refl _
end
end K26
namespace K26
open PySem L2 Mr Z Xe Zl
open K25 (Rt EY)
open K21 (sp pr inr Cg rQ)
open K23 (C wA)
def U3{a:Ϝ}(h:x∈a++b):x∈a++y::b:=by
 rcases mAq.mp h with q|q
 .exact bw _ q
 .exact ay _ (mCo _ q)
def aaU(z)T:(C z T).flatten.Sublist T.flatten:=by
 induction T with
 |nil=>exact .refl _
 |cons r T l=>exact cT.append jg l
def U5(h:Rt T x w):Rt (gm T) x w:=by
 obtain⟨u,v,hr,rfl⟩:=h;obtain⟨p,q,l,s⟩:=N6;exact⟨p,q,l ▸ (uD _).mem_iff.mpr (jh hr),s.symm⟩
def M1(hn:T.flatten.Nodup)(t:Rt T x w)(B:Rt T x s):w=s:=by
 obtain⟨u,v,hr,rfl⟩:=t;obtain⟨H,I,l,rfl⟩:=B;have e:=EY hn hr l (x:=x) ⋯ ⋯
 have nd:=hn.sublist (ax hr);have E:=λm=>(nAq.mp nd).2.2 x m x aq rfl
 have G:=λm=>(nAq.mp (e ▸ nd)).2.2 x m x aq rfl
 obtain⟨rfl,rfl⟩:=Oq E G e;rfl
def M9(hd:rQ d)(hn:T.flatten.Nodup)(t:n∉T.flatten)(e:Cg T n d=some T'):(∃p,Rt T' n p/\xo p=d)/\(T'.map λr=>r.filter λy=>decide (y≠n))=T:=by
 have keep:∀X:Λ,n∉X.flatten->(X.map λr=>r.filter λy=>decide (y≠n))=X:=λX G=>(mCq λr hr=>cY.mpr λy x=>d0 (p:=y≠n) λq=>G (mFq.mpr ⟨r,hr,q ▸ x⟩)).trans (du _)
 have kp:∀l:Ϝ,n∉l->(l.filter λy=>decide (y≠n))=l:=λl hl=>cY.mpr λy x=>d0 λq=>hl (q ▸ x)
 rcases hd with rfl|⟨s,rfl⟩
 .by_cases u:[]∈T
  .obtain⟨A,B,rfl,E⟩:=K26.Nv n u;rw[E]at e;cases e;rw[fAq,fCq,mAq,mAq]at t;refine⟨⟨[],⟨[],[],by simp,rfl⟩,rfl⟩,?_⟩
   rw[mBq,aw,keep A λq=>t (.inl q),keep B λq=>t (.inr (.inr q))]
   simp
  .unfold Cg at e;rw[K21.IH,d4 u]at e;cases e
 .by_cases u:s∈T.flatten
  .obtain⟨A,a,b,B,rfl,E⟩:=K26.Nq n hn u;rw[E]at e;cases e;rw[fAq,fCq,mAq,mAq]at t;refine⟨⟨(b++a)++[s],⟨a++[s],b,by simp,by simp⟩,yo _ _⟩,?_⟩
   have m:=λq=>t (.inr (.inl q))
   rw[mBq,aw,keep A λq=>t (.inl q),keep B λq=>t (.inr (.inr q))]
   have:((a++s::n::b).filter λy=>decide (y≠n))=a++s::b:=by
    rw[show a++s::n::b=(a++[s])++n::b by simp,bu,bA ⋯,←bu,show(a++[s])++b=a++s::b by simp]
    exact kp _ m
   rw[this]
  .unfold Cg at e;rw[K21.Fc,d4 u]at e;cases e
def acR(q1:rQ d1)(E:rQ d2)(hn:N.flatten.Nodup)(G:z∉N.flatten)(L:-z∉N.flatten)(ne:z ≠ -z)(H:Cg N z d1=some t)(I:Cg t (-z) d2=some x):∃w u,Rt (gm x) z w/\Rt (gm x) (-z) u/\xo (w.filter λy=>decide (y ≠ -z))=d1/\xo u=d2:=by
 obtain⟨⟨p,M,l1⟩,S⟩:=M9 q1 hn G H;have l:=(K21.zX q1 H).1;have s:=l.nodup_iff.mpr (ak.mpr ⟨G,hn⟩);have O:-z∉t.flatten:=λq=>by
  rcases ah.mp (l.mem_iff.mp q)with q|q
  .exact ne q.symm
  .exact L q
 obtain⟨⟨u,P,l2⟩,Q⟩:=M9 E s O I;have B:=(K21.zX E I).1;have R:=B.mem_iff.mpr (mCo _ (l.mem_iff.mpr aq));obtain⟨w,J⟩:=Rt.of R;refine⟨w,u,U5 J,U5 P,?_,l2⟩;have:=Rt.filt (λy=>decide (y ≠ -z)) (d0 ne) J
 rw[Q]at this;rw[M1 s this M];exact l1
def JW(hn:T.flatten.Nodup):gm (C z (gm T))=gm (C z T):=by
 refine DO ?_;refine(((uD (T.map good)).map (wA z)).map good).trans ?_;unfold C;rw[mPq,mPq,mPq];refine .of_eq (mCq λt ht=>?_)
 have l:=hn.sublist (ax ht);show good (wA z (t.drop _++t.take _))=good (wA z t);unfold wA;have e:t.filter (λe=>!decide (e∈[z, -z]))=(t.take (qv t t.length)).filter (λe=>!decide (e∈[z, -z]))++(t.drop (qv t t.length)).filter (λe=>!decide (e∈[z, -z])):=by rw[←bu,aT]
 rw[bu,e];exact DF (e ▸ l.sublist jg)
def Iw(t:z∉l)(u:-z∉l):wA z l=l:=by
 refine cY.mpr λy s=>?_
 have a:y≠z:=λq=>t (q ▸ s)
 have b:y ≠ -z:=λq=>u (q ▸ s)
 simp[a,b]
def ako(l:z∉T.flatten)(s:-z∉T.flatten):C z T=T:=(mCq λr hr=>Iw (λq=>l (mFq.mpr ⟨r,hr,q⟩)) λq=>s (mFq.mpr ⟨r,hr,q⟩)).trans (du _)
def OZ(hn:T.flatten.Nodup):(gm T).flatten.Nodup:=(uk (uI hn)).nodup_iff.mpr hn
def ZE{A B:Λ}{u v:Ϝ}(hn:(A++(u++x::v)::B).flatten.Nodup):gm (A++(u++x::v)::B)=gm ((x::(v++u))::(A++B)):=by
 refine Jx ((Ko A B _).trans ?_);have nd:(u++x::v).Nodup:=hn.sublist (ax ⋯)
 rw[←DF nd];exact .of_eq ⋯
def aev(hn:W.flatten.Nodup)(ne:z ≠ -z)(h1:Rt W z w)(h2:Rt W (-z) u):∃G S,Cg (gm (C z W)) z (xo (w.filter λy=>decide (y ≠ -z)))=some G/\Cg G (-z) (xo u)=some S/\gm S=gm W:=by
 have hc:(C z W).flatten.Nodup:=hn.sublist (aaU z W);have hN:=OZ hc;have nz:∀x,x=z∨x = -z->x∉(gm (C z W)).flatten:=λx hx q=>by
  have:=(uk (uI hc)).mem_iff.mp q;obtain⟨r,hr,xr⟩:=mFq.mp this;obtain⟨t,ht,rfl⟩:=mMq.mp hr;have:=(eB.mp xr).2;rcases hx with rfl|rfl <;> simp at this
 have n1:=nz z (.inl rfl);have n2:=nz (-z) (.inr rfl);have gN:gm (gm (C z W))=gm (C z W):=uI hc;obtain⟨J,L,hr,rfl⟩:=id h1;obtain⟨A,B,rfl⟩:=eA hr;have E:=ZE hn;have l:((z::(L++J))::(A++B)).flatten.Nodup:=(uk E).nodup_iff.mp hn;have M:gm (C z (A++(J++z::L)::B))=gm (wA z (L++J)::C z (A++B)):=by
  rw[←JW hn,E,JW l];show gm (wA z (z::(L++J))::C z (A++B))=_;rw[show wA z (z::(L++J))=wA z (L++J)from bA ⋯]
 generalize A++B=R at E M l;generalize L++J=w at E M l h1;rw[fCq,nAq]at l;have zw:z∉w:=(ak.mp l.1).1;have zR:z∉R.flatten:=λq=>l.2.2 z aq z q rfl
 by_cases m:-z∈w
 .obtain⟨a,b,rfl,ma⟩:=dA m;have nw:=(ak.mp l.1).2;have mb:-z∉b:=λq=>(ak.mp (nAq.mp nw).2.1).1 q
  have zR':-z∉R.flatten:=λq=>l.2.2 (-z) (mCo _ m) (-z) q rfl
  have za:z∉a++b:=λq=>zw (U3 q)
  have O:-z∉a++b:=λq=>(mAq.mp q).elim ma mb
  have c1:wA z (a ++ -z::b)=a++b:=by
   have:wA z (a ++ -z::b)=wA z (a++b):=by unfold wA;rw[bu,bA ⋯,←bu]
   rw[this,Iw za O]
  have c2:((a ++ -z::b).filter λy=>decide (y ≠ -z))=a++b:=by
   rw[bu,bA ⋯,←bu]
   exact cY.mpr λy hy=>d0 (p:=y ≠ -z) λq=>O (q ▸ hy)
  rw[c1,ako zR zR']at M;rw[c2];have eu:u=b++z::a:=M1 hn h2 (Rt.go h1);obtain⟨G,e1,I⟩:=Ke (w:=a++b) (R:=R) hN n1 (gN.trans M);have P:G.flatten.Nodup:=(uk (I.trans rfl)).nodup_iff.mpr (by
   rw[fCq,nAq];refine⟨ak.mpr ⟨za,nw.sublist (cT.append_left (fD ..) a)⟩,l.2.1,λx hx y hy=>l.2.2 x (by
    rcases ah.mp hx with q|q
    .exact q ▸ aq
    .exact mCo _ (U3 q)) y hy⟩)
  have m1:-z∉G.flatten:=λq=>by
   have:=(uk I).mem_iff.mp q;rw[fCq,mAq,ah]at this;rcases this with(q|q)|q
   .exact ne q.symm
   .exact O q
   .exact zR' q
  obtain⟨X,s,ex⟩:∃X s,z::a=X++[s]:=by
   rcases bL (z::a)with q|⟨X,s,q⟩
   .cases q
   .exact⟨X,s,by rw[q,bM]⟩
  have ls:xo u = .int s:=by rw[eu,ex,←ao,yo]
  rw[show z::(a++b)=X++s::b by rw[←dW,ex];simp]at I
  obtain⟨S,e2,g2⟩:=OU (X:=X) (Y:=b) P m1 I;refine⟨G,S,e1,by rw[ls];exact e2,?_⟩
  rw[g2,E,show z::(a ++ -z::b)=X++s :: -z::b by rw[←dW,ex];simp]
 .have mR:-z∈R.flatten:=by
   have:=(uk E).mem_iff.mp (Rt.mem h2);rw[fCq,mAq,ah]at this;rcases this with(q|q)|q
   .exact absurd q.symm ne
   .exact absurd q m
   .exact q
  obtain⟨r,hr2,mr⟩:=mFq.mp mR;obtain⟨A',B',rfl⟩:=eA hr2;obtain⟨u2,v2,rfl,_⟩:=dA mr;have H:=ZE l.2.1;have eu:u=v2++u2:=by
   refine M1 (OZ hn) (U5 h2) ?_;rw[E];exact U5 ⟨u2,v2,by simp,rfl⟩
  have U:=(uk H).nodup_iff.mp l.2.1;generalize A'++(u2 ++ -z::v2)::B'=R at H M E l zR;rw[←eu]at H U;generalize A'++B'=Q at H U;rw[fCq,nAq]at U;have zu:z∉u:=λq=>zR ((uk H).mem_iff.mpr (by rw[fCq];exact bw _ (mCo _ q)))
  have zQ:=λq=>zR ((uk H).mem_iff.mpr (by exact ay _ q))
  have mu:=(ak.mp U.1).1;have mQ:=λq=>U.2.2 (-z) aq (-z) q rfl
  have cR:gm (C z R)=gm (u::Q):=by
   have nRQ:((-z::u)::Q).flatten.Nodup:=by rw[fCq,nAq];exact U
   rw[←JW l.2.1,H,JW nRQ];show gm (wA z (-z::u)::C z Q)=_;rw[show wA z (-z::u)=wA z u from bA ⋯,Iw zu mu,ako zQ mQ]
  have c2:(w.filter λy=>decide (y ≠ -z))=w:=cY.mpr λy hy=>d0 λq=>m (q ▸ hy)
  rw[c2];have cc:∀{r:Ϝ}{X Y:Λ},gm X=gm Y->gm (r::X)=gm (r::Y):=λ{r X Y} h=>Jx (by exact(Gg h).cons _)
  rw[Iw zw m]at M;obtain⟨G,e1,I⟩:=Ke hN n1 ((gN.trans M).trans (cc cR));have sw:gm ((z::w)::u::Q)=gm (u::(z::w)::Q):=Jx (by exact .swap ..)
  have P:=(uk I).nodup_iff.mpr (((uk (E.trans (cc H))).nodup_iff.mp hn).sublist (by
   exact cT.append (.refl _) (cT.append (fD ..) (.refl _))))
  have m1:-z∉G.flatten:=λq=>by
   have:=(uk I).mem_iff.mp q;rw[fCq,fCq,mAq,ah,mAq]at this;rcases this with(q|q)|q|q
   .exact ne q.symm
   .exact m q
   .exact mu q
   .exact mQ q
  obtain⟨S,e2,g2⟩:=Ke P m1 (I.trans sw);refine⟨G,S,e1,e2,?_⟩;rw[g2,E,cc H];exact Jx (by exact .swap ..)
end K26
namespace K21
open PySem L2 Mr Z Xe Zl
open K23 (AK KY)
def wr(rs:Λ)(z:Int)(d1 d2:D):WB:=if z∈rs.flatten then .ex "Taken" [("road", z)]else match Cg rs z d1 with
 |none=>Xq d1
 |some n=>match Cg n (-z) d2 with
  |none=>Xq d2
  |some l=>if l.flatten.length<=128/\bare l<=128 then .ok (.ow ((A7 (l.map good)).map aI))else .ex "TooMany" []
def lEx:D->AV
 | .int s=>AK "there" s
 |_=>AK "place" 0
def FI(hn:rs.flatten.Nodup)(U:rs.flatten.length<=900)(hl:rs.length<=900)(L:rQ d1)(M:rQ d2):qZ [dM rs,.int z,d1,d2]=some (wr rs z d1 d2):=by
 have ht:=By (rs:=rs) ∅
 unfold wr
 by_cases h:z∈rs.flatten
 .have t:decide (z∈rs.flatten)=true:=d0 h;rw[qf h]
  simp_arith [qZ,ux,ht,t]
 .have t:decide (z∈rs.flatten)=false:=d4 h;rw[qj h];rcases Kk (n:=z) hn ∅ ∅ L with⟨B,X,E,G,l⟩|⟨E,l⟩
  .obtain⟨pm,ln⟩:=zX L E;have O:B.flatten.Nodup:=pm.nodup_iff.mpr (ak.mpr ⟨h,hn⟩);have Q:B.flatten.length=rs.flatten.length+1:=by rw[pm.length_eq];rfl
   simp only[E];rcases Kk (rs:=B) (n:=-z) O ∅ ∅ M with⟨H,R,I,x,u⟩|⟨I,u⟩
   .obtain⟨P,S⟩:=zX M I;have T:H.flatten.length=B.flatten.length+1:=by rw[P.length_eq];rfl
    simp only[I];have J:=Xb (rs:=H) ∅ ∅
    by_cases c:H.flatten.length<=128/\bare H<=128
    .rw[qf c]at J ⊢
     simp_arith [qZ,ux,ht,t,l,G,MN,u,x,J]
    .rw[qj c]at J ⊢
     simp_arith [qZ,ux,ht,t,l,G,MN,u,x,J]
   .simp only[I];rcases M with rfl|⟨s,rfl⟩
    .unfold Xq at u ⊢
     simp_arith [qZ,ux,ht,t,l,G,MN,u]
    .unfold Xq at u ⊢
     simp_arith [qZ,ux,ht,t,l,G,MN,u]
  .simp only[E];rcases L with rfl|⟨s,rfl⟩
   .unfold Xq at l ⊢
    simp_arith [qZ,ux,ht,t,l]
   .unfold Xq at l ⊢
    simp_arith [qZ,ux,ht,t,l]
noncomputable abbrev pz(z:Int)(d1 d2:D):D:=.ins "Put" [("road", .int z),("first", d1),("second", d2)]
def fl1:uC "Put" "road" (pz z d1 d2)=some (.int z):=by rfl
def fl2:uC "Put" "first" (pz z d1 d2)=some d1:=by rfl
def fl3:uC "Put" "second" (pz z d1 d2)=some d2:=by rfl
def ip1:Ae "Put" "done" (.sh (pz z d1 d2))=some (pz z d1 d2):=by rfl
def rQ.sc(h:rQ d):d.scal=true:=by rcases h with rfl|⟨s,rfl⟩ <;> rfl
def UT(l:rQ d1)(n:rQ d2):wU [pz z d1 d2]=some (.sh (.tup [.str "put", .int z,d1,d2])):=by
 have a:=fl1 (z:=z) (d1:=d1) (d2:=d2);have b:=fl2 (z:=z) (d1:=d1) (d2:=d2);have c:=fl3 (z:=z) (d1:=d1) (d2:=d2);rcases l with rfl|⟨s,rfl⟩ <;> rcases n with rfl|⟨t,rfl⟩ <;> simp_arith [wU,HP,a,b,c]
def done_eq(l:rQ d1)(n:rQ d2)x:pZ [pz z d1 d2,x]=qZ [x,.int z,d1,d2]:=by
 have a:=fl1 (z:=z) (d1:=d1) (d2:=d2);have b:=fl2 (z:=z) (d1:=d1) (d2:=d2);have c:=fl3 (z:=z) (d1:=d1) (d2:=d2);rcases l with rfl|⟨s,rfl⟩ <;> rcases n with rfl|⟨t,rfl⟩ <;> first
  | (cases e:qZ [x,.int z,.non,.non]with
    |none=>simp_arith [pZ,uu,a,b,c,e]
    |some r=>cases r <;> simp_arith [pZ,uu,a,b,c,e];done)
  | (cases e:qZ [x,.int z,.non,.int t]with
    |none=>simp_arith [pZ,uu,a,b,c,e]
    |some r=>cases r <;> simp_arith [pZ,uu,a,b,c,e];done)
  | (cases e:qZ [x,.int z,.int s,.non]with
    |none=>simp_arith [pZ,uu,a,b,c,e]
    |some r=>cases r <;> simp_arith [pZ,uu,a,b,c,e];done)
  | (cases e:qZ [x,.int z,.int s,.int t]with
    |none=>simp_arith [pZ,uu,a,b,c,e]
    |some r=>cases r <;> simp_arith [pZ,uu,a,b,c,e];done)
end K21
namespace K22
open PySem L2 Mr Z Xe Zl K21
open K23 (AK KY cz)
def uns:under "Taken" "NotThere" = false/\under "Taken" "TooMany" = false/\under "Taken" "NoPlace" = false/\under "NoPlace" "TooMany" = false/\under "NoPlace" "Taken" = false/\under "NoPlace" "NotThere" = false:=by trivial
def Ji:K23.xW [.exc "NoPlace" []]=some (.ow [.sh (.tup [.str "place", .int 0])]):=by
 have l:0<tH:=by decide
 simp_arith [K23.xW,K23.Hj,uns,jL,l]
noncomputable abbrev qz(z:Int)(d1 d2:D):D:=.ins "Part" [("road", .int z),("first", d1),("second", d2)]
structure Ref (c:Str)(fs:List (Str×Int))(w:Str)(y:Int):Prop where
 un:under c "MapError" = true
 kd:K23.xW [.exc c fs]=some (.ow [.sh (.tup [.str w,.int y])])
def ref_ex(h:rQ d):∃c fs w y,Xq d = .ex c fs/\lEx d=AK w y/\Ref c fs w y:=by
 rcases h with rfl|⟨s,rfl⟩
 .exact⟨_,_,_,_,rfl,rfl,by trivial,Ji⟩
 .exact⟨_,_,_,_,rfl,rfl,by trivial,K23.Ku s⟩
def ip2:Ae "Put" "back" (.sh (pz z d1 d2))=some (pz z d1 d2):=by rfl
def mkC(h:S[0]?.join=some (.sh (pz z d1 d2))):zP "Cut" ["road"] (oK (vJ (uC "Put" "road") (oH 0)) ph) S=some (.sh (cz z),S):=by
 have f:=fl1 (z:=z) (d1:=d1) (d2:=d2)
 simp_arith [ZG,h,f]
 rfl
def QM(r:Ref c fs w y)(h:pZ [pz z d1 d2,x]=some (.ex c fs)):rh [pz z d1 d2,x]=some (.ex c fs)/\Fz [pz z d1 d2,x]=some (AK w y)/\E6 [pz z d1 d2,x]=some (AK w y):=by
 have i1:=ip1 (z:=z) (d1:=d1) (d2:=d2);have s:=ip2 (z:=z) (d1:=d1) (d2:=d2);have t:sJ [pz z d1 d2,x]=some (.ex c fs):=by
  simp_arith [sJ,vx,wg,i1,h]
 have l:rh [pz z d1 d2,x]=some (.ex c fs):=by
  simp_arith [rh,C7,t]
 have n:=r.un;have hk:=r.kd;refine⟨l,?_,?_⟩
 .simp_arith [Fz,Eh,wg,i1,h,n,hk,AK]
 .simp_arith [E6,Ej,wg,s,l,n,hk,AK]
def iq4:Ae "Part" "other" (.sh (qz z d1 d2))=some (qz z d1 d2):=by rfl
def gl1:uC "Part" "road" (qz z d1 d2)=some (.int z):=by rfl
def gl2:uC "Part" "first" (qz z d1 d2)=some d1:=by rfl
def gl3:uC "Part" "second" (qz z d1 d2)=some d2:=by rfl
def mkQ(h:S[0]?.join=some (.sh (qz z d1 d2)))(q1:rQ d1)(l:rQ d2):zP "Put" ["road","first","second"] (oK (vJ (uC "Part" "road") (oH 0)) (oK (vJ (uC "Part" "first") (oH 0)) (oK (vJ (uC "Part" "second") (oH 0)) ph))) S=some (.sh (pz z d1 d2),S):=by
 have a:=gl1 (z:=z) (d1:=d1) (d2:=d2);have b:=gl2 (z:=z) (d1:=d1) (d2:=d2);have c:=gl3 (z:=z) (d1:=d1) (d2:=d2);rcases q1 with rfl|⟨s,rfl⟩ <;> rcases l with rfl|⟨t,rfl⟩ <;> (simp_arith [ZG,h,a,b,c];rfl)
def Fq(q1:rQ d1)(l:rQ d2):uZ [qz z d1 d2]=some (.sh (pz z d1 d2)):=by
 have h:=mkQ (S:=[some (.sh (qz z d1 d2))]) rfl q1 l
 simp_arith [uZ,Ei,h]
def Zh:wX [cz z]=some (.sh (.tup [.str "cut", .int z])):=by
 have h:=K23.aiG z
 simp_arith [wX,Hz,h]
end K22
namespace K26
open PySem L2 Mr Z Xe Zl
open K25 (Rt EY)
open K21 (Cg rQ)
open K23 (C wA)
def FM{a b:Ϝ}(ha:e∉a)(hl:(a++e::b).length<=1000):yL [dI (a++e::b),.int e]=some (.sh (xo (b++a))):=by
 have u:(a++e::b).idxOf e=a.length:=by rw[gU,qj ha,fZ,cA]
 have n:=K21.Qq (r:=a++e::b) (e:=e) ⋯
 rw[u]at n;rcases bL (b++a)with h|⟨X,x,h⟩
 .obtain⟨rfl,rfl⟩:=List.append_eq_nil_iff.mp h;have s:decide (((1:Nat))=1)=true:=rfl;rfl
 .rw[bM]at h;have z:((a++e::b).map D.int).length=X.length+1+1:=by
   have:=congrArg bU h;simp at this ⊢;lia
  have s:decide (((X.length+1+1:Nat):Int)=1)=false:=d4 ∅
  have l:atI ((a++e::b).map D.int) ((a.length)-1)=some (.int x):=by
   rcases bL a with q|⟨t,y,q⟩
   .subst q;rw[aNq]at h;subst h;have B:(([])++e::(X++[x])).map D.int=(e::X).map D.int++[.int x]:=by simp
    rw[B];exact E9 _ _
   .rw[bM]at q;subst q;rw[←ao]at h;have hh:=(List.append_inj' h rfl).2;injection hh with q
    subst q;rw[show(((t++[y]).length):Int)-1=(t.length) by simp]
    exact yr ⋯
  rw[h,yo]
  simp_arith [yL,Gw,dI,z,s,n,l]
def turn_comp{M:Λ}z:uF (tJ (qe (Fv false) (oH 1) (oH 0))) (oW 0) [i0 z] (M.map dI)=some ((M.filter λr=>decide (z∈r)).map λr=>.sh (dI r)):=by
 rw[Z.vK (λd=>decide (z∈D3 d)) (λd=>.sh d)]
 .rw[gh,mPq];have:(λd=>decide (z∈D3 d))∘dI=λr=>decide (z∈r):=by funext r;show decide (z∈D3 (dI r))=_;rw[xA]
  rw[this];rfl
 .intro d hd;obtain⟨r,hr,rfl⟩:=CV hd;rw[xA];have h:=NV false z r;refine⟨[some (.sh (dI r)),i0 z],?_,λ_=>⟨[some (.sh (dI r)),i0 z],?_⟩⟩
  .simp_arith [h]
  .simp_arith []
def Sq{M:Λ}{r:Ϝ}(hn:M.flatten.Nodup)(hr:r∈M)(l:z∈r):(M.filter λr=>decide (z∈r))=[r]:=by
 obtain⟨A,B,rfl⟩:=eA hr;rw[fAq,fCq,nAq,nAq]at hn;have n:∀X:Λ,z∉X.flatten->(X.filter λr=>decide (z∈r))=[]:=λX s=>iC.mpr λr hr q=>s (mFq.mpr ⟨r,hr,of_decide_eq_true q⟩)
 rw[bu,bN (p:=λr=>decide (z∈r)) (d0 l),n A λq=>hn.2.2 z q z (bw _ l) rfl,n B λq=>hn.2.1.2.2 z l z q rfl]
 rfl
def GG{r:Ϝ}(hn:M.flatten.Nodup)(hl:M.length<=1000)(hr:r∈M)(l:z∈r):yA [dM M,.int z]=some (.sh (dI r)):=by
 have c:=turn_comp (M:=M) z;rw[Sq hn hr l]at c;have l1:M.length<=tH:=uL ∅
 simp_arith [yA,Gj,dM,c,l1]
 rfl
def th1(z)t(ht:t.length<=1000):K23.xg [dI t,.tup [.int z]]=some (aI (t.filter λy=>decide (y≠z))):=by
 have h:uF (tJ (qe (Fv true) (oH 0) (oH 1))) (oW 0) [some (.sh (.tup [.int z]))] (t.map D.int)=some ((t.filter λy=>decide (y≠z)).map λn=>.sh (.int n)):=by
  rw[Z.vK (λd=>match d with|.int e=>decide (e≠z)|_=>false) (λd=>.sh d)]
  .exact congrArg some (K23.NU t λe=>decide (e≠z))
  .intro d hd;obtain⟨e,_,rfl⟩:=mMq.mp hd;have h:Fv true (.int e) (.tup [.int z])=some (.bl (decide (e≠z))):=by
    rw[show Fv true (.int e) (.tup [.int z])=some (.bl (!decide (e∈[z])))from NV true e [z]]
    by_cases q:e=z <;> simp[q]
   refine⟨[i0 e,some (.sh (.tup [.int z]))],?_,λ_=>⟨[i0 e,some (.sh (.tup [.int z]))],?_⟩⟩
   .simp_arith [h]
   .simp_arith []
 have l:t.length<=tH:=uL ∅
 simp_arith [K23.xg,K23.Ew,dI,h,l]
def XE(hn:M.flatten.Nodup)(x:M.flatten.length<=1000)(hl:M.length<=1000)(ne:z ≠ -z)(h:Rt M z w):vq [dM M,.int z]=some (.sh (xo (w.filter λy=>decide (y ≠ -z)))):=by
 obtain⟨u,v,hr,rfl⟩:=h;have l:=aZ (ax hr).length_le x;have B:=GG hn hl hr (z:=z) ⋯
 have E:=th1 (-z) (u++z::v) l;have nd:=hn.sublist (ax hr);have n:((u++z::v).filter λy=>decide (y ≠ -z))=(u.filter λy=>decide (y ≠ -z))++z::(v.filter λy=>decide (y ≠ -z)):=by
  rw[bu,bN (p:=λy=>decide (y ≠ -z)) (d0 ne)]
 have t:=FM (λq=>(nAq.mp nd).2.2 z (eB.mp q).1 z aq rfl) (by rw[←n];exact aZ (dw _ _) l)
 rw[←n,←bu]at t;have s:=sm ((u++z::v).filter λy=>decide (y ≠ -z))
 simp_arith [vq,C1,B,E,s,t]
def Vu(hn:M.flatten.Nodup)(l:M.flatten.length<=1000)(hl:M.length<=1000)(h:Rt M (-z) u):uV [dM M,.int z]=some (.sh (xo u)):=by
 obtain⟨a,b,hr,rfl⟩:=h;have n:=aZ (ax hr).length_le l;have s:=GG hn hl hr (z:=-z) ⋯
 have nd:=hn.sublist (ax hr);have t:=FM (λq=>(nAq.mp nd).2.2 (-z) q (-z) aq rfl) n
 simp_arith [uV,Cu,s,t]
end K26
namespace K26
open PySem L2 Mr Z Xe Zl
open K25 (Rt EY)
open K15 (nx D2 S6)
open K51 (wG qE)
noncomputable def unk:qM->Int
 | .inl e=>e
 | .inr _=>0
def qs(ps:List (qM×Int)):List (qM×Int):=ps.map λp=>(.inl p.2,unk p.1)
theorem Mv:∀{ps}{Q}{v3 v4},(∀p∈ps,∃e,p.1 = .inl e)->((Q++qs ps).map (·.1)).Nodup->Q.length+ps.length<=1000->∃t u,Hn 3 4 wy (wG ps) [s0,s1,some (.owd (wG Q)),v3,v4,none,none]=some (.nx [s0,s1,some (.owd (wG (Q++qs ps))),t,u,none,none])
 | [],Q,v3,v4,_,_,_=>⟨v3,v4,by rw[show qs []=[]from rfl,aNq];rfl⟩
 | (k,n)::ps,Q,v3,v4,hk,hn,hl=>by
  obtain⟨e,rfl⟩:=hk _ aq;have z:Q++qs ((bh e,n)::ps)=(Q++[(.inl n,e)])++qs ps:=by simp[qs,unk]
  rw[z]at hn ⊢;obtain⟨t,u,B⟩:=Mv (s0:=s0) (s1:=s1) (ps:=ps) (Q:=Q++[(.inl n,e)]) (v3:=i0 e) (v4:=i0 n) (λp E=>hk p (mCo _ E)) hn (by simp at hl ⊢;lia)
  refine⟨t,u,?_⟩;rw[←B];have l:(bh n)∉(wG Q).map (·.1):=λm=>by
   rw[mBq,nAq]at hn;have x:=hn.1;rw[mBq,nAq]at x;refine x.2.2 _ ?_ _ (mSq.mpr rfl) rfl;unfold wG at m;rw[mPq]at m;exact m
  have G:FC (wG Q) (.inl n) (.int e)=wG (Q++[(.inl n,e)]):=by
   rw[Ft l];simp[wG]
  have H:(wG Q).length<tH:=YU (by unfold wG;rw[lMq];lia)
  have s:wy [s0,s1,some (.owd (wG Q)),i0 e,i0 n,none,none]=some (.nx [s0,s1,some (.owd (wG (Q++[(.inl n,e)]))),i0 e,i0 n,none,none]):=by
   simp_arith [wy,G,H]
  show(wy [s0,s1,some (.owd (wG Q)),i0 e,i0 n,none,none]).bind _=_;rw[s];rfl
def YF(hn:M.flatten.Nodup)(l:x∈M.flatten):Z.getD (wG (qs (qE M))) (.inl (nx M x))=some (.int x):=by
 refine K15.Bh ?_ (mMq.mpr ⟨_,D2 hn l,rfl⟩);unfold qs;rw[mPq];show((qE M).map (bh∘λp=>p.2)).Nodup
 rw[←mPq];exact((K51.zD M).map _).nodup_iff.mpr (aG.mpr (bD.mpr (bo.imp (λh e=>h (bh.inj e)) (aG.mp hn))))
noncomputable def nn(x y:Int):D:=if x=y then .non else .int x
def We(hm:Mp M)(B:M.flatten.length<=1000)(s:Z.getD (wG (qs (qE M))) (.inl z)=some (.int p))(g2:Z.getD (wG (qs (qE M))) (.inl (-z))=some (.int q)):qu [dM M,.int z]=some (.sh (.tup [.int z,nn (if p = -z then q else p) z,nn q (-z)])):=by
 have hk:∀x∈qE M,∃e,x.1=bh e:=λx u=>by
  have:x.1∈(qE M).map (·.1):=jh u;rw[K51.wW]at this;obtain⟨e,_,h⟩:=mMq.mp this;exact⟨e,h.symm⟩
 have nd:((qs (qE M)).map (·.1)).Nodup:=by
  unfold qs;rw[mPq];show((qE M).map (bh∘λp=>p.2)).Nodup
  rw[←mPq];exact((K51.zD M).map _).nodup_iff.mpr (aG.mpr (bD.mpr (bo.imp (λh e=>h (bh.inj e)) (aG.mp hm.hn))))
 obtain⟨E,G,lp⟩:=Mv (s0:=some (.sh (dM M))) (s1:=i0 z) (ps:=qE M) (Q:=[]) (v3:=none) (v4:=none) hk (by rw[dD];exact nd) (by rw[K51.LY,cO];lia)
 rw[dD,show wG ([]:List (qM×Int))=[]from rfl]at lp
 have ln:=K15.Lw hm;generalize wG (qs (qE M))=P at s g2 lp;unfold nn
 by_cases a:p = -z
 .have t:decide (p = -z)=true:=d0 a;rw[qf a]
  by_cases b:q=z
  .have n:decide (q=z)=true:=d0 b;rw[qf b]
   by_cases c:q = -z
   .have l:decide (q = -z)=true:=d0 c;rw[qf c]
    simp_arith [qu,uA,ln,lp,s,g2,t,n,l]
   .have l:decide (q = -z)=false:=d4 c;rw[qj c]
    simp_arith [qu,uA,ln,lp,s,g2,t,n,l]
  .have n:decide (q=z)=false:=d4 b;rw[qj b]
   by_cases c:q = -z
   .have l:decide (q = -z)=true:=d0 c;rw[qf c]
    simp_arith [qu,uA,ln,lp,s,g2,t,n,l]
   .have l:decide (q = -z)=false:=d4 c;rw[qj c]
    simp_arith [qu,uA,ln,lp,s,g2,t,n,l]
 .have t:decide (p = -z)=false:=d4 a;rw[qj a]
  by_cases b:p=z
  .have n:=d0 b;rw[qf b]
   by_cases c:q = -z
   .have l:=d0 c;rw[qf c]
    simp_arith [qu,uA,ln,lp,s,g2,t,n,l]
   .have l:=d4 c;rw[qj c]
    simp_arith [qu,uA,ln,lp,s,g2,t,n,l]
  .have n:=d4 b;rw[qj b]
   by_cases c:q = -z
   .have l:=d0 c;rw[qf c]
    simp_arith [qu,uA,ln,lp,s,g2,t,n,l]
   .have l:=d4 c;rw[qj c]
    simp_arith [qu,uA,ln,lp,s,g2,t,n,l]
def aft(hn:M.flatten.Nodup)(h:Rt M x w):Z.getD (wG (qs (qE M))) (.inl x)=some (.int (w.getLastD x)):=by
 rcases bL w with rfl|⟨v,y,rfl⟩
 .have e:=h.to hn;have:=YF hn h.mem
  rwa [e]at this
 .rw[bM]at h ⊢;have l:=Rt.go h;have e:nx M y=x:=l.to hn;have:=YF hn l.mem;rw[e]at this;rw[this];simp
def VJ(hm:Mp M)(B:M.flatten.length<=1000)(ne:z ≠ -z)(s:Rt M z w)(t:Rt M (-z) u):qu [dM M,.int z]=some (.sh (.tup [.int z,xo (w.filter λy=>decide (y ≠ -z)),xo u])):=by
 rw[We hm B (aft hm.hn s) (aft hm.hn t)];have n:=s.nd hm.hn;have E:=t.nd hm.hn;have k:∀{x:Int}{l:Ϝ},(x::l).Nodup->nn (l.getLastD x) x=xo l:=λ{x l} hn=>by
  rcases bL l with rfl|⟨v,y,rfl⟩
  .exact qf rfl
  .rw[bM]at hn ⊢;rw[yo,show(v++[y]).getLastD x=y by simp]
   exact qj λq=>(ak.mp hn).1 (by rw[←q];simp)
 rw[k E];congr 5;rcases bL w with rfl|⟨v,y,rfl⟩
 .rw[qj (show ¬ ([]).getLastD z = -z from ne)]
  exact k n
 .rw[bM]at s n ⊢;rw[show(v++[y]).getLastD z=y by simp,bu]
  by_cases q:y = -z
  .subst q;have G:u=z::v:=M1 hm.hn t (Rt.go s);have H:=λm=>(nAq.mp (ak.mp n).2).2.2 (-z) m (-z) aq rfl
   rw[qf rfl,G,show(z::v).getLastD (-z)=v.getLastD z by cases v <;> rfl,bA ⋯,jB,aNq,cY.mpr λa ha=>d0 (p:=a ≠ -z) λe=>H (e ▸ ha)]
   exact k ((List.sublist_append_left (z::v) [-z]).nodup n)
  .rw[qj q,bN (p:=λy=>decide (y ≠ -z)) (d0 q),jB,yo]
   exact qj λe=>(ak.mp n).1 (by rw[←e];simp)
end K26
namespace K26
open PySem L2 Mr Z Xe Zl
open K22 (Ref)
open K23 (AK KY)
inductive Of:Str->vH->vH->MF->Prop
 |put:Of "Put" K21.pZ K22.rh K21.wU
 |cut:Of "Cut" K23.rO sF K22.wX
 |part:Of "Part" K22.tU tX vP
 |draw:Of "Draw" K25.tW tT K25.vM
 |found:Of "Found" sX uE vd
 |raze:Of "Raze" rY tV vQ
structure W1 (c:Str)(fs:List (Str×D))(fd fb:vH)(ft:MF):Prop where
 of:Of c fd fb ft
 l1:fs.lookup ("done" : Str)=none
 l2:fs.lookup ("back" : Str)=none
 l3:fs.lookup ("told" : Str)=none
def YL(h:l≠c):Ae c m (.sh (.ins l fs))=none:=by
 rw[Pr,qj λq=>h q.1]
def Oh(h:fs.lookup m=none):Ae c m (.sh (.ins c fs))=some (.ins c fs):=by
 rw[Pr,qf ⟨rfl,h⟩]
def ae9{r:AS}(h:c≠l):tA m l f (some (.sh (.ins c fs))::r)=none:=by
 have i:=YL (m:=m) (fs:=fs) h
 simp_arith [tA,wg,i]
def abB{r:AS}(o:Of c fd fb ft):dnA (some (.sh (.ins c fs))::r)=tA "done" c fd (some (.sh (.ins c fs))::r):=by
 unfold dnA;cases o <;> simp(disch:=decide) only[IQ,ae9,gB,gC]
def Zn{r:AS}(o:Of c fd fb ft):bkA (some (.sh (.ins c fs))::r)=tA "back" c fb (some (.sh (.ins c fs))::r):=by
 unfold bkA;cases o <;> simp(disch:=decide) only[IQ,ae9,gB,gC]
def af6(hl:fs.lookup m=none)(h:f [.ins c fs,x]=some (.ok a)):tA m c f [some (.sh (.ins c fs)),some (.sh x),v2,v3,v4]=some (.nx [some (.sh (.ins c fs)),some (.sh x),v2,some a,v4]):=by
 have i:=Oh (c:=c) hl
 simp_arith [tA,wg,i,h]
def afF{f:vH}(hl:fs.lookup m=none)(h:f [.ins c fs,x]=some (.ex k l))(r:Ref k l w y):∃n,tA m c f [some (.sh (.ins c fs)),some (.sh x),v2,v3,v4]=some (.nx [some (.sh (.ins c fs)),some (.sh x),some (.ow [.sh (.tup [.str w,.int y])]),v3,n]):=by
 have i:=Oh (c:=c) hl;have s:=r.un;have hk:=r.kd;refine⟨none,?_⟩
 simp_arith [tA,wg,i,h,s,hk]
def Tp(C:W1 c fs fd fb ft)(h:fd [.ins c fs,x]=some (.ok (.ow (G.map aI)))):yM [.ins c fs,x]=some (KY G):=by
 have s:=λr=>abB (fs:=fs) (r:=r) C.of
 have t:=λ{v2 v3 v4}=>af6 (v2:=v2) (v3:=v3) (v4:=v4) C.l1 h
 simp_arith [yM,GT,s,t,KY]
def Um(C:W1 c fs fd fb ft)(h:fb [.ins c fs,x]=some (.ok (.sh b))):zY [.ins c fs,x]=some (.ow [.sh (.str "back"),.sh b]):=by
 have s:=λr=>Zn (fs:=fs) (r:=r) C.of
 have t:=λ{v2 v3 v4}=>af6 (v2:=v2) (v3:=v3) (v4:=v4) C.l2 h
 simp_arith [zY,G9,s,t]
def aeq(C:W1 c fs fd fb ft)(h:fd [.ins c fs,x]=some (.ex k l))(h':fb [.ins c fs,x]=some (.ex k l))(r:Ref k l w y):yM [.ins c fs,x]=some (AK w y)/\zY [.ins c fs,x]=some (AK w y):=by
 constructor
 .have s:=λr=>abB (fs:=fs) (r:=r) C.of
  obtain⟨u,t⟩:=afF (v2:=some (.sh .non)) (v3:=some (.sh .non)) (v4:=none) C.l1 h r
  simp_arith [yM,GT,s,t,AK]
 .have s:=λr=>Zn (fs:=fs) (r:=r) C.of
  obtain⟨u,t⟩:=afF (v2:=some (.sh .non)) (v3:=some (.sh .non)) (v4:=none) C.l2 h' r
  simp_arith [zY,G9,s,t,AK]
def Sa(o:Of c fd fb ft)(h:m S=some (.ins c fs,S')):isC m S=some (.bl true,S'):=by
 have s:∀{l:Str},c≠l->Kf l true m S=none:=λ{l} q=>by
  unfold Kf;rw[h];exact qj q
 have n:Kf c true m S=some (.bl true,S'):=by
  unfold Kf;rw[h];exact qf rfl
 unfold isC;cases o <;> simp(disch:=decide) only[Jo,s,n,gB,gC,iO]
def RI(C:W1 c fs fd fb ft)(h:k S=some (.sh (.ins c fs),S'))(ht:ft [.ins c fs]=some (.sh d)):XM k S=some (d,S'):=by
 have i:=Oh (c:=c) C.l3;have t:∀{l:Str}{f:MF},c≠l->rOf (pJ f (yU l "told" k oV)) S=none:=λ{l f} q=>by
  have n:=YL (m:= "told") (fs:=fs) q
  simp_arith [wg,h,n]
 have s:rOf (pJ ft (yU c "told" k oV)) S=some (d,S'):=by
  simp_arith [wg,h,i,ht]
 unfold XM;obtain⟨o,_,_,_⟩:=C;cases o <;> simp(disch:=decide) only[Jo,t,s,gB,gC,iO]
def Qz(M:Λ)(ch:D)(fd B:vH)(wd:D):Prop:=
 (∃k z w y,fd [ch,dM M]=some (.ex k z)/\B [ch,dM M]=some (.ex k z)/\Ref k z w y) ∨
 ∃W s l t u x n,W1 s l t u x/\(W.length<=1000/\W.flatten.length<=1000)/\fd [ch,dM M]=some (.ok (.ow (W.map aI)))/\B [ch,dM M]=some (.ok (.sh (.ins s l)))/\(x [.ins s l]=some (.sh n)/\K21.plain 4 n)/\ve [dM M,wd]=some (.sh n)/\t [.ins s l,dM W]=some (.ok (.ow (M.map aI)))/\u [.ins s l,dM W]=some (.ok (.sh ch))
def ajj{wd}(C:W1 c fs fd fb ft)(ht:ft [.ins c fs]=some (.sh wd))(pw:K21.plain 4 wd)(s2:pD a2=dM M)(hl:M.length<=1000)(hf:M.flatten.length<=1000)(h:Qz M (.ins c fs) fd fb wd):tl [v0,v1,some a2,v3,v4,v5,some (.sh wd),some (.sh (.ins c fs)),none,none,none,none,none]=some (.rt (.sh (.bl true))):=by
 have i7:=λ{u x n s t:Option AV}=>Sa (m:=oH 7) (S:=[v0,v1,some a2,v3,v4,v5,some (.sh wd),some (.sh (.ins c fs)),u,x,n,s,t]) C.of (by simp_arith [];rfl)
 have t7:=λ{u x n s t:Option AV}=>RI (k:=oW 7) (S:=[v0,v1,some a2,v3,v4,v5,some (.sh wd),some (.sh (.ins c fs)),u,x,n,s,t]) C (by simp_arith [];rfl) ht
 have a1:K13.rP [wd,wd]=i4 true:=K21.alike_refl 4 _ pw;have L:K13.rP [dM M,dM M]=i4 true:=K13.alike_refl 4 _ (K13.T9 1 M ∅ ∅)
 have O:=K51.TK (rs:=M) ∅
 have sM:=va M;have z:pD (.ow (M.map aI))=dM M:=by rw[vi,sM]
 have q0:∀(a:D) (l:List D),atI (a::l) 0=some a:=λa l=>yr (j:=0) rfl
 have q1:∀(a b:D) (l:List D),atI (a::b::l) 1=some b:=λa b l=>yr (j:=1) rfl
 have dR:CI (.str "refused") (.str "refused")=some (.bl true):=by rw[GF];rfl
 have dS:CI (.str "map") (.str "refused")=some (.bl false):=by rw[GF];rfl
 have dB:WZ (.str "back") (.str "back")=some (.bl false):=by rw[acy];rfl
 have z1:decide (((1:Nat):Int)=1)=true:=rfl;rcases h with⟨k,es,w,y,P,Q,r⟩|⟨W,c',G,fd',fb',ft',H,J,⟨w1,w2⟩,P,Q,⟨h3,R⟩,h4,h5,h6⟩
 .obtain⟨E,I⟩:=aeq C P Q r;have sr:pD (AK w y) = .list [.str "refused", .list [.tup [.str w,.int y]]]:=by simp[AK]
  have ar:K13.rP [.list [.str "refused", .list [.tup [.str w,.int y]]],.list [.str "refused", .list [.tup [.str w,.int y]]]]=i4 true:=by
   rw[←sr];exact K13.alike_refl 4 _ (K13.RB w y)
  unfold dM at s2 O L E I z;unfold AK at E I
  simp_arith -implicitDefEqProofs [tl,i7,t7,a1,s2,O,z,L,E,I,ar,q0,q1,dR,z1]
 .have E:=Tp C P;have I:=Um C Q;have e5:=Tp J h5;have e6:=Um J h6;have cW:=K51.TK (rs:=W) ∅
  have sW:=va W;have T:=λ{B u x n t:Option AV}=>Sa (m:=oH 11) (S:=[v0,v1,B,v3,v4,v5,some (.sh wd),some (.sh (.ins c fs)),u,x,n,some (.sh (.ins c' G)),t]) J.of (by rfl)
  have U:=λ{B u x n t:Option AV}=>RI (k:=oW 11) (S:=[v0,v1,B,v3,v4,v5,some (.sh wd),some (.sh (.ins c fs)),u,x,n,some (.sh (.ins c' G)),t]) J (by rfl) h3
  have X:=λ{B u x n s:Option AV}=>Sa (m:=qe HC (oH 12) (rC (.int 1))) (S:=[v0,v1,B,v3,v4,v5,some (.sh wd),some (.sh (.ins c fs)),u,x,n,s,some (.ow [.sh (.str "back"),.sh (.ins c fs)])]) C.of (by rfl)
  have Y:=λ{B u x n s:Option AV}=>RI (k:=Xp (wj 12) (rC (.int 1))) (S:=[v0,v1,B,v3,v4,v5,some (.sh wd),some (.sh (.ins c fs)),u,x,n,s,some (.ow [.sh (.str "back"),.sh (.ins c fs)])]) C (by rfl) ht
  have ad:K13.rP [H,H]=i4 true:=K21.alike_refl 4 _ R;have aW:K13.rP [.list [.str "map", dM M],.list [.str "map", dM M]]=i4 true:=K13.alike_refl 4 _ (K13.LV M ∅ ∅)
  have aX:K13.rP [.list [.str "map", dM W],.list [.str "map", dM W]]=i4 true:=K13.alike_refl 4 _ (K13.LV W ∅ ∅)
  unfold KY at E e5
  simp_arith -implicitDefEqProofs [tl,i7,t7,a1,s2,O,z,sM,sW,L,E,I,e5,e6,h4,cW,T,U,X,Y,ad,aW,aX,q0,q1,dS,dB]
end K26
namespace K25
open PySem L2 Mr Z Xe Zl K15 K16
def FJ rs:bare rs=rs.count []:=by
 unfold bare;congr 1;funext r;cases r <;> rfl
def NN:good r=[]↔r=[]:=by
 rw[←bz,HI,bz]
theorem LZ:∀rs:Λ,bare (rs.map good)=bare rs
 | []=>rfl
 |r::rs=>by
  have l:=LZ rs;unfold bare at l ⊢;rw[aw,dk,dk,l];simp only[NN]
def Kj rs:bare (A7 (rs.map good))=bare rs:=by
 rw[FJ,(uD _).count_eq,←FJ,LZ]
end K25
namespace K26
open PySem L2 Mr Z Xe Zl
open K25 (Rt)
open K21 (Cg rQ pz wr)
open K22 (Ref qz)
open K23 (C wA cz AK KY)
structure Gd (M:Λ):Prop where
 mp:Mp M
 go:gm M=M
 ln:M.length<=700
 br:bare M<=128
structure Xt (N W:Λ)(z:Int)(d1 d2:D):Prop where
 put:K21.pZ [pz z d1 d2,dM N]=some (.ok (.ow (W.map aI)))
 cut:K23.rO [cz z,dM W]=some (.ok (.ow (N.map aI)))
 cback:sF [cz z,dM W]=some (.ok (.sh (pz z d1 d2)))
 pback:K22.rh [pz z d1 d2,dM N]=some (.ok (.sh (cz z)))
def QL(h:K21.pZ [pz z d1 d2,x]=some (.ok a)):K22.rh [pz z d1 d2,x]=some (.ok (.sh (cz z))):=by
 have i1:=K21.ip1 (z:=z) (d1:=d1) (d2:=d2);have l:∃a,K22.sJ [pz z d1 d2,x]=some (.ok a):=by
  refine⟨.sh .non,?_⟩
  simp_arith [K22.sJ,K22.vx,wg,i1,h]
 obtain⟨a,l⟩:=l;have n:∀y,zP "Cut" ["road"] (oK (vJ (uC "Put" "road") (oH 0)) ph) [some (.sh (pz z d1 d2)),y]=some (.sh (cz z),[some (.sh (pz z d1 d2)),y]):=λy=>K22.mkC rfl
 simp_arith [K22.rh,K22.C7,l,n]
def mk3(q1:rQ d1)(l:rQ d2)(h:a S=some ([.int z,d1,d2],S')):zP c ["road","first","second"] a S=some (.sh (.ins c [("road", .int z),("first", d1),("second", d2)]),S'):=by
 rw[ZG,h];exact qf ⟨rfl,by unfold abl;rw[eS,eS,eS,K21.rQ.sc q1,K21.rQ.sc l];rfl⟩
def Q9(q1:rQ d1)(n:rQ d2)(h:K23.qW [dM W,.int z]=some (.ok a))(s:vq [dM W,.int z]=some (.sh d1))(t:uV [dM W,.int z]=some (.sh d2)):sF [cz z,dM W]=some (.ok (.sh (pz z d1 d2))):=by
 have i1:=K23.in1 z;have u:=K23.aiG z;have hd:=(K23.done_eq _).trans h;have l:∃a,K23.uc [cz z,dM W]=some (.ok a):=by
  refine⟨.sh .non,?_⟩
  simp_arith [K23.uc,K23.xx,wg,i1,hd]
 obtain⟨B,l⟩:=l;have x:=mk3 (c:= "Put") (S:=[some (.sh (cz z)),some (.sh (dM W))]) (a:=oK (vJ (uC "Cut" "road") (oH 0)) (oK (rOf (pJ vq (oE (oW 1) (oE (kSc (vJ (uC "Cut" "road") (oH 0))) oV)))) (oK (rOf (pJ uV (oE (oW 1) (oE (kSc (vJ (uC "Cut" "road") (oH 0))) oV)))) ph))) q1 n (by simp_arith [u,s,t];rfl)
 simp_arith [sF,Df,l,x]
def Ge(hd:rQ d)(hn:T.flatten.Nodup)(e:Cg T n d=some x):bare x<=bare T:=by
 have k:∀A B r t,t≠[]->bare (A++t::B)<=bare (A++r::B):=λA B r t h=>by
  unfold bare;rw[jl,jl,List.countP_cons_of_neg (by simpa using h)]
  exact iX (cT.countP_le (fD ..)) _
 rcases hd with rfl|⟨s,rfl⟩
 .by_cases l:[]∈T
  .obtain⟨A,B,rfl,u⟩:=K26.Nv n l;rw[u]at e;cases e;exact k _ _ _ _ ⋯
  .unfold Cg at e;rw[K21.IH,d4 l]at e;cases e
 .by_cases l:s∈T.flatten
  .obtain⟨A,a,b,B,rfl,u⟩:=K26.Nq n hn l;rw[u]at e;cases e;exact k _ _ _ _ ⋯
  .unfold Cg at e;rw[K21.Fc,d4 l]at e;cases e
def TC(l:Gd N)(n:Gd W)(q1:rQ d1)(s:rQ d2)(H:z∉N.flatten)(ne:z ≠ -z)(R:W.flatten.length<=128)(U:N.flatten.length<=128)(B:Cg N z d1=some G)(I:Cg G (-z) d2=some t)(J:gm t=W)(L:gm (C z W)=N)(M:Rt W z w)(S:Rt W (-z) u)(l1:xo (w.filter λy=>decide (y ≠ -z))=d1)(l2:xo u=d2):Xt N W z d1 d2:=by
 have ln:=l.ln;have X:=n.ln;have fl2:t.flatten.length<=128:=by
  have:=(uk (J.trans n.go.symm)).length_eq;lia
 have E:=(K21.zX q1 B).1.nodup_iff.mpr (ak.mpr ⟨H,l.mp.hn⟩);have b2:=aZ (aZ (Ge s E I) (Ge q1 l.mp.hn B)) l.br;have hw:K21.qZ [dM N,.int z,d1,d2]=some (.ok (.ow (W.map aI))):=by
  rw[K21.FI l.mp.hn ∅ ∅ q1 s]
  unfold wr;rw[qj H];simp only[B,I];rw[qf ⟨fl2,b2⟩];exact congrArg (λx=>some (WB.ok (.ow (x.map aI)))) J
 have put:=(K21.done_eq q1 s _).trans hw;have T:bare (C z W)<=128:=by
  have:bare (gm (C z W))=bare (C z W):=K25.Kj (C z W);rw[L]at this;rw[←this];exact l.br
 have O:K23.qW [dM W,.int z]=some (.ok (.ow (N.map aI))):=by
  rw[K23.aeI R ∅ M.mem,qf T]
  exact congrArg (λx=>some (WB.ok (.ow (x.map aI)))) L
 have P:=XE n.mp.hn ∅ ∅ ne M
 have Q:=Vu n.mp.hn ∅ ∅ S
 rw[l1]at P;rw[l2]at Q;exact⟨put,(K23.done_eq _).trans O,Q9 q1 s O P Q,QL put⟩
def aaQ(n:Gd N)(hF:N.flatten.length<=126)(G:z∉N.flatten)(L:-z∉N.flatten)(ne:z ≠ -z)(q1:rQ d1)(x:rQ d2)(B:Cg N z d1=some H)(E:Cg H (-z) d2=some l):Xt N (gm l) z d1 d2/\Gd (gm l)/\(gm l).flatten.length<=N.flatten.length+2/\(gm l).length=N.length:=by
 have ln:=n.ln;obtain⟨I,l1⟩:=K21.zX q1 B;obtain⟨M,l2⟩:=K21.zX x E;have pm:=M.trans (I.cons _);have O:-z∉H.flatten:=λq=>by
  rcases ah.mp (I.mem_iff.mp q)with q|q
  .exact ne q.symm
  .exact L q
 have t:=I.nodup_iff.mpr (ak.mpr ⟨G,n.mp.hn⟩);have s:=M.nodup_iff.mpr (ak.mpr ⟨O,t⟩);have Q:=uk (uI s);have J:=Q.trans pm;have fl:(gm l).flatten.length=N.flatten.length+2:=by rw[J.length_eq];rfl
 have R:(gm l).length=N.length:=by rw[Ab,lMq];lia
 have P:Gd (gm l):=by
  refine⟨⟨OZ s,by lia,by lia,λe S=>J.mem_iff.mpr ?_⟩,uI s,by lia,?_⟩
  .have:=J.mem_iff.mp S;simp only[ah]at this ⊢;rcases this with q|q|q
   .exact .inr (.inl ∅)
   .exact .inl ∅
   .exact .inr (.inr (n.mp.hneg e q))
  .rw[K25.Kj l];exact aZ (aZ (Ge x t E) (Ge q1 n.mp.hn B)) n.br
 obtain⟨w,u,T,U,X,Y⟩:=acR q1 x n.mp.hn G L ne B E;have eN:gm (C z (gm l))=N:=by
  rw[JW s];have f1:=(M9 q1 n.mp.hn G B).2;have f2:=(M9 x t O E).2;have:C z l=N:=by
   rw[←f1,←f2,mPq];refine mCq λr _=>?_
   show r.filter _=(r.filter _).filter _;rw[List.filter_filter];congr 1;funext y
   by_cases a:y=z <;> by_cases b:y = -z <;> simp[a,b]
  rw[this];exact n.go
 exact⟨TC n P q1 x G ne ∅ ∅ B E rfl eN T U X Y,P,by lia,R⟩
def Y1(l:Gd W)(G:W.flatten.length<=128)(hb:bare (C z W)<=128)(ne:z ≠ -z)(t:Rt W z w)(B:Rt W (-z) u):Xt (gm (C z W)) W z (xo (w.filter λy=>decide (y ≠ -z))) (xo u)/\Gd (gm (C z W))/\(gm (C z W)).flatten.length<=W.flatten.length/\(gm (C z W)).length=W.length:=by
 have ln:=l.ln;have s:=l.mp.hn.sublist (aaU z W);have n:=uk (uI s);have H:(gm (C z W)).flatten.length<=W.flatten.length:=by rw[n.length_eq];exact(aaU z W).length_le
 have I:(gm (C z W)).length=W.length:=by rw[Ab,lMq];exact lMq ..
 have mem:∀x,x∈(C z W).flatten↔x∈W.flatten/\x≠z/\x ≠ -z:=λx=>by
  rw[K23.aaP];unfold wA;rw[eB];simp
 have E:Gd (gm (C z W)):=by
  refine⟨⟨OZ s,by lia,by lia,λe J=>n.mem_iff.mpr ?_⟩,uI s,by lia,?_⟩
  .obtain⟨a,b,c⟩:=(mem e).mp (n.mem_iff.mp J);exact(mem _).mpr ⟨l.mp.hneg e a,by lia,by lia⟩
  .rw[K25.Kj _];exact hb
 obtain⟨O,P,L,M,g⟩:=aev l.mp.hn ne t B;exact⟨TC E l (FQ _) (FQ _) (λq=>((mem z).mp (n.mem_iff.mp q)).2.1 rfl) ne G ∅ L M (g.trans l.go) rfl t B rfl rfl,E,H,I⟩
end K26
namespace K26
open PySem L2 Mr Z Xe Zl
open K25 (Rt)
open K21 (Cg rQ pz wr Xq)
open K22 (Ref qz)
open K23 (C wA cz)
noncomputable abbrev dz(z:Int):D:=.ins "Draw" [("road", .int z)]
section
variable {X:Λ}
def GE:K25.wc [dz z]=some (.sh (cz z)):=by
 rfl
def Yi:Ag [cz z]=some (.sh (dz z)):=by
 rfl
def abv(q1:rQ d1)(l:rQ d2):yB [pz z d1 d2]=some (.sh (qz z d1 d2)):=by
 have n:=mk3 (c:= "Part") (S:=[some (.sh (pz z d1 d2))]) (a:=oK (vJ (uC "Put" "road") (oH 0)) (oK (vJ (uC "Put" "first") (oH 0)) (oK (vJ (uC "Put" "second") (oH 0)) ph))) q1 l (by rfl)
 simp_arith [yB,GK,n]
def Ud(q1:rQ d1)(l:rQ d2)(n:K15.sQ [dM M]=some (.ow (L.map aI)))(s:K21.pZ [pz z d1 d2,dM L]=some (.ok (.ow (W.map aI))))(t:K15.sQ [dM W]=some (.ow (X.map aI))):K22.tU [qz z d1 d2,dM M]=some (.ok (.ow (X.map aI))):=by
 have i1:=K21.ip1 (z:=z) (d1:=d1) (d2:=d2);have u:=K22.iq4 (z:=z) (d1:=d1) (d2:=d2);have x:=K22.Fq (z:=z) q1 l;have B:=va L;have E:=va W;have G:K22.ud [qz z d1 d2,dM M]=some (.ok (.ow (X.map aI))):=by
  simp_arith [K22.ud,K22.xH,wg,u,x,i1,n,B,s,E,t]
 simp_arith [K22.tU,K22.BP,G]
def ac1(q1:rQ d1)(l:rQ d2)(n:K15.sQ [dM M]=some (.ow (L.map aI)))(s:K21.pZ [pz z d1 d2,dM L]=some (.ex k es)):K22.tU [qz z d1 d2,dM M]=some (.ex k es):=by
 have i1:=K21.ip1 (z:=z) (d1:=d1) (d2:=d2);have t:=K22.iq4 (z:=z) (d1:=d1) (d2:=d2);have u:=K22.Fq (z:=z) q1 l;have x:=va L;have B:K22.ud [qz z d1 d2,dM M]=some (.ex k es):=by
  simp_arith [K22.ud,K22.xH,wg,t,u,i1,n,x,s]
 simp_arith [K22.tU,K22.BP,B]
def PX(q1:rQ d1)(l:rQ d2)(n:K15.sQ [dM M]=some (.ow (L.map aI)))(s:K22.rh [pz z d1 d2,dM L]=some (.ok (.sh (cz z)))):tX [qz z d1 d2,dM M]=some (.ok (.sh (dz z))):=by
 have t:=K22.ip2 (z:=z) (d1:=d1) (d2:=d2);have u:=K22.iq4 (z:=z) (d1:=d1) (d2:=d2);have x:=K22.Fq (z:=z) q1 l;have co:=Yi (z:=z);have i5:Ae "Cut" "other" (.sh (cz z))=some (cz z):=by rfl
 have B:=va L;have E:uf [qz z d1 d2,dM M]=some (.ok (.sh (dz z))):=by
  simp_arith [uf,xI,OE,wg,u,x,t,n,B,s,i5,co]
 simp_arith [tX,BL,E]
def XR(q1:rQ d1)(l:rQ d2)(n:K15.sQ [dM M]=some (.ow (L.map aI)))(s:K22.rh [pz z d1 d2,dM L]=some (.ex k es)):tX [qz z d1 d2,dM M]=some (.ex k es):=by
 have t:=K22.ip2 (z:=z) (d1:=d1) (d2:=d2);have u:=K22.iq4 (z:=z) (d1:=d1) (d2:=d2);have x:=K22.Fq (z:=z) q1 l;have B:=va L;have E:uf [qz z d1 d2,dM M]=some (.ex k es):=by
  simp_arith [uf,xI,OE,wg,u,x,t,n,B,s]
 simp_arith [tX,BL,E]
def UN(l:K15.sQ [dM M]=some (.ow (L.map aI)))(n:K23.rO [cz z,dM L]=some (.ok (.ow (W.map aI))))(s:K15.sQ [dM W]=some (.ow (X.map aI))):K25.tW [dz z,dM M]=some (.ok (.ow (X.map aI))):=by
 have i1:=K23.in1 z;have t:Ae "Draw" "other" (.sh (dz z))=some (dz z):=by rfl
 have u:=GE (z:=z);have x:=va L;have B:=va W;have E:K25.xn [dz z,dM M]=some (.ok (.ow (X.map aI))):=by
  simp_arith [K25.xn,K25.B1,wg,t,u,i1,l,x,n,B,s]
 simp_arith [K25.tW,K25.Cc,E]
def ad4(l:K15.sQ [dM M]=some (.ow (L.map aI)))(n:K23.rO [cz z,dM L]=some (.ex k es)):K25.tW [dz z,dM M]=some (.ex k es):=by
 have i1:=K23.in1 z;have s:Ae "Draw" "other" (.sh (dz z))=some (dz z):=by rfl
 have t:=GE (z:=z);have u:=va L;have x:K25.xn [dz z,dM M]=some (.ex k es):=by
  simp_arith [K25.xn,K25.B1,wg,s,t,i1,l,u,n]
 simp_arith [K25.tW,K25.Cc,x]
def Pb(q1:rQ d1)(l:rQ d2)(n:K15.sQ [dM M]=some (.ow (L.map aI)))(s:sF [cz z,dM L]=some (.ok (.sh (pz z d1 d2)))):tT [dz z,dM M]=some (.ok (.sh (qz z d1 d2))):=by
 have t:=K23.in2 z;have u:Ae "Draw" "other" (.sh (dz z))=some (dz z):=by rfl
 have x:=GE (z:=z);have po:=abv (z:=z) q1 l;have i5:Ae "Put" "other" (.sh (pz z d1 d2))=some (pz z d1 d2):=by rfl
 have B:=va L;have E:ue [dz z,dM M]=some (.ok (.sh (qz z d1 d2))):=by
  simp_arith [ue,xR,OE,wg,u,x,t,n,B,s,i5,po]
 simp_arith [tT,B7,E]
def YE(l:K15.sQ [dM M]=some (.ow (L.map aI)))(n:sF [cz z,dM L]=some (.ex k es)):tT [dz z,dM M]=some (.ex k es):=by
 have s:=K23.in2 z;have t:Ae "Draw" "other" (.sh (dz z))=some (dz z):=by rfl
 have u:=GE (z:=z);have x:=va L;have B:ue [dz z,dM M]=some (.ex k es):=by
  simp_arith [ue,xR,OE,wg,t,u,s,l,x,n]
 simp_arith [tT,B7,B]
def dq a b(h:decide (a=b)=false):CI (.str a) (.str b)=some (.bl false):=by rw[GF,h]
def dt a:CI (.str a) (.str a)=some (.bl true):=by rw[GF,d0 rfl]
def q0(a:D)l:atI (a::l) 0=some a:=yr rfl
def q1(a b:D)l:atI (a::b::l) 1=some b:=yr rfl
def acC:ve [x,.tup (.str "put" :: .int z::l)]=some (.sh (.tup [.str "cut", .int z])):=by
 have a:=dt "put"
 simp_arith [ve,zF,uS,q0,q1,a]
def abn:ve [x,.tup (.str "part" :: .int z::l)]=some (.sh (.tup [.str "draw", .int z])):=by
 have a:=dt "part";have b:=dq "part" "put" rfl
 simp_arith [ve,zF,uS,q0,q1,a,b]
def acF(h:qu [x,.int z]=some (.sh (.tup [.int z,d1,d2]))):ve [x,.tup [.str "cut", .int z]]=some (.sh (.tup [.str "put", .int z,d1,d2])):=by
 have a:=dt "cut";have b:=dq "cut" "put" rfl;have c:=dq "cut" "part" rfl;have l:(([D.str "put"]≠[]/\[D.int z,d1,d2]≠[])/\[D.str "put"].length+[D.int z,d1,d2].length<=tH):=⟨⟨by simp,by simp⟩,by show 1+3<=16777216;decide⟩
 have k:Mx (wz (oE (kSc (rC (.str "put"))) oV)) (pJ qu (oE (oW 0) (oE (kSc (qe vk (oH 1) (rC (.int 1)))) oV))) [some (.sh x),some (.sh (.tup [.str "cut", .int z]))]=some (.sh (.tup [.str "put", .int z,d1,d2]),[some (.sh x),some (.sh (.tup [.str "cut", .int z]))]):=by
  have n:wz (oE (kSc (rC (.str "put"))) oV) [some (.sh x),some (.sh (.tup [.str "cut", .int z]))]=some (.sh (.tup [.str "put"]),[some (.sh x),some (.sh (.tup [.str "cut", .int z]))]):=by simp_arith []
  have s:pJ qu (oE (oW 0) (oE (kSc (qe vk (oH 1) (rC (.int 1)))) oV)) [some (.sh x),some (.sh (.tup [.str "cut", .int z]))]=some (.sh (.tup [.int z,d1,d2]),[some (.sh x),some (.sh (.tup [.str "cut", .int z]))]):=by simp_arith [uS,q1,h]
  rw[Ym,n];show((pJ qu _ _).bind _)=_;rw[s];exact wI l _
 simp_arith [ve,zF,uS,q0,a,b,c,k]
def YB(l:K15.wa [x]=some (.ow (L.map aI)))(h:qu [dM L,.int z]=some (.sh (.tup [.int z,d1,d2]))):ve [x,.tup [.str "draw", .int z]]=some (.sh (.tup [.str "part", .int z,d1,d2])):=by
 have a:=dt "draw";have b:=dq "draw" "put" rfl;have c:=dq "draw" "part" rfl;have d:=dq "draw" "cut" rfl;have n:=va L;have s:(([D.str "part"]≠[]/\[D.int z,d1,d2]≠[])/\[D.str "part"].length+[D.int z,d1,d2].length<=tH):=⟨⟨by simp,by simp⟩,by show 1+3<=16777216;decide⟩
 have k:Mx (wz (oE (kSc (rC (.str "part"))) oV)) (pJ qu (oE (pJ K15.wa (oE (oW 0) oV)) (oE (kSc (qe vk (oH 1) (rC (.int 1)))) oV))) [some (.sh x),some (.sh (.tup [.str "draw", .int z]))]=some (.sh (.tup [.str "part", .int z,d1,d2]),[some (.sh x),some (.sh (.tup [.str "draw", .int z]))]):=by
  have t:wz (oE (kSc (rC (.str "part"))) oV) [some (.sh x),some (.sh (.tup [.str "draw", .int z]))]=some (.sh (.tup [.str "part"]),[some (.sh x),some (.sh (.tup [.str "draw", .int z]))]):=by simp_arith []
  have u:pJ qu (oE (pJ K15.wa (oE (oW 0) oV)) (oE (kSc (qe vk (oH 1) (rC (.int 1)))) oV)) [some (.sh x),some (.sh (.tup [.str "draw", .int z]))]=some (.sh (.tup [.int z,d1,d2]),[some (.sh x),some (.sh (.tup [.str "draw", .int z]))]):=by
   simp_arith [uS,q1,l,n,h]
  rw[Ym,t];show((pJ qu _ _).bind _)=_;rw[u];exact wI s _
 simp_arith [ve,zF,uS,q0,a,b,c,d,k]
def V2:ve [x,.tup [.str "found"]]=some (.sh (.tup [.str "raze"])):=by
 have a:=dt "found";have b:=dq "found" "put" rfl;have c:=dq "found" "part" rfl;have d:=dq "found" "cut" rfl;have e:=dq "found" "draw" rfl
 simp_arith [ve,zF,uS,q0,a,b,c,d,e]
def aa1:ve [x,.tup [.str "raze"]]=some (.sh (.tup [.str "found"])):=by
 have a:=dq "raze" "found" rfl;have b:=dq "raze" "put" rfl;have c:=dq "raze" "part" rfl;have d:=dq "raze" "cut" rfl;have e:=dq "raze" "draw" rfl
 simp_arith [ve,zF,uS,q0,a,b,c,d,e]
end
end K26
namespace K24
open PySem L2 Mr Z Xe
def mf_settled:MX:=(wV (yX Zl.rL (oE (oW 0) oV))
 (Dp (qh (pJ Zl.su (oE (oW 0) oV)))))
def f_settled:vH:=uH 1 1 mf_settled
def mf_with_place:MX:=(D9 K24.f_settled (oE (D7 (lOf (sZ (oE (sZ oV) oV))) (C0 0)) oV))
def f_with_place:vH:=uH 1 1 mf_with_place
def mf_without_place:MX:=(wV (TY (tJ (aaq true (oH 0))) (BE "NoPlace") (Dp pX))
 (wV (Dp (pR 1 (kSc (Pw (oH 0)))))
 (Dp (qh (pJ Zl.su (oE (D7 (lOf (Py (wj 0) zb (yd (oH 1)))) (lOf (Py (wj 0) (yd (qe yN (oH 1) (rC (.int 1)))) zb))) oV))))))
def f_without_place:vH:=uH 1 2 mf_without_place
end K24
namespace K24
open PySem L2 Mr Z Xe Zl
abbrev fo:D:=.ins "Found" []
abbrev rz:D:=.ins "Raze" []
def i1:Ae "Found" "done" (.sh fo)=some fo:=by rfl
def i5:Ae "Raze" "done" (.sh rz)=some rz:=by rfl
def mkF S:zP "Found" [] ph S=some (.sh fo,S):=by rfl
def mkR S:zP "Raze" [] ph S=some (.sh rz,S):=by rfl
structure Go (M:Λ):Prop where
 gd:∀r∈M,good r=r
 so:M.Pairwise (λx y=>HT.vn y x=false)
 fl:M.flatten.length<=128
 le:M.length<=500
theorem Go.map(h:Go M):M.map good=M:=(mCq h.gd).trans (du _)
def good_nil:good []=[]:=by rfl
def UB r:HT.vn r []=false:=by cases r <;> rfl
def Go.more(h:Go M):A7 (([]::M).map good)=[]::M:=by
 rw[aw,h.map,good_nil];exact(J6 (.refl _) (cf.mpr ⟨λr _=>UB r,h.so⟩)).symm
def Go.less(h:Go M)(hm:[]∈M):∃N,M=[]::N/\A7 (N.map good)=N:=by
 cases M with
 |nil=>cases hm
 |cons r N=>
  obtain⟨l,n⟩:=cf.mp h.so;have hr:r=[]:=by
   rcases ah.mp hm with e|e
   .exact e.symm
   .have:=l _ e;cases r with
    |nil=>rfl
    |cons x s=>cases this
  subst hr;refine⟨N,rfl,?_⟩;have e:N.map good=N:=(mCq λr hr=>h.gd r (mCo _ hr)).trans (du _)
  rw[e];exact(J6 (.refl _) n).symm
section
variable {M:Λ}
def Xw:bare ([]::M)=bare M+1:=by
 unfold bare;rw[dk];simp
def acw(h:Go M):f_with_place [dM M]=some (if bare M<=127 then .ok (.ow (([]::M).map aI))else .ex "TooMany" []):=by
 have t:([]::M).flatten.length<=128:=by simpa using h.fl
 have hl:=h.le;have n:=Su (rs:=[]::M) ∅
 have s:=uQ (rs:=[]::M) (λr hr=>by have:=Cf hr;lia) (uL (by rw[lCq];lia))
 rw[h.more]at s;have l1:1+M.length<=tH:=uL ∅
 have q:D.list []::M.map dI=([]::M).map dI:=rfl
 by_cases c:bare M<=127
 .rw[qf ⟨t,by rw[Xw];lia⟩]at n
  rw[qf c];have l:f_settled [dM ([]::M)]=some (.ok (.ow (([]::M).map aI))):=by
   generalize []::M=W at *
   simp_arith [f_settled,mf_settled,n,s]
  rw[dM,←q]at l
  simp_arith [f_with_place,mf_with_place,l1,l]
 .rw[qj (by rw[Xw];lia)]at n
  rw[qj c];have l:f_settled [dM ([]::M)]=some (.ex "TooMany" []):=by
   generalize []::M=W at *
   simp_arith [f_settled,mf_settled,n]
  rw[dM,←q]at l
  simp_arith [f_with_place,mf_with_place,l1,l]
def agk(h:[]∉M):f_without_place [dM M]=some (.ex "NoPlace" []):=by
 have l:decide (([]:Ϝ)∈M)=false:=d4 h
 simp_arith [f_without_place,mf_without_place,TQ,l]
def acM{N:Λ}(h:Go ([]::N))(n:A7 (N.map good)=N):f_without_place [dM ([]::N)]=some (.ok (.ow (N.map aI))):=by
 have s:decide (([]:Ϝ)∈[]::N)=true:=by simp
 have hm:([]:Ϝ)∈[]::N:=by simp
 have t:([]::N).idxOf ([]:Ϝ)=0:=by simp
 have hl:=h.le;have z:N.flatten.length<=128:=h.fl;rw[lCq]at hl;have u:yw (([]::N).map dI) none (some ((0:Nat):Int))=[]:=by rw[FN _ 0 (bb _)];rfl
 have x:yw (([]::N).map dI) (some (((0:Nat):Int)+1)) none=N.map dI:=by
  have:=DX (([]::N).map dI) 1 ⋯
  exact this
 have l1:N.length<=tH:=uL ∅
 have l:=uQ (rs:=N) (λr hr=>by have:=Cf hr;lia) l1
 rw[n]at l;generalize []::N=W at *
 simp_arith [f_without_place,mf_without_place,TQ,s,aae,hm,t,u,x,l1,l]
end
end K24
namespace K26
open PySem L2 Mr Z Xe Zl
open K25 (Rt)
open K21 (Cg rQ pz wr Xq)
open K22 (Ref qz)
open K23 (C wA cz)
open K24 (fo rz Go)
def cP:W1 "Put" [("road", .int z),("first", d1),("second", d2)] K21.pZ K22.rh K21.wU:=⟨.put,rfl,rfl,rfl⟩
def cC:W1 "Cut" [("road", .int z)] K23.rO sF K22.wX:=⟨.cut,rfl,rfl,rfl⟩
def cQ:W1 "Part" [("road", .int z),("first", d1),("second", d2)] K22.tU tX vP:=⟨.part,rfl,rfl,rfl⟩
def cD:W1 "Draw" [("road", .int z)] K25.tW tT K25.vM:=⟨.draw,rfl,rfl,rfl⟩
def cF:W1 "Found" [] sX uE vd:=⟨.found,rfl,rfl,rfl⟩
def cR:W1 "Raze" [] rY tV vQ:=⟨.raze,rfl,rfl,rfl⟩
def tQ(l:rQ d1)(n:rQ d2):vP [qz z d1 d2]=some (.sh (.tup [.str "part", .int z,d1,d2])):=by
 have a:=K22.gl1 (z:=z) (d1:=d1) (d2:=d2);have b:=K22.gl2 (z:=z) (d1:=d1) (d2:=d2);have c:=K22.gl3 (z:=z) (d1:=d1) (d2:=d2);rcases l with rfl|⟨s,rfl⟩ <;> rcases n with rfl|⟨t,rfl⟩ <;> simp_arith [vP,FT,a,b,c]
def tD:K25.vM [dz z]=some (.sh (.tup [.str "draw", .int z])):=by
 have a:uC "Draw" "road" (dz z)=some (.int z):=by rfl
 simp_arith [K25.vM,K25.Fu,a]
def tF:vd [fo]=some (.sh (.tup [.str "found"])):=by simp_arith [vd,Ee]
def tR:vQ [rz]=some (.sh (.tup [.str "raze"])):=by simp_arith [vQ,Gf]
def pl4(l:rQ d1)(n:rQ d2):K21.plain 4 (.tup [.str w,.int z,d1,d2]):=⟨by show 4<1000000;decide,λd hd=>by
 have k:∀{d:D},rQ d->K21.plain 3 d:=λ{d} h=>by rcases h with rfl|⟨s,rfl⟩ <;> trivial
 simp only[ah,dY,or_false]at hd;rcases hd with rfl|rfl|rfl|rfl
 .trivial
 .trivial
 .exact k l
 .exact k n⟩
def pl2:K21.plain 4 (.tup [.str w,.int z]):=⟨by show 2<1000000;decide,λd hd=>by
 simp only[ah,dY,or_false]at hd;rcases hd with rfl|rfl <;> trivial⟩
def pl1:K21.plain 4 (.tup [.str w]):=⟨by show 1<1000000;decide,λd hd=>by
 simp only[ah,dY,or_false]at hd;rcases hd with rfl;trivial⟩
def YT(g:Gd M)(B:M.flatten.length<=126)(n:z∉M.flatten)(E:-z∉M.flatten)(ne:z ≠ -z)(q1:rQ d1)(l:rQ d2):(∃k s w y,K21.pZ [pz z d1 d2,dM M]=some (.ex k s)/\K22.rh [pz z d1 d2,dM M]=some (.ex k s)/\Ref k s w y)∨∃W,Xt M W z d1 d2/\Gd W/\W.flatten.length<=M.flatten.length+2/\W.length=M.length:=by
 have ln:=g.ln;have hd:K21.pZ [pz z d1 d2,dM M]=some (wr M z d1 d2):=(K21.done_eq q1 l _).trans (K21.FI g.mp.hn ∅ ∅ q1 l)
 cases t:Cg M z d1 with
 |none=>
  obtain⟨c,fs,w,y,u,G,r⟩:=K22.ref_ex q1;have h:wr M z d1 d2 = .ex c fs:=by
   unfold wr;rw[qj n];simp only[t];exact u
  rw[h]at hd;exact .inl ⟨c,fs,w,y,hd,(K22.QM r hd).1,r⟩
 |some H=>
  cases x:Cg H (-z) d2 with
  |none=>
   obtain⟨c,fs,w,y,u,G,r⟩:=K22.ref_ex l;have h:wr M z d1 d2 = .ex c fs:=by
    unfold wr;rw[qj n];simp only[t,x];exact u
   rw[h]at hd;exact .inl ⟨c,fs,w,y,hd,(K22.QM r hd).1,r⟩
  |some I=>exact .inr ⟨_,aaQ g B n E ne q1 l t x⟩
def YO(g:Gd M)(n:M.flatten.length<=126)(s:z∉M.flatten)(t:-z∉M.flatten)(ne:z ≠ -z)(q1:rQ d1)(u:rQ d2):Qz M (pz z d1 d2) K21.pZ K22.rh (.tup [.str "put", .int z,d1,d2]):=by
 rcases YT g n s t ne q1 u with h|⟨W,P,x,l,_⟩
 .exact .inl h
 .have:=x.ln;exact .inr ⟨W,_,_,_,_,_,_,cC,⟨by lia,by lia⟩,P.put,P.pback,⟨K22.Zh,pl2⟩,acC,P.cut,P.cback⟩
def Yh(g:Gd M)(E:M.flatten.length<=126)(hb:bare (C z M)<=128)(ne:z ≠ -z):(∃k n w y,K23.rO [cz z,dM M]=some (.ex k n)/\sF [cz z,dM M]=some (.ex k n)/\Ref k n w y)∨∃N d1 d2,Xt N M z d1 d2/\Gd N/\(N.flatten.length<=M.flatten.length/\N.length=M.length)/\rQ d1/\rQ d2/\qu [dM M,.int z]=some (.sh (.tup [.int z,d1,d2])):=by
 by_cases s:z∈M.flatten
 .obtain⟨w,t⟩:=Rt.of s;obtain⟨u,x⟩:=Rt.of (g.mp.hneg z s);obtain⟨P,B,l⟩:=Y1 g ∅ hb ne t x
  exact .inr ⟨_,_,_,P,B,l,FQ _,FQ _,VJ g.mp ∅ ne t x⟩
 .have h:=K23.X3 ∅ s
  have e:=K23.ref_ex h;refine .inl ⟨_,_,_,_,(K23.done_eq _).trans h,?_,⟨by trivial,K23.Ku z⟩⟩
  simp_arith [sF,Df,e]
def ZT(g:Gd M)(s:M.flatten.length<=126)(hb:bare (C z M)<=128)(ne:z ≠ -z):Qz M (cz z) K23.rO sF (.tup [.str "cut", .int z]):=by
 rcases Yh g s hb ne with h|⟨N,d1,d2,P,t,⟨l,_⟩,q1,n,hd⟩
 .exact .inl h
 .have:=t.ln;exact .inr ⟨N,_,_,_,_,_,_,cP,⟨by lia,by lia⟩,P.cut,P.cback,⟨K21.UT q1 n,pl4 q1 n⟩,acF hd,P.put,P.pback⟩
def aek(g:Gd M)(hl:M.length+M.flatten.length<=700):∃L,K15.sQ [dM M]=some (.ow (L.map aI))/\K15.sQ [dM L]=some (.ow (M.map aI))/\Gd L/\L.flatten.Perm M.flatten/\bare L=bare M/\K15.wa [dM M]=some (.ow (L.map aI))/\L.length<=M.length+M.flatten.length:=by
 obtain⟨L,u,m,E,p,s,c,l⟩:=K16.aaZ g.mp ∅
 obtain⟨G,n,H,_⟩:=K15.SD g.mp;have t:=E.trans (congrArg (λx=>some (AV.ow (x.map aI))) g.go)
 have I:(L.map aI)=G.map aI:=by
  rw[u]at n;injection n with n
  injection n
 have B:bare L=bare M:=by rw[K25.FJ,K25.FJ,c]
 refine⟨L,u,t,⟨m,s,by lia,by rw[B];exact g.br⟩,p,B,by rw[H,I],l⟩
def afp(hn:M.flatten.Nodup)(ne:z ≠ -z):bare (C z M)<=bare M+3:=by
 have l:∀{r:Ϝ}{a:Int},a∈r->M.count r<=1:=λ{r a} h=>aZ (K25.aa3 h M) (iV.mp hn a)
 have n:M.count [z, -z]+M.count [-z,z]<=1:=aZ (K25.Ul (λq=>ne (by injection q)) ⋯ ⋯ M) (iV.mp hn z)
 have a:=l (r:=[z]) (a:=z) ⋯
 have b:=l (r:=[-z]) (a:=-z) ⋯
 have:=K25.O0 ne λr hr=>hn.sublist (ax hr)
 have e:bare (C z M)=_:=this;lia
def Vj(g:Gd M)(R:M.flatten.length<=126)(hl:M.length<=128)(u:z∉M.flatten)(x:-z∉M.flatten)(ne:z ≠ -z)(q1:rQ d1)(n:rQ d2):Qz M (qz z d1 d2) K22.tU tX (.tup [.str "part", .int z,d1,d2]):=by
 obtain⟨L,s,B,E,p,_,_,S⟩:=aek g ∅
 have T:=p.length_eq;rcases YT E ∅ (λq=>u (p.mem_iff.mp q)) (λq=>x (p.mem_iff.mp q)) ne q1 n with⟨k,G,w,y,H,I,r⟩|⟨W,P,J,l,U⟩
 .exact .inl ⟨k,G,w,y,ac1 q1 n s H,XR q1 n s I,r⟩
 .obtain⟨X,O,t,Y,Q,_,_,lx⟩:=aek J ∅
  have:=Q.length_eq;exact .inr ⟨X,_,_,_,_,_,_,cD,⟨by lia,by lia⟩,Ud q1 n s P.put O,PX q1 n s P.pback,⟨tD,pl2⟩,abn,UN t P.cut B,Pb q1 n t P.cback⟩
def Xd(g:Gd M)(Q:M.flatten.length<=126)(hl:M.length<=128)(hb:bare M<=125)(ne:z ≠ -z):Qz M (dz z) K25.tW tT (.tup [.str "draw", .int z]):=by
 obtain⟨L,s,x,t,p,bl,B,R⟩:=aek g ∅
 have S:=p.length_eq;have hn:=t.mp.hn;rcases Yh t ∅ (by have:=afp hn ne;lia) ne with⟨k,E,w,y,G,H,r⟩|⟨N,d1,d2,P,I,⟨l,T⟩,q1,n,hd⟩
 .exact .inl ⟨k,E,w,y,ad4 s G,YE s H,r⟩
 .obtain⟨X,J,u,U,O,_,_,Y⟩:=aek I ∅
  have:=O.length_eq;exact .inr ⟨X,_,_,_,_,_,_,cQ,⟨by lia,by lia⟩,UN s P.cut J,Pb q1 n s P.cback,⟨tQ q1 n,pl4 q1 n⟩,YB B hd,Ud q1 n u P.put x,PX q1 n u P.pback⟩
def go_of(g:Gd M)(l:M.flatten.length<=128)(hl:M.length<=500):Go M:=by
 have so:=B4 (M.map good);rw[show A7 (M.map good)=M from g.go]at so
 refine⟨λr hr=>?_,so,l,hl⟩
 have:=(uD (M.map good)).mem_iff.mp (by rw[show A7 (M.map good)=M from g.go];exact hr)
 obtain⟨t,ht,rfl⟩:=mMq.mp this;exact Lx t (g.mp.hn.sublist (ax ht))
def ajL:f_with_place=K24.f_with_place:=rfl
def op_eq:f_without_place=K24.f_without_place:=rfl
end K26
namespace K26
open PySem L2 Mr Z Xe Zl
open K22 (Ref)
open K24 (fo rz Go)
def afW(h:f_with_place [x]=some (.ok a)):sX [fo,x]=some (.ok a)/\uE [fo,x]=some (.ok (.sh rz)):=by
 have i1:=K24.i1;have n:=K24.mkR;have l:sX [fo,x]=some (.ok a):=by simp_arith [sX,Ef,h]
 have s:tP [fo,x]=some (.ok (.sh .non)):=by simp_arith [tP,xj,wg,i1,l]
 refine⟨l,?_⟩
 simp_arith [uE,Ec,s,n]
def aff(h:f_without_place [x]=some (.ok a)):rY [rz,x]=some (.ok a)/\tV [rz,x]=some (.ok (.sh fo)):=by
 have i5:=K24.i5;have n:=K24.mkF;have l:rY [rz,x]=some (.ok a):=by simp_arith [rY,Ce,h]
 have s:rZ [rz,x]=some (.ok (.sh .non)):=by simp_arith [rZ,vf,wg,i5,l]
 refine⟨l,?_⟩
 simp_arith [tV,Cq,s,n]
def akD(h:f_without_place [x]=some (.ex k es)):rY [rz,x]=some (.ex k es)/\tV [rz,x]=some (.ex k es):=by
 have i5:=K24.i5;have l:rY [rz,x]=some (.ex k es):=by simp_arith [rY,Ce,h]
 have n:rZ [rz,x]=some (.ex k es):=by simp_arith [rZ,vf,wg,i5,l]
 refine⟨l,?_⟩
 simp_arith [tV,Cq,n]
def HE(g:Go M)(hb:bare M<=125)(l:gm M=M)(hl:M.length<=400):f_with_place [dM M]=some (.ok (.ow (([]::M).map aI)))/\f_without_place [dM ([]::M)]=some (.ok (.ow (M.map aI))):=by
 refine⟨?_,?_⟩
 .rw[ajL,K24.acw g,qf ∅]
 .have n:Go ([]::M):=⟨λr hr=>by
   rcases ah.mp hr with rfl|hr
   .rfl
   .exact g.gd r hr,cf.mpr ⟨λr _=>K24.UB r,g.so⟩,by simpa using g.fl,by simp;lia⟩
  exact K24.acM n l
def Sz(g:Gd M)(l:M.flatten.length<=128)(hl:M.length<=400)(hb:bare M<=125):Qz M fo sX uE (.tup [.str "found"]):=by
 obtain⟨n,s⟩:=HE (go_of g l ∅) hb g.go hl
 obtain⟨t,u⟩:=afW n;obtain⟨b1,b2⟩:=aff s;exact .inr ⟨[]::M,_,_,_,_,_,_,cR,⟨by simp;lia,by show M.flatten.length<=1000;lia⟩,t,u,⟨tR,pl1⟩,V2,b1,b2⟩
def Wr(g:Gd M)(l:M.flatten.length<=128)(hl:M.length<=400)(hb:bare M<=125):Qz M rz rY tV (.tup [.str "raze"]):=by
 have go:=go_of g l ∅
 by_cases hm:[]∈M
 .obtain⟨N,rfl,t⟩:=go.less hm;have u:Go N:=⟨λr hr=>go.gd r (mCo _ hr),(cf.mp go.so).2,by simpa using l,by simp at hl;lia⟩
  have z:bare N<=125:=by have:=K24.Xw (M:=N);lia
  obtain⟨B,E⟩:=HE u z t (by simp at hl;lia)
  obtain⟨n,s⟩:=afW B;obtain⟨b1,b2⟩:=aff E;exact .inr ⟨N,_,_,_,_,_,_,cF,⟨by simp at hl;lia,by have:N.flatten.length<=128:=l;lia⟩,b1,b2,⟨tF,pl1⟩,aa1,n,s⟩
 .have h:f_without_place [dM M]=some (.ex "NoPlace" []):=by rw[op_eq];exact K24.agk hm
  obtain⟨n,s⟩:=akD h;exact .inl ⟨_,_,_,_,n,s,⟨by trivial,K22.Ji⟩⟩
end K26
namespace K26
open PySem L2 Mr Z Xe Zl
open K21 (rQ pz)
open K22 (qz)
open K23 (cz)
open K24 (fo rz)
inductive Wd (z:Int):D->Prop
 |found:Wd z (.tup [.str "found"])
 |raze:Wd z (.tup [.str "raze"])
 |cut {y:Int}:0<y->Wd z (.tup [.str "cut", .int y])
 |draw {y:Int}:0<y->Wd z (.tup [.str "draw", .int y])
 |put {d1 d2:D}:rQ d1->rQ d2->Wd z (.tup [.str "put", .int z,d1,d2])
 |part {d1 d2:D}:rQ d1->rQ d2->Wd z (.tup [.str "part", .int z,d1,d2])
def ab6(E:Ϝ):uF (tJ (qe dGt (oH 0) (rC (.int 0)))) (oW 0) [] (E.map D.int)=some ((E.filter λe=>decide (0<e)).map λn=>.sh (.int n)):=by
 rw[Z.vK (λd=>match d with|.int e=>decide (0<e)|_=>false) (λd=>.sh d)]
 .exact congrArg some (K23.NU E λe=>decide (0<e))
 .intro d hd;obtain⟨e,_,rfl⟩:=mMq.mp hd;refine⟨[i0 e],?_,λ_=>⟨[i0 e],?_⟩⟩
  .simp_arith []
  .simp_arith []
def Tf{l:List α}(hl:l≠[])i:∃x∈l,atI l (i % (l.length:Int))=some x:=by
 have n:0<(l.length:Int):=by have:=eT.mpr hl;lia
 have a:=bH i (by lia:(l.length:Int)≠0)
 have b:=bF i n;have k:(i % (l.length)).toNat<l.length:=by lia
 exact⟨l[(i % (l.length)).toNat],gRq k,by rw[NZ a,gEg k]⟩
def abw(hz:0<z)(hE:E.length<=1000):∃wd,Wd z wd/\wtl [i0 c,v1,i0 z,v3,some (aI E),i0 mx,i0 bd,none,none,none,none,none]=some (.rt (.sh wd)):=by
 have u:=uT (i:=c) (j:=8) ⋯
 have t0:0<=c % 8:=bH _ ⋯
 have t8:c % 8<8:=bF _ ⋯
 generalize c % 8=t at u t0 t8;have J:=sm E
 by_cases O:t=6
 .subst O;refine⟨_,.found,?_⟩;have s:decide ((6:Int)=6)=true:=rfl
  simp_arith [wtl,u,s]
 .have s:decide (t=6)=false:=d4 O
  by_cases P:t=7
  .subst P;refine⟨_,.raze,?_⟩;have s:decide ((7:Int)=6)=false:=rfl;have B:decide ((7:Int)=7)=true:=rfl
   simp_arith [wtl,u,s,B]
  .have B:decide (t=7)=false:=d4 P
   by_cases Q:3<t
   .have H:decide (3<t)=true:=d0 Q;have L:=ab6 E;obtain⟨x,hx,ex⟩:=Tf (l:=(E.filter λe=>decide (0<e)).map D.int++[D.int z]) ⋯ mx
    obtain⟨y,I,rfl⟩:∃y:Int,0<y/\x = .int y:=by
     rcases mAq.mp hx with q|q
     .obtain⟨y,I,rfl⟩:=mMq.mp q;exact⟨y,of_decide_eq_true (eB.mp I).2,rfl⟩
     .exact⟨z,hz,mSq.mp q⟩
    have lR:(((E.filter λe=>decide (0<e)).map D.int++[D.int z]).length:Int)=(((E.filter λe=>decide (0<e)).length+1:Nat):Int):=by simp
    have M:=uT (i:=mx) (j:=(((E.filter λe=>decide (0<e)).map D.int++[D.int z]).length:Int)) ∅
    have l1:E.length<=tH:=uL ∅
    have l2:(E.filter λe=>decide (0<e)).length+1<=tH:=uL (by have:=dw (λe=>decide (0<e)) E;lia)
    generalize (E.filter λe=>decide (0<e))=R at L ex M l2 lR
    have S:(R.map λn=>AV.sh (.int n)).map pD=R.map D.int:=by rw[mPq];exact mCq λn _=>Ky _
    by_cases a4:t=4
    .subst a4;refine⟨_,.cut I,?_⟩;have G:atI [D.str "cut", D.str "draw"] ((4:Int)-4)=some (.str "cut"):=rfl
     simp_arith [wtl,u,s,B,H,J,dI,L,l1,l2,S,M,ex,G]
    .have a5:t=5:=by lia
     subst a5;refine⟨_,.draw I,?_⟩;have G:atI [D.str "cut", D.str "draw"] ((5:Int)-4)=some (.str "draw"):=rfl
     simp_arith [wtl,u,s,B,H,J,dI,L,l1,l2,S,M,ex,G]
   .have H:decide (3<t)=false:=d4 Q;obtain⟨w,hw,G⟩:∃w:Str,(w = "put" ∨ w = "part")/\atI [D.str "put", D.str "part", D.str "put", D.str "part"] t=some (.str w):=by
     rcases(by lia:t=0∨t=1∨t=2∨t=3)with rfl|rfl|rfl|rfl
     .exact⟨_,.inl rfl,rfl⟩
     .exact⟨_,.inr rfl,rfl⟩
     .exact⟨_,.inl rfl,rfl⟩
     .exact⟨_,.inr rfl,rfl⟩
    obtain⟨T,h1,x1⟩:=Tf (l:=E.map D.int++[D.non]) ⋯ mx
    obtain⟨U,h2,x2⟩:=Tf (l:=(E.map D.int++[D.non])++[D.int z]) ⋯ bd
    have q1:rQ T:=by
     rcases mAq.mp h1 with q|q
     .obtain⟨y,_,rfl⟩:=mMq.mp q;exact .inr ⟨y,rfl⟩
     .exact .inl (mSq.mp q)
    have X:rQ U:=by
     rcases mAq.mp h2 with q|q
     .rcases mAq.mp q with q|q
      .obtain⟨y,_,rfl⟩:=mMq.mp q;exact .inr ⟨y,rfl⟩
      .exact .inl (mSq.mp q)
     .exact .inr ⟨z,mSq.mp q⟩
    have L1:((E.map D.int++[D.non]).length:Int)=((E.length+1:Nat)):=by simp
    have L2:(((E.map D.int++[D.non])++[D.int z]).length:Int)=((E.length+1+1)):=by simp;lia
    have m1:=uT (i:=mx) (j:=((E.map D.int++[D.non]).length)) ∅
    have m2:=uT (i:=bd) (j:=(((E.map D.int++[D.non])++[D.int z]).length)) ∅
    have l1:E.length+1<=tH:=uL ∅
    have l2:(E.map D.int++[D.non]).length<tH:=YU ∅
    have aX:jT AV.sh (E.map D.int++[D.non])++[AV.sh (D.int z)]=jT AV.sh ((E.map D.int++[D.non])++[D.int z]):=by simp
    have Y:wtl [i0 c,v1,i0 z,v3,some (aI E),i0 mx,i0 bd,none,none,none,none,none]=some (.rt (.sh (.tup [.str w,.int z,T,U]))):=by
     simp_arith [wtl,u,s,B,H,J,dI,l1,l2,aX,m1,m2,x1,x2,G]
    rcases hw with rfl|rfl
    .exact⟨_,.put q1 X,Y⟩
    .exact⟨_,.part q1 X,Y⟩
end K26
namespace K26
open PySem L2 Mr Z Xe Zl
open K21 (rQ pz)
open K22 (qz)
open K23 (cz C)
open K24 (fo rz)
def words_ok(l:0<z)(B:M.flatten.length<=500):∃wd,Wd z wd/\zr [.int c,dM M,.int z,.bl b]=some (.sh wd):=by
 have ht:=By (rs:=M) ∅
 have mu:=afk (i:=c) (j:=48271) ⋯ ⋯
 have n:=uT (i:=c*48271) (j:=2147483647) ⋯
 have s:=Ca (i:=c*48271 % 2147483647) (j:=7919) ⋯ ⋯
 have t:=Ca (i:=c) (j:=8) ⋯ ⋯
 have u:=Ca (i:=c / 8) (j:=(M.flatten.length)+1) ∅ ∅
 have x:=sm M.flatten;cases b with
 |true=>
  obtain⟨wd,w,e⟩:=abw (c:=c) (mx:=c / 8) (bd:=c / 8 / ((M.flatten.length)+1)) (E:=M.flatten) (v1:=some (.sh (dM M))) (v3:=i4 true) l ∅
  refine⟨wd,w,?_⟩
  simp_arith -implicitDefEqProofs [zr,EF,ht,mu,n,s,t,u,x,dI,lMq,e]
 |false=>
  obtain⟨wd,w,e⟩:=abw (c:=c) (mx:=c*48271 % 2147483647) (bd:=c*48271 % 2147483647 / 7919) (E:=M.flatten) (v1:=some (.sh (dM M))) (v3:=i4 false) l ∅
  refine⟨wd,w,?_⟩
  simp_arith -implicitDefEqProofs [zr,EF,ht,mu,n,s,e]
def ab2{wd}(g:Gd M)(t:M.flatten.length<=126)(hl:M.length<=120)(B:z∉M.flatten)(E:-z∉M.flatten)(J:0<z)(w:Wd z wd):∃c fs fd G H,W1 c fs fd G H/\yG [wd]=some (.sh (.ins c fs))/\H [.ins c fs]=some (.sh wd)/\K21.plain 4 wd/\Qz M (.ins c fs) fd G wd:=by
 have hb:bare M<=120:=aZ fU hl;cases w with
 |found=>
  refine⟨_,_,_,_,_,cF,?_,tF,pl1,Sz g ∅ ∅ ∅⟩
  have a:=dt "found";have b:=dq "found" "put" rfl;have c:=dq "found" "part" rfl;have d:=dq "found" "cut" rfl;have e:=dq "found" "draw" rfl;have s:=K24.mkF
  simp_arith [yG,Bm,uS,q0,a,b,c,d,e,s]
 |raze=>
  refine⟨_,_,_,_,_,cR,?_,tR,pl1,Wr g ∅ ∅ ∅⟩
  have a:=dq "raze" "found" rfl;have b:=dq "raze" "put" rfl;have c:=dq "raze" "part" rfl;have d:=dq "raze" "cut" rfl;have e:=dq "raze" "draw" rfl;have s:=K24.mkR
  simp_arith [yG,Bm,uS,q0,a,b,c,d,e,s]
 | @cut y I=>
  have ne:y ≠ -y:=by lia
  refine⟨_,_,_,_,_,cC,?_,K22.Zh,pl2,ZT g t (by have:=afp g.mp.hn ne;lia) ne⟩
  rfl
 | @draw y I=>
  have ne:y ≠ -y:=by lia
  refine⟨_,_,_,_,_,cD,?_,tD,pl2,Xd g t ∅ ∅ ne⟩
  rfl
 | @put u x l n=>
  refine⟨_,_,_,_,_,cP,?_,K21.UT l n,pl4 l n,YO g t B E ∅ l n⟩
  have a:=dt "put";have s:=mk3 (c:= "Put") (S:=[some (.sh (.tup [.str "put", .int z,u,x]))]) (a:=oK (qe vk (oH 0) (rC (.int 1))) (oK (qe vk (oH 0) (rC (.int 2))) (oK (qe vk (oH 0) (rC (.int 3))) ph))) l n (by rfl)
  simp_arith [yG,Bm,uS,q0,a,s]
 | @part u x l n=>
  refine⟨_,_,_,_,_,cQ,?_,tQ l n,pl4 l n,Vj g t ∅ B E ∅ l n⟩
  have a:=dt "part";have b:=dq "part" "put" rfl;have s:=mk3 (c:= "Part") (S:=[some (.sh (.tup [.str "part", .int z,u,x]))]) (a:=oK (qe vk (oH 0) (rC (.int 1))) (oK (qe vk (oH 0) (rC (.int 2))) (oK (qe vk (oH 0) (rC (.int 3))) ph))) l n (by rfl)
  simp_arith [yG,Bm,uS,q0,a,b,s]
def afH(nd:T.flatten.Nodup)(neg:∀z∈T.flatten, -z∈T.flatten)(le:T.flatten.length<=126)(len:T.length<=120):Gd (gm T)/\(gm T).flatten.Perm T.flatten/\(gm T).length=T.length:=by
 have fl:(gm T).flatten.Perm T.flatten:=uk (uI nd);have l:(gm T).length=T.length:=by rw[Ab,lMq]
 have s:=fl.length_eq;exact⟨⟨⟨OZ nd,by lia,by lia,λe n=>fl.mem_iff.mpr (neg e (fl.mem_iff.mp n))⟩,uI nd,by lia,aZ fU ∅⟩,fl,l⟩
def abG(g:Gd M)(s:M.flatten.length<=126)(hl:M.length<=120)(l:z∉M.flatten)(n:0<z):∃wd ch,zr [.int c,dM M,.int z,.bl b]=some (.sh wd)/\yG [wd]=some (.sh ch)/\∀{v0 v1 v3 v4 v5}{a2},pD a2=dM M->tl [v0,v1,some a2,v3,v4,v5,some (.sh wd),some (.sh ch),none,none,none,none,none]=some (.rt (.sh (.bl true))):=by
 obtain⟨wd,w,t⟩:=words_ok (M:=M) n ∅
 have u:-z∉M.flatten:=λq=>l (by have:=g.mp.hneg _ q;rwa [iJ]at this)
 obtain⟨k,fs,fd,G,H,C,x,B,p,L⟩:=ab2 g s hl l u n w;exact⟨wd,_,t,x,λE=>ajj C B p E ∅ ∅ L⟩
def agZ(hns:ns.length<=63):UI [.scr ns]=i4 true:=by
 obtain⟨st,sh,a,b,h1,O,h2,Q,h3,h4,R⟩:=K12.YS ns;have l:=K12.ah6 (b:=b) h1 O h2 Q h3 h4;generalize K12.nms st sh a b=nm at R l;have t:yw ns (some 4) (some 64)=(ns.drop 4).take 60:=abE ns 4 64;have hl:((ns.drop 4).take 60).length<=63:=by rw[lTq];lia
 generalize (ns.drop 4).take 60=cs at t hl;obtain⟨P,u,ep,pp,hu,l1,l2⟩:=K12.X5 (nm:=nm) hl l.len;have I:=K12.ajn l pp hu l1 l2;have sP:=K12.Uw P;have he:=I.le;have sN:=sm nm;have fl:rN [.list (P.map dM)]=some (K13.oM P.flatten):=K13.aih (ms:=P) ∅
 have so:=K13.X9 P.flatten;have S:K13.Aj [dM P.flatten]=some (.ow ((gm P.flatten).map aI)):=K13.So (rs:=P.flatten) (λr hr=>by have:=Cf hr;lia) (uL ∅)
 have cN:∀(k:Nat),pO [.scr ns,.int (k:Int)]=i0 (cell ns k):=λk=>by
  have:=GJ ns (k:=(k:Int)) ∅
  rwa [fq]at this
 have c0:pO [.scr ns,.int 0]=i0 (cell ns 0):=cN 0;have c3:pO [.scr ns,.int 3]=i0 (cell ns 3):=cN 3;have c5:pO [.scr ns,.int 5]=i0 (cell ns 5):=cN 5;have m2:=uT (i:=cell ns 0) (j:=2) ⋯
 have U:((2:Nat)=2)=True:=eq_true rfl;obtain⟨gP,fP,lP⟩:=afH I.nd I.ng I.le ∅
 have sG:=va (gm P.flatten)
 by_cases q:cell ns 0 % 2=1
 .have dq:decide (cell ns 0 % 2=1)=true:=d0 q;obtain⟨T,n,ea,B,ln,J⟩:=K16.ahA ns;have hTl:=B.len;have hTe:=B.le;have s:n[65]?=some (n[65]'∅):=gEg ∅
  have L:=J _ (mGq s);generalize n[65]'∅=z at s L
  have X:atI (n.map D.int) 65=some (.int z):=yr (j:=65) (by rw[gMq,s];rfl)
  obtain⟨gT,fT,lT⟩:=afH B.nd B.neg B.le B.len;have mT:K13.Aj [dM T]=some (.ow ((gm T).map aI)):=K13.So (rs:=T) (λr hr=>by have:=Cf hr;lia) (uL ∅)
  have fTe:=fT.length_eq;obtain⟨wd,ch,E,Y,w3⟩:=abG (c:=cell ns 5) (z:=z) (b:=true) gT ∅ ∅ (λh=>L.2 (fT.mem_iff.mp h)) ∅
  have sT:=va (gm T);have H:=λ{v0 v1 v3 v4 v5}=>w3 (v0:=v0) (v1:=v1) (v3:=v3) (v4:=v4) (v5:=v5) (a2:=.sh (dM (gm T))) rfl
  generalize gm T=M at mT E H sT;generalize gm P.flatten=G at S sG;unfold dM at E H
  simp_arith -implicitDefEqProofs [UI,Rj,R,yE,t,ep,sP,sN,fl,so,S,c3,c0,m2,dq,ahC,ea,akW,aeB,acm,U,mT,c5,dI,X,sT,E,Y,H]
 .have dq:decide (cell ns 0 % 2=1)=false:=d4 q;have s:nm[65]?=some (nm[65]'(by have:=l.len;lia)):=gEg _
  have L:=l.lo _ (mGq s);have nz:nm[65]'(by have:=l.len;lia)∉P.flatten.flatten:=λh=>by
   obtain⟨x,J,e⟩:=K12.GI.mp (pp.mem_iff.mp h);have xl:=l.lo x (bg J);have:x=nm[65]'(by have:=l.len;lia):=by lia
   have nd:=l.nd;rw[←aT u nm,nAq]at nd;exact nd.2.2 x J _ (mGq (i:=65-u) (by rw[dm,show u+(65-u)=65 by lia];exact s)) this
  generalize nm[65]'(by have:=l.len;lia)=z at s L nz
  have X:atI (nm.map D.int) 65=some (.int z):=yr (by rw[gMq,s];rfl)
  have fPe:=fP.length_eq;obtain⟨wd,ch,E,Y,w3⟩:=abG (c:=cell ns 3) (b:=false) gP ∅ ∅ (λh=>nz (fP.mem_iff.mp h)) ∅
  have H:=λ{v0 v1 v3 v4 v5}=>w3 (v0:=v0) (v1:=v1) (v3:=v3) (v4:=v4) (v5:=v5) (a2:=.sh (dM (gm P.flatten))) rfl
  simp_arith -implicitDefEqProofs [UI,Rj,R,yE,t,ep,sP,sN,fl,so,S,c3,c0,m2,dq,dI,X,sG,E,Y,H]
end K26
namespace K26
open PySem L2 Mr Z Xe
def agJ{l:W.OpenLaw}{w:kz}{K:Ζ}{h:Heap}{mg:Str->Υ}{fa:Addr}(X:K.In h)(G:h.Ns ko mg)(hfa:mg "law" = some (.ref fa))
  {M:Addr}
  {yk:Addr}
  {DY:Addr}
  {AQ:Addr}
  {Bj:Addr}
  {n:Addr}
  {N8:Addr}{ag1 aiU aiH ahW aa0 ahd:Value}{ag8 ahN:Option Addr}{agc:Array Υ}
  {t:Addr}
  {IF:Addr}{aer abV ab8 aeD Tw abR:Value}{aeb aeU:Option Addr}{ael:Array Υ}
  {u:Addr}
  {Ni:Addr}{aiC aga agg agO abo ahp:Value}{ahY ahc:Option Addr}{aiV:Array Υ}
  {x:Addr}
  {IC:Addr}{aeX acQ acA ach Ur aeM:Value}{adM ac0:Option Addr}{ab4:Array Υ}
  {z:Addr}
  {E:Addr}
  {zI:Addr}
  (a0:At K "turned" Fh f0 fd0)
  (a1:At K "told_ends" Ax f1 fd1)
  (a2:At K "refuse_too_many" vF f2 fd2)
  (a3:At K "in_good_order" wK f3 fd3)
  (a4:At K "ends_of" DK f4 fd4)
  (a5:At K "nexts" Iz f5 fd5)
  (a6:At K "onwards" DW f6 fd6)
  (a7:At K "gone_round" zh f7 fd7)
  (a8:At K "lands" IK f8 fd8)
  (a9:At K "settled" DA f9 fd9)
  (a10:At K "spread" Ff f10 fd10)
  (a11:At K "put_behind" zd f11 fd11)
  (a12:At K "put_alone" Ah f12 fd12)
  (a13:At K "put_end" DM f13 fd13)
  (a14:At K "with_road" Am f14 fd14)
  (a15:At K "thinned" DT f15 fd15)
  (a16:At K "without_road" xO f16 fd16)
  (a17:At K "end_ahead" Aq f17 fd17)
  (a18:At K "turn_with" Ar f18 fd18)
  (a19:At K "first_ahead" yp f19 fd19)
  (a20:At K "second_ahead" xK f20 fd20)
  (a21:At K "with_place" zi f21 fd21)
  (a22:At K "without_place" wH f22 fd22)
  (H:At K "refuse_as_done" uy f24 fd24)
  (a32:At K "done_over" vX f32 fd32)
  (a37:At K "back_over" vY f37 fd37)
  (a41:At K "_law_cell" Gq f41 fd41)
  (a42:At K "_law_names" DJ f42 fd42)
  (a43:At K "_law_parts" DZ f43 fd43)
  (a44:At K "_law_turn" FS f44 fd44)
  (a45:At K "_law_map" Iq f45 fd45)
  (a46:At K "_law_all" Iu f46 fd46)
  (a47:At K "_law_alike" ye f47 fd47)
  (a48:At K "_law_nexts" DB f48 fd48)
  (a49:At K "_law_lands" D0 f49 fd49)
  (a50:At K "_law_copy" Fg f50 fd50)
  (a51:At K "_law_kind" FY f51 fd51)
  (a54:At K "_law_done" Gr f54 fd54)
  (a55:At K "_law_words" DR f55 fd55)
  (a56:At K "_law_made" FA f56 fd56)
  (a61:At K "_law_back" Gh f61 fd61)
  (a62:At K "_law_behind" BY f62 fd62)
  (a63:At K "_law_due" Ir f63 fd63)
  (a64:At K "_law_any" IB f64 fd64)
  (a71:W.nsIn K ko "law" = some (some (.ref f71))) (l71:K.lookup f71=some ⟨oc71,od71,.func (W.fnOf "law" "law" (uv Ed) (sS Ed) (oI Ed) .none kV71 dc71 pm71 an71 cd71 ct71),sl71⟩) (c71:W.codeIn K cd71 "law" = true) (k71:W.keepIn K (.ref f71)=true)
  (aM:W.nsIn K ko "MapError" = some (some (.ref M))) (xM:AJ K "MapError" M Ad=true)
  (rM:W.readsIn K M (.type "type")=true) (sM:W.specialIn K (.ref M) "__getattribute__" = some (some (.builtin "type.__getattribute__"))) (fM:W.findCls K (.ref M) (.type "type") "__init__" = some (.val (.builtin "ValueError.__init__")))
  (JL:W.nsIn K ko "NotThere" = some (some (.ref yk))) (Rp:AJ K "NotThere" yk (.ref M::Ad)=true) (Sr:lk0 K yk=true)
  (Ta:W.findIn K (.ref yk) "__init__" = some (some (.ref Ez))) (Jd:K.lookup Ez=some ⟨afz,afo,.func (W.fnOf "__init__" "NotThere.__init__" (uv yv) (sS yv) (oI yv) .none afE afd afV afv Qb afw),afe⟩) (Kv:W.codeIn K Qb "NotThere.__init__" = true) (Jc:W.keepIn K (.ref Ez)=true) (Qe:W.isFn K (.ref Ez)=true) (Q7:W.keepIn K (.ref yk)=true) (QY:W.findIn K (.ref yk) "end" = some none)
  (T7:W.nsIn K ko "Taken" = some (some (.ref DY))) (adi:AJ K "Taken" DY (.ref M::Ad)=true) (adL:lk0 K DY=true)
  (ack:W.findIn K (.ref DY) "__init__" = some (some (.ref OI))) (Ug:K.lookup OI=some ⟨ajA,ajO,.func (W.fnOf "__init__" "Taken.__init__" (uv Dv) (sS Dv) (oI Dv) .none aj8 aj3 akC ajx YV akc),akV⟩) (UM:W.codeIn K YV "Taken.__init__" = true) (T1:W.keepIn K (.ref OI)=true) (Yl:W.isFn K (.ref OI)=true) (Zv:W.keepIn K (.ref DY)=true) (abg:W.findIn K (.ref DY) "road" = some none)
  (Vz:W.nsIn K ko "TooMany" = some (some (.ref AQ))) (WQ:AJ K "TooMany" AQ (.ref M::Ad)=true) (Wf:lk0 K AQ=true)
  (WO:W.findIn K (.ref AQ) "__init__" = some (some (.builtin "ValueError.__init__"))) (Sd:W.keepIn K (.ref AQ)=true)
  (Vw:W.nsIn K ko "NoPlace" = some (some (.ref Bj))) (Vs:AJ K "NoPlace" Bj (.ref M::Ad)=true) (VF:lk0 K Bj=true)
  (Xc:W.findIn K (.ref Bj) "__init__" = some (some (.builtin "ValueError.__init__"))) (R6:W.keepIn K (.ref Bj)=true)
  (bve:W.nsIn K ko "ValueError" = some none)
  (btu:W.nsIn K ko "tuple" = some none)
  (aad:W.nsIn K ko "Put" = some (some (.ref n))) (ahh:W.plainGet K n Str.empty=true) (ahZ:W.hasDictIn K n=true) (ahv:W.plainOver K n=true) (ahj:W.findIn K (.ref n) "__setattr__" = some (some (.builtin "object.__setattr__")))
  (I:W.findIn K (.ref n) "road" = some none)
  (J:W.findIn K (.ref n) "first" = some none)
  (L:W.findIn K (.ref n) "second" = some none)
  (ahB:W.makesIn K n=true) (aix:W.findIn K (.ref n) "__init__" = some (some (.ref N8))) (ahi:W.isFn K (.ref N8)=true) (aiJ:W.keepIn K (.ref n)=true)
  (Yj:K.lookup N8=some ⟨ag1,ag8,.func (W.fnOf "__init__" "Put.__init__" (uv J4) (sS J4) (oI J4) .none aiU aiH ahW ahN aa0 ahd),agc⟩) (aat:W.codeIn K aa0 "Put.__init__" = true) (aaj:W.keepIn K (.ref N8)=true)
  (T4:W.nsIn K ko "Part" = some (some (.ref t))) (ad9:W.plainGet K t Str.empty=true) (aep:W.hasDictIn K t=true) (acH:W.plainOver K t=true) (adZ:W.findIn K (.ref t) "__setattr__" = some (some (.builtin "object.__setattr__")))
  (S:W.findIn K (.ref t) "road" = some none)
  (T:W.findIn K (.ref t) "first" = some none)
  (U:W.findIn K (.ref t) "second" = some none)
  (aeS:W.makesIn K t=true) (aeQ:W.findIn K (.ref t) "__init__" = some (some (.ref IF))) (aeL:W.isFn K (.ref IF)=true) (acZ:W.keepIn K (.ref t)=true)
  (UU:K.lookup IF=some ⟨aer,aeb,.func (W.fnOf "__init__" "Part.__init__" (uv GO) (sS GO) (oI GO) .none abV ab8 aeD aeU Tw abR),ael⟩) (Ts:W.codeIn K Tw "Part.__init__" = true) (T3:W.keepIn K (.ref IF)=true)
  (Y6:W.nsIn K ko "Cut" = some (some (.ref u))) (agE:W.plainGet K u Str.empty=true) (agn:W.hasDictIn K u=true) (agl:W.plainOver K u=true) (agq:W.findIn K (.ref u) "__setattr__" = some (some (.builtin "object.__setattr__")))
  (O:W.findIn K (.ref u) "road" = some none)
  (agI:W.makesIn K u=true) (aiO:W.findIn K (.ref u) "__init__" = some (some (.ref Ni))) (aij:W.isFn K (.ref Ni)=true) (aiQ:W.keepIn K (.ref u)=true)
  (aba:K.lookup Ni=some ⟨aiC,ahY,.func (W.fnOf "__init__" "Cut.__init__" (uv IR) (sS IR) (oI IR) .none aga agg agO ahc abo ahp),aiV⟩) (aan:W.codeIn K abo "Cut.__init__" = true) (YI:W.keepIn K (.ref Ni)=true)
  (U6:W.nsIn K ko "Draw" = some (some (.ref x))) (adn:W.plainGet K x Str.empty=true) (acJ:W.hasDictIn K x=true) (aez:W.plainOver K x=true) (acO:W.findIn K (.ref x) "__setattr__" = some (some (.builtin "object.__setattr__")))
  (Y:W.findIn K (.ref x) "road" = some none)
  (aeZ:W.makesIn K x=true) (aeO:W.findIn K (.ref x) "__init__" = some (some (.ref IC))) (acT:W.isFn K (.ref IC)=true) (ado:W.keepIn K (.ref x)=true)
  (TF:K.lookup IC=some ⟨aeX,adM,.func (W.fnOf "__init__" "Draw.__init__" (uv Gm) (sS Gm) (oI Gm) .none acQ acA ach ac0 Ur aeM),ab4⟩) (TV:W.codeIn K Ur "Draw.__init__" = true) (UR:W.keepIn K (.ref IC)=true)
  (OR:W.nsIn K ko "Found" = some (some (.ref z))) (Xv:W.plainGet K z Str.empty=true) (YH:W.hasDictIn K z=true) (aa5:W.plainOver K z=true) (ZL:W.findIn K (.ref z) "__setattr__" = some (some (.builtin "object.__setattr__")))
  (Xz:W.makesIn K z=true) (Xy:W.findIn K (.ref z) "__init__" = some (some (.builtin "object.__init__"))) (Yn:W.keepIn K (.ref z)=true)
  (UL:W.nsIn K ko "Raze" = some (some (.ref E))) (aeP:W.plainGet K E Str.empty=true) (aeY:W.hasDictIn K E=true) (acW:W.plainOver K E=true) (ab1:W.findIn K (.ref E) "__setattr__" = some (some (.builtin "object.__setattr__")))
  (acb:W.makesIn K E=true) (adI:W.findIn K (.ref E) "__init__" = some (some (.builtin "object.__init__"))) (ab7:W.keepIn K (.ref E)=true)
  (Xk:W.nsIn K ko "Change" = some (some (.ref zI)))
  (agf:W.findIn K (.ref u) "__class__" = some (some (.builtin "object.__class__"))) (agr:W.specialIn K (.builtin "object.__class__") "__get__" = some (some (.builtin "getset_descriptor.__get__"))) (ahX:W.takesIn K (.builtin "object.__class__")=some true) (ahT:W.mroIn K u (.type "object")=some true) (if_Cut:W.kitOne K (.ref u) (.ref zI)=some true)
  (ad8:W.findIn K (.ref x) "__class__" = some (some (.builtin "object.__class__"))) (adV:W.specialIn K (.builtin "object.__class__") "__get__" = some (some (.builtin "getset_descriptor.__get__"))) (adG:W.takesIn K (.builtin "object.__class__")=some true) (acn:W.mroIn K x (.type "object")=some true) (if_Draw:W.kitOne K (.ref x) (.ref zI)=some true)
  (abh:W.findIn K (.ref z) "__class__" = some (some (.builtin "object.__class__"))) (YY:W.specialIn K (.builtin "object.__class__") "__get__" = some (some (.builtin "getset_descriptor.__get__"))) (aa9:W.takesIn K (.builtin "object.__class__")=some true) (aa8:W.mroIn K z (.type "object")=some true) (if_Found:W.kitOne K (.ref z) (.ref zI)=some true)
  (aeK:W.findIn K (.ref t) "__class__" = some (some (.builtin "object.__class__"))) (ac7:W.specialIn K (.builtin "object.__class__") "__get__" = some (some (.builtin "getset_descriptor.__get__"))) (ac8:W.takesIn K (.builtin "object.__class__")=some true) (adg:W.mroIn K t (.type "object")=some true) (if_Part:W.kitOne K (.ref t) (.ref zI)=some true)
  (aiz:W.findIn K (.ref n) "__class__" = some (some (.builtin "object.__class__"))) (ahg:W.specialIn K (.builtin "object.__class__") "__get__" = some (some (.builtin "getset_descriptor.__get__"))) (af9:W.takesIn K (.builtin "object.__class__")=some true) (ah0:W.mroIn K n (.type "object")=some true) (if_Put:W.kitOne K (.ref n) (.ref zI)=some true)
  (adW:W.findIn K (.ref E) "__class__" = some (some (.builtin "object.__class__"))) (adj:W.specialIn K (.builtin "object.__class__") "__get__" = some (some (.builtin "getset_descriptor.__get__"))) (ada:W.takesIn K (.builtin "object.__class__")=some true) (acN:W.mroIn K E (.type "object")=some true) (if_Raze:W.kitOne K (.ref E) (.ref zI)=some true)
  (a23:Je K n "done" "Put.done" Er f23 fd23)
  (a25:Je K u "done" "Cut.done" EC f25 fd25)
  (a27:Je K z "done" "Found.done" Bx f27 fd27)
  (a29:Je K E "done" "Raze.done" Ds f29 fd29)
  (a31:Je K t "other" "Part.other" BS f31 fd31)
  (a33:Je K x "other" "Draw.other" Bs f33 fd33)
  (a35:Je K n "back" "Put.back" Et f35 fd35)
  (a36:Je K u "other" "Cut.other" CN f36 fd36)
  (a38:Je K u "back" "Cut.back" EO f38 fd38)
  (a39:Je K n "other" "Put.other" CQ f39 fd39)
  (a52:Je K t "done" "Part.done" CU f52 fd52)
  (a53:Je K x "done" "Draw.done" Dh f53 fd53)
  (a57:Je K t "back" "Part.back" Dm f57 fd57)
  (a58:Je K x "back" "Draw.back" Dr f58 fd58)
  (a59:Je K z "back" "Found.back" BB f59 fd59)
  (a60:Je K E "back" "Raze.back" Dc f60 fd60)
  (a65:Je K n "told" "Put.told" Eo f65 fd65)
  (a66:Je K u "told" "Cut.told" Ey f66 fd66)
  (a67:Je K t "told" "Part.told" CT f67 fd67)
  (a68:Je K x "told" "Draw.told" Dz f68 fd68)
  (a69:Je K z "told" "Found.told" BC f69 fd69)
  (a70:Je K E "told" "Raze.told" Do f70 fd70)
  {HM:Tok}(Qu:W.nsIn K ko "MOST_ENDS" = some (some (.int 128 HM))) {zT:Tok}(EH:W.nsIn K ko "MOST_BARE_PLACES" = some (some (.int 128 zT)))
  (z0:W.nsIn K ko "len" = some none) (z1:W.nsIn K ko "min" = some none) (z2:W.nsIn K ko "max" = some none) (z3:W.nsIn K ko "abs" = some none) (z4:W.nsIn K ko "all" = some none) (z5:W.nsIn K ko "sorted" = some none) (z6:W.nsIn K ko "isinstance" = some none) (z7:W.nsIn K ko "list" = some none) (z8:W.nsIn K ko "int" = some none) (z9:W.nsIn K ko "bool" = some none) (z10:W.nsIn K ko "str" = some none) (z11:W.nsIn K ko "dict" = some none) (z12:W.nsIn K ko "zip" = some none) (z13:W.nsIn K ko "enumerate" = some none) (z14:W.nsIn K ko "range" = some none) (z15:W.nsIn K ko "reversed" = some none) :
  ∃fd:ky,(∀(s) v,mY s fd ⟨[v],[]⟩ [("_law_script", v)])/\∀base:Heap,K.In base->base.Ns ko mg->yT l.prog w K mg base QC 12 fa fd ["_law_script"] (UZ K):=by
 have e:=hfa.symm.trans (W.mg_of X G a71);cases e;have B:Bt mg:=⟨W.mg_none_of X G z0,W.mg_none_of X G z1,W.mg_none_of X G z2,W.mg_none_of X G z3,W.mg_none_of X G z4,W.mg_none_of X G z5,W.mg_none_of X G z6,W.mg_none_of X G z7,W.mg_none_of X G z8,W.mg_none_of X G z9,W.mg_none_of X G z10,W.mg_none_of X G z11,W.mg_none_of X G z12,W.mg_none_of X G z13,W.mg_none_of X G z14,W.mg_none_of X G z15⟩;have D71:xN K mg "law" Ed ["_law_script"] _ _:=⟨wm l71 c71 k71,W.mg_of X G a71,b1 (wm l71 c71 k71) λ_ _ _ _ _ _ _=>rfl⟩
 have Dl:=W.mg_of X G Qu;have wY:=W.mg_of X G EH;refine⟨W.fnOf "law" "law" (uv Ed) (sS Ed) (oI Ed) .none kV71 dc71 pm71 an71 cd71 ct71,λs v=>.of_eq rfl,λbase kb nb=>?_⟩
 have bTU:=W.mg_none_of X G btu;have qt:=aeR X G aM xM;have bVE:=W.mg_none_of X G bve;have Tc:=Nf JL aM Rp xM Sr;have rX:=Nc (P:=l.prog) (w:=w) (base:=base) (wm Jd Kv Jc) (b2 (wm Jd Kv Jc)) Tc (W.mg_of X G aM) rM sM fM Ta Qe Q7 QY (W.mg_of X G JL)
 have aeV:=Nf T7 aM adi xM adL;have yt:=VN (P:=l.prog) (w:=w) (base:=base) (wm Ug UM T1) (b2 (wm Ug UM T1)) aeV (W.mg_of X G aM) rM sM fM ack Yl Zv abg (W.mg_of X G T7)
 have Xf:=Nf Vz aM WQ xM Wf;have uo:=Tr X G Xf WO Sd;have W2:=Nf Vw aM Vs xM VF;have tL:=Tr X G W2 Xc R6;have Q:qF K "Put" n:=⟨aad,⟨ahh,ahZ,ahv,ahj⟩⟩;have GH:=ads (P:=l.prog) (w:=w) (base:=base) (wm Yj aat aaj) (b4 (wm Yj aat aaj)) ⟨ahB,aix,ahi,aiJ⟩ Q.cl I J L (W.mg_of X G aad)
 have pQ:qF K "Part" t:=⟨T4,⟨ad9,aep,acH,adZ⟩⟩;have Hk:=Zj (P:=l.prog) (w:=w) (base:=base) (wm UU Ts T3) (b4 (wm UU Ts T3)) ⟨aeS,aeQ,aeL,acZ⟩ pQ.cl S T U (W.mg_of X G T4)
 have R:qF K "Cut" u:=⟨Y6,⟨agE,agn,agl,agq⟩⟩;have E4:=ae1 (P:=l.prog) (w:=w) (base:=base) (wm aba aan YI) (b2 (wm aba aan YI)) ⟨agI,aiO,aij,aiQ⟩ R.cl O (W.mg_of X G Y6)
 have pV:qF K "Draw" x:=⟨U6,⟨adn,acJ,aez,acO⟩⟩;have Hs:=aam (P:=l.prog) (w:=w) (base:=base) (wm TF TV UR) (b2 (wm TF TV UR)) ⟨aeZ,aeO,acT,ado⟩ pV.cl Y (W.mg_of X G U6)
 have qi:qF K "Found" z:=⟨OR,⟨Xv,YH,aa5,ZL⟩⟩;have DS:Tb K mg "Found" z:=⟨Xz,Xy,Yn,W.mg_of X G OR⟩;have qQ:qF K "Raze" E:=⟨UL,⟨aeP,aeY,acW,ab1⟩⟩;have GV:Tb K mg "Raze" E:=⟨acb,adI,ab7,W.mg_of X G UL⟩;have abi:V7 K u:=⟨agf,agr,ahX,ahT⟩;have T2:V7 K x:=⟨ad8,adV,adG,acn⟩;have PU:V7 K z:=⟨abh,YY,aa9,aa8⟩;have Ui:V7 K t:=⟨aeK,ac7,ac8,adg⟩;have aa6:V7 K n:=⟨aiz,ahg,af9,ah0⟩;have Tt:V7 K E:=⟨adW,adj,ada,acN⟩;have F0:=Xh (P:=l.prog) (w:=w) (base:=base) (zp X G a0 (b1 a0.F)) B
 have F1:=Ny (P:=l.prog) (w:=w) (base:=base) (zp X G a1 (b1 a1.F)) B
 have F2:=Ex (zp X G a2 (b1 a2.F)) B Dl wY uo F1
 have F3:=GP (zp X G a3 (b1 a3.F)) B F0
 have F4:=Rr (zp X G a4 (b1 a4.F)) B F1
 have F5:=aaB (P:=l.prog) (w:=w) (base:=base) (zp X G a5 (b1 a5.F)) B
 have F6:=RG (zp X G a6 (b1 a6.F)) B F5
 have F7:=K8 (P:=l.prog) (w:=w) (base:=base) (zp X G a7 (b2 a7.F)) B
 have F8:=YK (zp X G a8 (b1 a8.F)) B F6 F4 F3 F7
 have F9:=RS (zp X G a9 (b1 a9.F)) B F2 F3
 have F10:=Ww (P:=l.prog) (w:=w) (base:=base) (zp X G a10 (b3 a10.F)) B
 have F11:=KN (zp X G a11 (b3 a11.F)) B rX F1 F10
 have F12:=NK (P:=l.prog) (w:=w) (base:=base) (zp X G a12 (b2 a12.F)) B tL
 have F13:=RL (zp X G a13 (b3 a13.F)) B F11 F12
 have F14:=MV (zp X G a14 (b4 a14.F)) B yt F13 F9 F1
 have F15:=Sf (P:=l.prog) (w:=w) (base:=base) (zp X G a15 (b2 a15.F)) B
 have F16:=Ic (zp X G a16 (b2 a16.F)) B rX F9 F1 F15
 have F17:=Ob (P:=l.prog) (w:=w) (base:=base) (zp X G a17 (b2 a17.F)) B
 have F18:=N9 (P:=l.prog) (w:=w) (base:=base) (zp X G a18 (b2 a18.F)) B
 have F19:=Kg (zp X G a19 (b2 a19.F)) B F17 F15 F18
 have F20:=Ia (zp X G a20 (b2 a20.F)) B F17 F18
 have F21:=KR (zp X G a21 (b1 a21.F)) B F9
 have F22:=G6 (zp X G a22 (b1 a22.F)) B tL F3
 have F23:=P9 a23.F ⟨a23.a,a23.i,a23.F.kp⟩ (b2 a23.F) B F14 Q I J L
 have F24:=CA (P:=l.prog) (w:=w) (base:=base) (zp X G H (b2 H.F)) B Q I J L F23
 have F25:=QW a25.F ⟨a25.a,a25.i,a25.F.kp⟩ (b2 a25.F) B F16 R O
 have F26:=CC (P:=l.prog) (w:=w) (base:=base) (zp X G H (b2 H.F)) B R O F25
 have F27:=Lh a27.F ⟨a27.a,a27.i,a27.F.kp⟩ (b2 a27.F) B F21 qi
 have F28:=A3 (P:=l.prog) (w:=w) (base:=base) (zp X G H (b2 H.F)) B qi F27
 have F29:=Og a29.F ⟨a29.a,a29.i,a29.F.kp⟩ (b2 a29.F) B F22 qQ
 have F30:=Bp (P:=l.prog) (w:=w) (base:=base) (zp X G H (b2 H.F)) B qQ F29
 have F31:=K2 (P:=l.prog) (w:=w) (base:=base) a31.F ⟨a31.a,a31.i,a31.F.kp⟩ (b1 a31.F) B Q I J L pQ S T U GH
 have F32:=FF (zp X G a32 (b2 a32.F)) B F8 Q I J L pQ S T U F31 F23
 have F33:=K1 (P:=l.prog) (w:=w) (base:=base) a33.F ⟨a33.a,a33.i,a33.F.kp⟩ (b1 a33.F) B R O pV Y E4
 have F34:=FU (zp X G a32 (b2 a32.F)) B F8 R O pV Y F33 F25
 have F35:=Q2 a35.F ⟨a35.a,a35.i,a35.F.kp⟩ (b2 a35.F) B F24 Q I J L R O E4
 have F36:=ND (P:=l.prog) (w:=w) (base:=base) a36.F ⟨a36.a,a36.i,a36.F.kp⟩ (b1 a36.F) B R O pV Y Hs
 have F37:=E1 (zp X G a37 (b2 a37.F)) B F8 Q I J L pQ S T U R O pV Y F31 F35 F36
 have F38:=QH a38.F ⟨a38.a,a38.i,a38.F.kp⟩ (b2 a38.F) B F26 F19 F20 Q I J L R O GH
 have F39:=N3 (P:=l.prog) (w:=w) (base:=base) a39.F ⟨a39.a,a39.i,a39.F.kp⟩ (b1 a39.F) B Q I J L pQ S T U Hk
 have F40:=Fe (zp X G a37 (b2 a37.F)) B F8 Q I J L pQ S T U R O pV Y F33 F38 F39
 have F41:=VV (P:=l.prog) (w:=w) (base:=base) (zp X G a41 (b2 a41.F)) B
 have F42:=RC (zp X G a42 (b1 a42.F)) B F41
 have F43:=Sy (P:=l.prog) (w:=w) (base:=base) (zp X G a43 (b2 a43.F)) B
 have F44:=WV (P:=l.prog) (w:=w) (base:=base) (zp X G a44 (b1 a44.F)) B
 have F45:=Zg (zp X G a45 (b1 a45.F)) B F44
 have F46:=Z9 (P:=l.prog) (w:=w) (base:=base) (zp X G a46 (b1 a46.F)) B
 have F47:=SW (P:=l.prog) (w:=w) (base:=base) (zp X G a47 (b2 a47.F)) B bTU
 have F48:=Sx (P:=l.prog) (w:=w) (base:=base) (zp X G a48 (b1 a48.F)) B
 have F49:=Sb (zp X G a49 (b1 a49.F)) B F48 F45
 have F50:=Wg (P:=l.prog) (w:=w) (base:=base) (zp X G a50 (b1 a50.F)) B
 have F51:=Xi (P:=l.prog) (w:=w) (base:=base) (zp X G a51 (b1 a51.F)) B rX yt uo tL bVE
 have F52:=Oi a52.F ⟨a52.a,a52.i,a52.F.kp⟩ (b2 a52.F) B F32 pQ S T U
 have F53:=Nh a53.F ⟨a53.a,a53.i,a53.F.kp⟩ (b2 a53.F) B F34 pV Y
 have F54:=Vq (zp X G a54 (b2 a54.F)) B qt F51 Q I J L pQ S T U R O pV Y qi qQ F23 F25 F52 F53 F27 F29
 have F55:=SV (zp X G a55 (b4 a55.F)) B F46
 have F56:=Ws (P:=l.prog) (w:=w) (base:=base) (zp X G a56 (b1 a56.F)) B Q I J L pQ S T U R O pV Y qi qQ GH Hk E4 Hs DS GV
 have F57:=OC a57.F ⟨a57.a,a57.i,a57.F.kp⟩ (b2 a57.F) B F37 pQ S T U pV Y
 have F58:=MY a58.F ⟨a58.a,a58.i,a58.F.kp⟩ (b2 a58.F) B F40 pQ S T U pV Y
 have F59:=K6 a59.F ⟨a59.a,a59.i,a59.F.kp⟩ (b2 a59.F) B F28 qi qQ GV
 have F60:=N0 a60.F ⟨a60.a,a60.i,a60.F.kp⟩ (b2 a60.F) B F30 qi qQ DS
 have F61:=VQ (zp X G a61 (b2 a61.F)) B qt F51 Q I J L pQ S T U R O pV Y qi qQ F35 F38 F57 F58 F59 F60
 have F62:=OW (zp X G a62 (b2 a62.F)) B F48
 have F63:=ZX (zp X G a63 (b2 a63.F)) B F62 F49
 have F64:=Zs (zp X G a64 (b1 a64.F)) B F41
 have F65:=Pl (P:=l.prog) (w:=w) (base:=base) a65.F ⟨a65.a,a65.i,a65.F.kp⟩ (b1 a65.F) B Q I J L
 have F66:=Px (P:=l.prog) (w:=w) (base:=base) a66.F ⟨a66.a,a66.i,a66.F.kp⟩ (b1 a66.F) B R O
 have F67:=Oc (P:=l.prog) (w:=w) (base:=base) a67.F ⟨a67.a,a67.i,a67.F.kp⟩ (b1 a67.F) B pQ S T U
 have F68:=Ol (P:=l.prog) (w:=w) (base:=base) a68.F ⟨a68.a,a68.i,a68.F.kp⟩ (b1 a68.F) B pV Y
 have F69:=Lj (P:=l.prog) (w:=w) (base:=base) a69.F ⟨a69.a,a69.i,a69.F.kp⟩ (b1 a69.F) B qi
 have F70:=OM (P:=l.prog) (w:=w) (base:=base) a70.F ⟨a70.a,a70.i,a70.F.kp⟩ (b1 a70.F) B qQ
 have F71:=agD D71 B F42 F45 F41 F55 F56 F50 F54 F61 F46 F64 F47 F43 F63 Q I J L pQ S T U R O pV Y qi qQ aa6 if_Put (W.mg_of X G Xk) abi if_Cut Ui if_Part T2 if_Draw PU if_Found Tt if_Raze F65 F66 F67 F68 F69 F70;exact F71.ok.imp (adK λns h=>agZ h)
def alM{l:W.OpenLaw}{H:(Str->Υ)->Heap->Prop}{K:Params->Ζ}(hn:l.most=some 63)(B:d.params.defaults=[])
  (I:∀w h,E w h->(K w.params).In h)
  (F:∀w (mg:Str->Υ) G h,(K w.params).In h->h.Ns ko mg->mg d.name=some (.ref G) ->
   ∃fd:ky,(∀s u,mY s fd ⟨[u],[]⟩ [("_law_script", u)])/\∀base:Heap,(K w.params).In base->base.Ns ko mg->yT l.prog w (K w.params) mg base QC 12 G fd ["_law_script"] (UZ (K w.params))) :
  W.WalkO q t H E l.row.toRowW d [] (λf vs=>PySem.call f vs):=
 L2.acP (n:=63) (k:=12) (x:= "_law_script") (CX:=λ_=>QC) (sp:=λw=>UZ (K w.params)) hn ⋯ B ⟨rfl,by decide,by decide⟩ I F (λ_ _ a ns hl _ J=>⟨a,ns,rfl,J,hl,λ_=>rfl⟩) λ_ _ _ _ _ z=>z
end K26
structure PySem.W.Fast:Prop where(tw14710621895213346096 tw13296310334449319032 tw14823086719536065629 tw2845395505318757492 tw6015546288657368472 tw3421671422833411786 tw1636014994625345056 tw2664983662289434871 tw7292437407454152413 tw14605718298774708225 tw9082616628760213451 tw17172007535755629751 tw15975245301444239669 tw1929707376185820590 tw10226540324383435577 tw1383471569656196839 tw16656348655082768307 tw5474578520180153469 tw15576906711252246340 tw2919786277126550080 tw1836357629324492537 tw4016973857916385929 tw17085607788117601097 tw11178551351024201622 tw12346669632369257694 tw16237808548826040092 tw16490847662128762712 tw1207451334748665436 tw2156945978100861363 tw13555301875886084583 tw1601982443890896713 tw14477051541232122581 tw12467941879460618602 tw6113164522232413028 tw2705032014502901783 tw8409677771857313522 tw1157334555639570057 tw7750857825010718734 tw3799789870933715255 tw5505103176184094059 tw2600210944079877608 tw3661851600751858697 tw7304785204503563589 tw14926951934610988240 tw13760022267634054655 tw4873454211891127135 tw16635317666210166002 tw9548682108625911821 tw4266787478884944382 tw12408336422302786832 tw8166516132499603809 tw18076067926965217228 tw13033674429836410375 tw2601956244659562648 tw8537363110707346165 tw993001907666026883 tw15031248107191766704 tw13313567149979917782 tw10066865545672437677 tw2672057063815540601 tw11865951619551255910 tw4803302765533637130 tw7295738250059872327 tw7470565778386000347 tw8857781122804214381 tw8264303965474045103 tw5673036444989516129 tw17840096892640641867 tw9189505957828197658 tw18273010683059434186 tw6061532629175622319 tw5520055812268553770 tw503853246339422919 tw16947524622282442573 tw8214303731880820360 tw11782597383345866451 tw620748679929691540 tw16426104609995889977 tw9322142737356865205 tw4228887059719728829 tw16264042844417884247 tw10162154673560392041 tw8024749923063273958 tw15264008332207428060 tw14062193280212290604 tw5390530725428429997 tw12535301480830186983 tw4193491039825929886 tw11488869604676636562 tw15759061206701134890 tw11852429534934964226 tw12601892177287935269 tw7061770111596624981 tw14954054123811211987 tw1510144900148602287 tw16547317302425408688 tw7042125958017078476 tw17445195821923501206 tw8496397137752703127 tw7514608062579542509 tw5979963898650674242 tw2010641795615281438 tw2882985704292984390 tw10911497211579122177 tw3638192517820692589 tw9175245160937863110 tw3428016979085915832 tw10077770024556238566 tw6716334823467990335 tw16064717548109034985 tw904048084290117059 tw8052252463859550846 tw8922838565967008778 tw13805767493323070174 tw6360410221508332186 tw484460246381956340 tw11232508532716598252 tw16160291235024679309 tw10598247942238049369 tw15341207761193426283 tw15031263414664771134 tw2334277400363682207 tw6657455993279343295 tw6285908645386942634 tw4709189626907399375 tw14109022891749882588 tw4644256337474435718 tw9710693704518506666 tw2225296827505101978 tw8986500900847625143 tw5753120214141787904 tw12514484978175843071 tw17456197797877970841 tw4908812423806719835 tw13794556189196163793 tw16759634929361445282 tw10183997503406796883 tw2709070126646606852 tw1367899894407039389 tw12082909325630740872 tw3173015896952493716 tw16633847432678796991 tw15270176654211779023 tw5379374871561063957 tw17456542492835482699 tw2351480417690114111 tw15647940151017799245 tw1508049148984199983 tw14021730035085381577 tw9305014917375376954 tw8233604102903729910 tw9988813655241127997 tw17956368203089933155 tw10421616210779484884 tw17655005005307202280 tw10535792500826059583 tw17698489491837473940 tw4477857224580405033 tw2235719271348152740 tw12976802752723857608 tw10338044295132234044 tw10578987678841356198 tw4174809644830708588 tw691108556525910163 tw3809718054136948882 tw3848982285529337799 tw7228124173775506430 tw9016989928208948672 tw16856445375221813285 tw12713309035636007688 tw11892929513565664596 tw5475610703647650766 tw7880724597680241726 tw17747593013275906117 tw1050435170538168733 tw10015040930771788529 tw6038700910384606260 tw11851341272582637597 tw495467869635267199 tw15258105955677812862 tw10173877035298147903 tw14821924973907805459 tw17781422312912225577 tw8176855107515488755 tw3341175114223040486 tw12508517308350526443 tw2129443189851788440 tw16499430350825201421 tw16544364547882639249 tw12571093043087093816 tw9565583712972980309 tw13658849989173134707 tw10353376641704530708 tw8183458553129975518 tw1585518962424506082 tw7713501220792209703 tw5969611995414758354 tw7597400329160877729 tw137036999280411480 tw16074156678232754904 tw10364899399162464232 tw15749550408954165744 tw6691069340062293655 tw9379044144495060982 tw9298180783275579316 tw16877441071411046197 tw9024002418892884383 tw8531692559005235375 tw12971302070559391642 tw5482640850544665849 tw12891499296912483722 tw17109851620272750842 tw17226501006401622004 tw7801607282448572340 tw5664976859944484524 tw5970691011944118322 tw1910497737233142079 tw15135400223201054938 tw12089001839686633108 tw10942810256865625121 tw16537922830745298735 tw7197944802737044333 tw15950959805216096288 tw3656685436546716894 tw17978343284429828021 tw15388035298167534900 tw14643398985844787682 tw10422934615346144479 tw6400794459815918543 tw1384203554447991012 tw18105850389943782284 tw17509596189883322379 tw4407268646179345119 tw5581330173604156146 tw15923086810998340117 tw16515975318105037583 tw12455847819038005850 tw12620720644844596285 tw5754088857355388412 tw13454173311659580345 tw15535809897801844524 tw17879133133195058714 tw9890112029231809 tw14793452778584530058 tw13944019349261077905 tw1000737741825345934 tw11842890612866011726 tw16677027290189365219 tw15448246321492768479 tw4373941782951245999 tw4216918890652036062 tw52935770336988951 tw2240642638283836168 tw2495845742557304144 tw12517575822909086340 tw5510895813403609739 tw11261620032449034667 tw6719263662548968630 tw11504729116085755990 tw17952760379783869633 tw16366938657493370774 tw10430188183028631249 tw2799052091668005688 tw906197301903091044 tw11737304672185422833 tw45986726621484314 tw15298130577486861508 tw7876394309182344597 tw9955913904806699195 tw4835962699553128481 tw3608786663849790523 tw12550278413456591356 tw16806310072377345658 tw613355713199124264 tw17829578192466077925 tw3900245121430963421 tw9073673705386420052 tw7820576052164443328 tw1245513872626292793 tw14754017675712197008 tw12652189838428192403 tw4995724703839164879 tw18415002929678105825 tw4395805574940944862 tw14554190398456728989 tw9894818408570506030 tw4790274658770865744 tw8011941713729748478 tw3577885112573986406 tw4721433247240186663 tw16744259697865556909 tw13742337477592892618 tw12157844859809399479 tw17193065357291333903 tw10913839314923596781 tw3965282486392927856 tw11475540876158715034 tw834092371108824772 tw5167023204151569188 tw3041600630654832957 tw8288542530498289676 tw897373452637450212 tw14579111652582232110 tw1102435968365486655 tw7777363557010225925 tw10602287810860670278 tw735493504766123572 tw573525023043228438 tw9609017490808572492 tw15024302890280859755 tw2876727947946195473 tw4533010837955266835 tw16736183649234937693 tw1109951415804932747 tw4578176032364906154 tw6085873176378038235 tw9347847805432766345 tw7964360373921773060 tw1973356412134477863 tw17566879186951563928 tw15895622626141809181 tw14893573059960809552 tw906797505518552702 tw12072999081710806328 tw10709426239288172934 tw4756203324160168622 tw16694314608254808419 tw12434872523218036376 tw2874583296379739586 tw9286541930282483674 tw13378670055953941056 tw1729631433657795482 tw6266218100278184439 tw17995024864333191321 tw9685086937623271405 tw17278508994931749135 tw7165725389084753594 tw10009822502240662582 tw10139761873018299126 tw5488708061419343177 tw12045157522359146874 tw5446702449329732492 tw707708254199259191 tw13789765232009207697 tw16990897347393742054 tw11551675999358430756 tw10328320932919680825 tw11217241890702242709 tw14768450692189201914 tw5559933938286416757 tw16077009822240826390 tw1318904577170396603 tw8153116130877428945 tw8599887436349767440 tw7947846983812712270 tw2782346358131144647 tw13544451389017765538 tw8698792853471917703 tw4645673812362327026 tw13195024356177827230 tw14478585195436088630 tw17926343123604316607 tw12357189990787745887 tw2035484567413192955 tw5979907618843108972:True)
open PySem PySem.W PyProof.Rows
set_option maxRecDepth 100000 in
set_option maxHeartbeats 0 in
theorem PySem.Challenge.cw_mapround_k26_whole_leads_back_holds : PySem.Challenge.rw_mapround_k26_whole_leads_back.Holds := by
 w_on;o_law;k_head;(case hw=>w_witness2)
 k_fill
 refine K26.alM (l:=PySem.Challenge.rw_mapround_k26_whole_leads_back) rfl rfl (λw h Y=>W.kIn_of Y) ?F
 case F=>
  intro w mg fa h KX G hmg;apply K26.agJ KX G hmg
  all_goals first|exact Mr.ajN (by k_is) (by k_is) (by k_is) (by k_is)|exact Mr.aht (by k_is) (by k_is) (by k_is) (by k_is) (by k_is)|k_is|kernel_rfl

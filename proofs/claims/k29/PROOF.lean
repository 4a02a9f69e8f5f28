import PyProof.Rows.All
import Wide.All
import OpenK.AllK
import Wide.FinOn
import Lean
import PyProof.EqAt
import PyProof.EqKinds
import PyProof.TupleCall
import KE.KIntText
import PyProof.ConsumeWalk
import PySem.Challenge.RW_mapround_k29_whole_other_side
set_option Elab.async false
set_option linter.all false
set_option genSizeOf false
set_option bootstrap.genMatcherCode false
set_option compiler.extract_closed false
set_option maxRecDepth 100000
set_option maxHeartbeats 4000000
set_option tactic.hygienic false
set_option hygiene false
local macro_rules|`($a->$b)=>`(∀å:$a,$b)
local macro_rules|`(∅)=>`(by first|lia|exact hr.mono (by decide))
set_option hygiene true
local macro_rules|`(⋯)=>`(by first|decide|simp)
theorem a_(h:True:=by rfl):True:=h
theorem b_(h:True:=by decide):True:=h
theorem c_(h:True:=by trivial):True:=h
local macro_rules|`(↑$x)=>`(autoParam $x a_._auto_1)
local macro_rules|`(⇑$x)=>`(autoParam $x b_._auto_1)
local macro_rules|`(↥$x)=>`(autoParam $x c_._auto_1)
open Option renaming bind_eq_some_iff->oBq,map_eq_some_iff->oMq
open List renaming getElem?_eq_some_iff->gSq,getElem?_eq_getElem->gEg,getD_eq_getElem?_getD->gDq,length_append->lAq,length_map->lMq,mem_append->mAq,mem_flatten->mFq,mem_map->mMq,getElem?_map->gMq,mem_of_getElem?->mGq,map_congr_left->mCq,getElem_mem->gRq,length_singleton->lSq,mem_singleton->mSq,length_take->lTq,nodup_append->nAq,append_nil->aNq,flatten_append->fAq,getElem?_append_right->gYq,getElem?_append_left->gZq,length_cons->lCq,map_map->mPq,map_append->mBq,mem_cons_of_mem->mCo,length_set->lZq,flatten_cons->fCq,count_append->cAq,mem_cons->ag,append_assoc->ak,size_toArray->ao,map_cons->aq,length_drop->au,getElem?_set_ne->ay,replicate->aC,mem_append_right->aH,nodup_cons->aJ,flatten_singleton->aK,sublist_flatten_of_mem->aN,drop_eq_getElem_cons->aS,pairwise_append->aU,getElem?_set_self->aV,nodup_nil->aW,take_append_drop->aZ,nodup_iff_pairwise_ne->ba,mem_cons_self->bf,mem_of_mem_take->bg,length_range->bo,take_sublist->bq,take_length->bw,getElem?_set->bx,length_replicate->bA,mem_of_mem_drop->bC,Pairwise->bD,contains_cons->bE,getElem?_eq_none->bF,length_eq_zero_iff->bG,take_of_length_le->bJ,not_mem_nil->bL,pairwise_map->bM,range->bQ,Perm->bS,getElem?_replicate->bT,eraseIdx_cons_succ->bU,pairwise_cons->bV,mem_reverse->bX,drop_sublist->bY,perm_append_comm->cu,mem_iff_getElem?->cw,mem_append_left->cx,filter_cons_of_pos->cB,lookup->cG,length->cH,drop_eq_nil_of_le->cJ,perm_ext_iff_of_nodup->cK,map_nil->cL,pairwise_iff_getElem->cT,drop_length->cU,map_id->cW,any_eq_true->cX,getElem?_take_of_lt->cZ,idxOf_lt_length_iff->dc,mem_iff_getElem->df,drop_of_length_le->dB,countP_cons->dE,getElem?_drop->dF,length_filter_le->dG,length_nil->dJ,count_cons->dO,any_cons->dQ,take_add_one->dR,getElem?_zip_eq_some->dU,filter_cons_of_neg->eC,mem_filter->eD,find?_cons->eE,ext_getElem?->eM,eq_nil_or_concat->eN,concat_eq_append->eO,countP_le_length->eP,Sublist->eR,length_eraseIdx->eS,all_cons->eV,length_pos_iff->eW,getElem?_range->eX,eq_of_mem_replicate->eY,getElem_idxOf->ff,set_cons_zero->fh,mem_range->fu,drop_zero->fA,reverse_cons->fB,isEmpty_cons->fE,findIdx_cons->fF,find?_cons_of_pos->fG,find?_cons_of_neg->fJ,eraseIdxIfInBounds_toArray->fK,set_getElem_self->fQ,mem_flatMap->fV,findIdx_eq_length_of_false->fW,idxOf_cons_self->fZ,of_mem_zip->gc,drop_append_of_le_length->gf,take_append_of_le_length->gh,foldl_cons->gi,nil_append->gj,filter_map->gn,filterMap_cons->gA,set_cons_succ->gG,map_replicate->gH,countP_append->gI,append_of_mem->gJ,count_pos_iff->gK,filter_append->gL,eq_append_cons_of_mem->gR,idxOf_append->gU,cons_append->hW,map_fst_zip->hZ,perm_middle->ij,pairwise_mergeSort->iq,flatten_eq_nil_iff->iw,countP_cons_of_neg->iz,length_pos_of_mem->iB,not_of_lt_findIdx->iC,pairwise_lt_range->iE,filter_eq_nil_iff->iF,set_append_right->iH,getElem?_zipWith->iJ,countP_mono_left->iO,count_cons_of_ne->iQ,length_dropLast->iR,reverse_reverse->iS,getElem_toArray->iU,dropLast_concat->iV,nodup_iff_count->iW,reverse_append->ja,mergeSort_perm->jb,replicate_succ->jc,map_take->jd,length_reverse->je,flatMap_append->jf,perm_iff_count->jg,findIdx_append->jh,filter_sublist->ji,mem_filterMap->jl,set_set->jm,any_map->jn,getElem?_inj->ju,flatMap_cons->jv,lookup_cons->jA,getElem_map->jB,countP_map->jD,map->jE,take_left->jH,mapM_cons->jJ,zipWith->jP,flatten->jS
open PySem.Heap renaming get?_push_of_some->aa,lt_size->ai,get?_push_size->bp,get?_update_other->bI,get?_update_self->cV,get?_none_of_le->de,get?_update_ne->ee,size_update->eU,SameBut->fi,size_push->fv,get?_push_ne->fD,MadeExcOf->gD,update_setField_same->gV,get?_push_at->gW
open Nat renaming le_refl->ae,ne_of_lt->aB,lt_of_lt_of_le->aQ,zero_le->aY,le_trans->bh,le_succ->bR,le_of_lt->bZ,sub_self->cA,zero_add->cO,lt_succ_of_lt->dk,lt_irrefl->du,lt_succ_self->dA,not_lt_zero->dN,lt_succ_iff_lt_or_eq->dY,ne_of_gt->ef,min_eq_left->eF,lt_or_eq_of_le->eZ,le_of_eq->fj,add_assoc->fO,le_add_right->fP,min_eq_right->fR,add_comm->gw,add_one_sub_one->gB,pos_of_ne_zero->gF,mod_eq_of_lt->ik,add_sub_cancel_left->ip,le_of_ble_eq_true->iK,add_le_add_left->iY,mod_self->jo,le_of_lt_succ->jq,lt_trichotomy->jr,le_of_not_lt->jy,add_zero->jO,sub_zero->jQ
open Array renaming getElem?_eq_getElem->af,length_toList->aD,getElem?_toList->aO,getElem?_eq_some_iff->aR,toList_append->aT,getElem_mem->bu,toList_reverse->dg,toList_push->eJ,size_extract->fg,mem_toList_iff->fY,toList_extract->gb,toList_setIfInBounds->gP,getElem?_extract->iD,getD->iZ,append_assoc->jk,Perm->jF,size_map->jI
open PySem.Value renaming ref->ah,type->cI,none->dr,builtin->dw,int->gS,str->iG,bool->iX,float->jw,isStrOf->jL,isInt->jU,bytes->jV
open PySem.F renaming plainAttrs_list->aj,slot_list_append->aF,type_list_append->aG,slot_list_index->dm,slot_list_extend->dW,type_list_extend->dX,typeOf_object_class->eQ,excBase_ValueError->eT,type_list_index->fk,slot_list_pop->fT,type_list_pop->fU,slot_gs_get->gC,excAttr_ValueError->gQ,args_list_index_2->gX,args_tuple_add_2->hU,entry_list_index->hV,entry_tuple_add->il,slot_list_count->ir,slot_tuple_add->iA,entry_bexc_ga->iI,store_object->iT
open PyProof.Rows renaming boot_isinstance->aA,boot_list->bO,callWith_type1->cE,slot_tuple_getitem->dZ,boot_tuple->fq,callWith_builtin1->fX,boot_str->iM,boot_sorted->jN,boot_bool->jT,boot_min->jX,boot_int->jY,lt_int->jZ
open Bool renaming false_ne_true->aE,false_eq_true->bW,and_eq_true->cS,eq_iff_iff->dh,not_eq_true->dC,or_true->eh,not_true->fS,eq_false_iff->gY,or_false->gZ,not_eq_true'->jt,noConfusion->jz,false_and->jG,false_or->jM
open Option renaming some->bj,map_some->bK,bind_some->bP,none_or->cg,or_none->cj,some_or->cY,map_none->gk,isSome_map->gT,bind_none->ie,getD_none->jx,none->jW
open Int renaming emod_lt_of_pos->bz,emod_nonneg->bB,toNat_natCast->eI,le_of_lt->gv,fdiv_eq_ediv_of_nonneg->gM,le_refl->gO,neg_neg->iN,mul_le_mul->jK,zero_add->jR
open Sum renaming inl->bH,inr->dP
open Or renaming inr->gu,inl->jj
open Classical renaming propDecidable->iu
open Prod renaming ext->jC
open PySem renaming Shared->ke,model->kg,wpAny_bind->ki,wpAny->kj,mainGlobals->kr,starEach->ku,Program->kx,sizeLine->ky,FuncData->kz,wpAny_pure->kA,World->kB,wpAny_loadPart_at->kC,typeLookup->kF,wpAny_mono->kG,call_isinstance->kH,excClassObj->kK,wpAny_isSubtype_exc->kL,wpAny_Call_Name_kw->kM,backTo->kN,sizeLine_eq->kO,cLine->kP,codeAny_call_builtin->kQ,wpAny_execs_nil->kR,wpAny_truthy_bool->kU,OwnTail->kW,compareOp->kX,sysModules->lu,Scope->lz,wpAny_passesOwn->lB,isinstance_true->lC,wpAny_newObj_type->lD,wpAny_call->lF,codeAny->lH,binaryOp->lJ,codeAny_mono->lK,bootBuiltins->lO,relabel->lQ,swapsWith->lS,isinstance_false_int->lU,wpAny_execs_cons->lV,call_meets->lX,Model->lY,wpAny_holding->lZ,behindInMarks->mh,wpAny_field->mi,sliceBounds->mj,keywordEach->mn,getMethod->mw,attributeBase->mC,checkBuiltinCall->mD,setFlight->mF,plainObj_wpAny_Assign_Attribute->mG,letOwnedTupleGo->mH,assignEach->mJ,rawInt->mK,recursionLimit->mL,handleBy->mN,backToKw->mO,GenState->mP,standAt->mQ,holding->mS,getItem->mU,tupleKind_room_in1->mV,wpAny_newFunctionEnv_cells->mW,wpAny_standAt->mX,wpAny_Assign_Name->mY,foldedSetIterable->mZ,wpAny_check_type_call_sub->nc,codeAny_call_builtin_code->nh,isInstance->ni,valueAt->nj,callerA->nq,BindsTo->nr,wpAny_comprehension_free->nu,callWith->ny,IsPart->nA,codeAny_call_builtin_at->nB,wpAny_specialOf->nC,codeAny_builtin->nF,tupleKind->nH,noteFrame->nI,cellsFrom->nJ,bindL->nK,bindC->nO,atKey->nP,subscripted->nR,wpAny_isTrue_Compare1->nS,wpAny_check_init_subT->nT,isinstance_false_none->nU,codeAny_handlers_test->nV,codeAny_call_function->nW,wpAny_setField->nX,assign->nY,Result->nZ,wpAny_check_new_subT->oa,unbindBehindTheSuite->og,lookup_relabel_local->oh,isinstance_false_str->oi,codeAny_exc_new_subT->oj,plainId_quiet->oq,wpAny_handleBy_cons->aa6,wpAny_typeOf->abH,seqIndex?->ac0,getAttr->ac1,OsState->ac2
open PyProof.Rows renaming Keyed->kf,wpS_bind->km,wpS_pure->ko,arrOf->kE,envOfC->kJ,wpS_forRange->kS,wpS_mono->kT,setArr->kY,seqObj->kZ,SortKind->lg,IntsAre->lj,elem'->ly,pairsOf->lG,pendingOf->lI,wpS_modify->lW,wpS_get->mq,getElem?_mirror_all->mv,AllBare->mz,reverseSlice'->mB,oneType'->mE,pairsOf_size->mI,gallopOf->nv,get?_update_seq->nD,subscriptTail_builtinR->nQ,subscriptTail->om,listUpdate_at->aaK,seqEpoch_at->ac3
open Option renaming none->n_
open Bool renaming true->t_,false->f_
open Lean in
local macro_rules|`(tactic|have $p:term:=$e)=>do
  if !p.raw.isOfKind `Lean.Parser.Term.tuple then Macro.throwUnsupported
  let n(s x):=Syntax.node .none (`Lean.Parser.Tactic++s) x
  let m x:=n `rcasesPatMed #[mkNullNode #[x]]
  let q:=p.raw.rewriteBottomUp λs=>if s.isIdent then n `rcasesPat.one #[s] else match s with
  |.node _ k x=>if k== `Lean.Parser.Term.tuple then n `rcasesPat.tuple #[mkAtom "⟨",mkNullNode (mkSepArray ((#[x[1]!.getArg 0]++(x[1]!.getArg 2).getSepArgs).map λy=>n `rcasesPatLo #[m y,mkNullNode]) (mkAtom ",")),mkAtom "⟩"]
   else if k== `Lean.Parser.Term.hole then n `rcasesPat.ignore #[mkAtom "_"] else s
  |_=>s
  let r<-`(tactic|obtain x:=$e)
  pure (r.raw.setArg 1 (mkNullNode #[m q]))
local macro_rules|`(($a,$b,*))=>`(⟨$a,$b,*⟩)
local macro_rules|`(%[$a|$b])=>`(Prod.mk $a $b)
local macro_rules|`(tactic|show $e)=>`(tactic|refine $e)
abbrev Λ:=List<|List Int
abbrev Ϝ:=List Int
abbrev Φ:=List<|PySem.Addr×PySem.Obj
abbrev Δ:=List PySem.Addr
abbrev Θ:=List Nat
abbrev Ξ:=List PySem.Value
abbrev Ω:=Array PySem.Value
abbrev Υ:=Option PySem.Value
abbrev Ψ:=PySem.Value->PySem.Shared->Prop
abbrev Ζ:=PySem.W.Frag
noncomputable section
open Array renaming mem_of_getElem?->aQq
local macro_rules|`(tactic|trivial)=>`(tactic|first|exact jj rfl|exact gu rfl|exact gu (jj rfl)|exact gu (gu rfl)|exact⟨rfl,rfl,rfl,by decide +kernel,rfl,by decide +kernel,by decide +kernel⟩|decide +kernel|fail)
local macro_rules|`(tactic|rfl')=>do let l<-("Nat.le_refl _,Nat.zero_le _,Nat.succ_pos _,Nat.le_add_right _ _,Nat.le_add_left _ _,Nat.le_succ _,Nat.le_of_lt a,Nat.le_of_not_lt a,Nat.le_of_lt_succ a,Nat.lt_succ_of_le a,Nat.le_succ_of_le a,Nat.sub_pos_of_lt a,Nat.le_of_eq a,Nat.le_antisymm a a,Nat.add_sub_cancel' a,Nat.sub_add_cancel a,Nat.add_comm _ _,Nat.add_right_comm _ _ _,Int.le_of_lt a,Int.ofNat_nonneg _,Int.lt_of_lt_of_le a a,Int.le_trans a a".splitOn ",").mapM λs=>do{let w:=s.splitOn;let a<-w.tail.mapM λx=>if x=="_" then `(_) else `(‹_›);let a:=a.toArray;`(tactic|exact $(Lean.mkIdent w.head!.toName) $a*)};let l:=l.toArray;`(tactic|first|assumption|rfl|(first $[|$l:tactic]*)|exact Nat.le_antisymm ‹_› (jy ‹_›)|exact (fO _ _ _).symm|exact absurd ‹_› (du _)|exact Int.not_lt.1 ‹_›|ac_rfl)
local macro_rules|`(tactic|ac_nf)=>`(tactic|simp +arith[*])
def qF{c}{_:Decidable c}(h:c){α}{t e:α}:ite c t e=t:=if_pos h
def qL{c}{_:Decidable c}(h:¬c){α}{t e:α}:ite c t e=e:=if_neg h
theorem d0{p}[Decidable p](h:p):decide p=t_:=decide_eq_true h
theorem d4{p}[Decidable p](h:¬p):decide p=f_:=decide_eq_false h
namespace L2
open PySem PySem.Spec PyProof.Rows
abbrev rD:=Sum Int Str
noncomputable def Nq:rD->Value->Bool
 | .inl k,v=>jU k v
 | .inr x,v=>jL x v
noncomputable def aoe(w:kB):rD->Int
 | .inl k=>hashInt k
 | .inr x=>hashStr w x
def uz:∀{k}{v},Nq k v=t_->(∃i t,k=bH i/\v=gS i t)∨(∃x t,k=dP x/\v=iG x t)
 | .inl i,v,h=>by have(t,e):=Value.isInt_shape (k:=i) (v:=v) h;show .inl (i,t,rfl,e)
 | .inr x,v,h=>by have(t,e):=Value.isStrOf_shape (x:=x) (v:=v) h;show .inr (x,t,rfl,e)
def YE(i)t:Nq (.inl i) (.int i t)=t_:=by simp[Nq,jU]
def X9(x)t:Nq (.inr x) (.str x t)=t_:=by simp[Nq,jL]
def ai2 a b:decide ((bH a:rD)=bH b)=(a == b):=by
 by_cases e:a=b;.subst e;simp
 .have h:¬ (bH a:rD)=bH b:=λq=>e<|bH.inj q;rw[d4 h];show(beq_eq_false_iff_ne.mpr e).symm
def ajw a b:decide ((dP a:rD)=dP b)=decide (a=b):=by
 by_cases e:a=b;.subst e;simp
 .have h:¬ (dP a:rD)=dP b:=λq=>e<|dP.inj q;rw[d4 h,d4 e]
def ajS(a)b:decide ((bH a:rD)=dP b)=f_:=d4<|λq=>nomatch q
def ajv(a)b:decide ((dP a:rD)=bH b)=f_:=d4<|λq=>nomatch q
def uR(prog)w:PySem.KeyKind prog w rD where
 is:=Nq
 hash:=aoe w
 inj:=λv a b ha hb=>by
  rcases uz ha with⟨i,t,rfl,rfl⟩|⟨x,t,rfl,rfl⟩
  .rcases uz hb with⟨j,u,rfl,e⟩|⟨y,u,rfl,e⟩;.injection e with e1 _;rw[e1]
   .show nomatch e
  .rcases uz hb with⟨j,u,rfl,e⟩|⟨y,u,rfl,e⟩;.show nomatch e
   .injection e with e1 _;rw[e1]
 byValue:=λk v h=>by rcases uz h with⟨i,t,rfl,rfl⟩|⟨x,t,rfl,rfl⟩ <;> rfl
 pyHash:=λl h=>by
  rcases uz l with⟨i,t,rfl,rfl⟩|⟨x,t,rfl,rfl⟩;.show wpAny_pyHash_int h
  .show wpAny_pyHash_str h
 eqBool:=λn l h=>by
  rcases uz n with⟨i,t,rfl,rfl⟩|⟨x,t,rfl,rfl⟩
  .rcases uz l with⟨j,u,rfl,rfl⟩|⟨y,u,rfl,rfl⟩;.rw[ai2]at h;show wpAny_eqBool_int h
   .rw[ajS]at h;show SeqAt.EqAt.int_str i t y u _ _ _ _ h
  .rcases uz l with⟨j,u,rfl,rfl⟩|⟨y,u,rfl,rfl⟩;.rw[ajv]at h;show SeqAt.EqAt.str_int x t j u _ _ _ _ h
   .rw[ajw]at h;show wpAny_eqBool_str h
 «strs»:=λk x t v h=>by
  rcases uz h with⟨i,u,rfl,e⟩|⟨y,u,rfl,e⟩;.show nomatch e
  .injection e with e1 _;subst e1;cases v <;> rfl
def Rw(prog)w i t:(uR prog w).is (.inl i) (.int i t)=t_:=YE i t
def QY(prog)w x t:(uR prog w).is (.inr x) (.str x t)=t_:=X9 x t
inductive V where
 |non|bl (b:Bool)|int (i:Int)|str (x:Str)|byt (b:Array UInt8)|flt (b:UInt64)|ref (a:Addr)|ty (n:String)
 deriving DecidableEq
def rS:V->Value->Prop
 | .non,u=>u=dr
 | .bl b,u=>u=iX b
 | .int i,u=>∃t,u=gS i t
 | .str x,u=>∃t,u=iG x t
 | .byt b,u=>∃t,u=jV b t
 | .flt b,u=>∃t,u=jw b t
 | .ref a,u=>u=ah a
 | .ty n,u=>u=cI n
abbrev qS:List V->Ξ->Prop:=Paired rS
theorem qS.length(r:qS xs us):xs.length=us.length:=Paired.length r
theorem qS.get:∀{xs}{us}{i:Nat}{x},qS xs us->xs[i]?=bj x->∃u,us[i]?=bj u/\rS x u
 |_,_,_,_,.nil,e=>by simp at e
 |_,_,0,_,.cons r _,e=>by simp at e;subst e;show(_,rfl,r)
 |_,_,i+1,x,.cons _ t,e=>by
  have(u,l,n):=qS.get (i:=i) (x:=x) t<|by show e
  show(u,by show l,n)
theorem qS.set(r:rS x u):∀{xs}{us}i,qS xs us->qS (xs.set i x) (us.set i u)
 |_,_,_,.nil=>.nil
 |_,_,0,.cons _ t=>.cons r t
 |_,_,i+1,.cons q t=>.cons q<|qS.set r i t
theorem qS.append:∀{xs l}{us n},qS xs us->qS l n->qS (xs++l) (us++n)
 |_,_,_,_,.nil,s=>s
 |_,_,_,_,.cons r t,s=>.cons r<|qS.append t s
theorem qS.take:∀{xs}{us}n,qS xs us->qS (xs.take n) (us.take n)
 |_,_,0,_=>.nil
 |_,_,_+1,.nil=>.nil
 |_,_,n+1,.cons r t=>.cons r<|qS.take n t
theorem qS.drop:∀{xs}{us}n,qS xs us->qS (xs.drop n) (us.drop n)
 |_,_,0,r=>r
 |_,_,_+1,.nil=>.nil
 |_,_,n+1,.cons _ t=>qS.drop n t
def Du:Option V->Υ->Prop
 |bj v,bj u=>rS v u
 |n_,n_=>True
 |_,_=>False
def KV:List (κ×V)->List (κ×Value)->Prop:=Paired λ(p:κ×V) (q:κ×Value)=>p.1=q.1/\rS p.2 q.2
noncomputable def kV:rD->V
 | .inl i=>.int i
 | .inr x=>.str x
inductive HO where
 /-- a list -/
 |lst (xs:List V)
 /-- a tuple (never changes) -/
 |tup (xs:List V)
 /-- a dict whose keys are ints and texts;one whose keys are tuples of ints and texts (the empty one is Gg) -/
 |dK (kvs:List<|rD×V)|dT (kvs:List<|List rD×V)
 /-- a set of ints: its members,its size -/
 |set (S:Int->Bool) (n:Nat)
 /-- an instance of the class at C,its dict at dx,its attributes -/
 |ins (C dx:Addr) (fs:List<|Str×V)
 /-- the dict of the instance at x -/
 |own (x:Addr)
 /-- the dict of an exception -/
 |xd (fs:List<|Str×V)
 /-- a bound method,f of x -/
 |met (f x:Addr)
 /-- a range object lo,lo+1,.. below hi -/
 |rng (lo hi:Int)
 /-- a thing that is known to the object (the script;a dict while a loop walks it): read,never written while it is so -/
 |frz (o:Obj) (u:HO)
 /-- a code object's table -/
 |tbl (ps:Ω)
 /-- any other thing,by what is true of its one object (a def of one's own: SetO a S n:=HO.ext λh=>..) -/
 |ext (φ:Heap->Prop)
abbrev Hp:=Addr->Option HO
noncomputable def rO(H:Hp)(a:Addr)(o:HO):Hp:=λb=>if b=a then bj o else H b
def pH:rO H a o a=bj o:=by unfold rO;rw[qF rfl]
def pB(h:b≠a):rO H a o b=H b:=by unfold rO;rw[qL h]
def EO:rO (rO H a o) a u=rO H a u:=by funext b;unfold rO;split <;> rfl
def alT{H:Hp}(h:H a=bj o)(h':H b=bj u)(d:o≠u):a≠b:=by intro e;subst e;rw[h]at h';show d<|bj.inj h'
def tZ{H:Hp}(h:H a=bj o)(h':H b=n_):a≠b:=by intro e;subst e;rw[h]at h';cases h'
section
variable (P:kx)(w:kB)
def tT(H:Hp)(h:Heap)(a:Addr):HO->Prop
 | .lst xs=>xs.length<=ky/\∃l n,qS xs l/\h.get? a=bj { cls:=.type "list", data:=.seq l.toArray n }
 | .tup xs=>xs.length<=ky/\∃l:Ξ,qS xs l/\IsTup h a l.toArray
 | .dK kvs=>kvs.length<=ky/\(a == lu)=f_/\∃vs,KV kvs vs/\h.DictOf (uR P w) a vs
 | .dT kvs=>kvs.length<=ky/\(a == lu)=f_/\∃xs:List (List rD×Addr×Value),
   Paired (λ(p:List rD×V) (q:List rD×Addr×Value)=>p.1=q.1/\H q.2.1=bj (.tup<|p.1.map kV)/\rS p.2 q.2.2) kvs xs /\
   ∃o B I,h.get? a=bj o/\o.ExactDict/\o.data = .dict B I/\B.toList=xs.map (entryOfKey<|nH<|uR P w)/\(xs.map (·.1)).Nodup
 | .set S n=>h.SetOf (intKind P w) a S n
 | .ins C z fs=>H z=bj (.own a)/\fs.length<=1000/\z≠a/\h.get? a=bj (W.instObj C z) /\
   ∃s,h.Ns1 z s/\(∀f,Du (fs.lookup f)<|s f)/\PySem.Within s (fs.map (·.1))
 | .own _=>∃o,h.get? a=bj o
 | .xd fs=>∃s,h.Ns1 a s/\∀f,Du (fs.lookup f)<|s f
 | .rng lo hi=>∃t u v,h.get? a=bj { cls:=.type "range", data:=.fields #[.int lo t,.int hi u,.int 1 v] }
 | .frz o u=>h.get? a=bj o/\tT H h a u
 | .tbl ps=>h.get? a=bj { cls:=.none,data:=.fields ps }
 | .met f x=>h.get? a=bj (W.methodObj (.ref f)<|.ref x)
 | .ext φ=>φ h/\(∃o,h.get? a=bj o)/\∀E G:Heap,φ E->(∀o,E.get? a=bj o->G.get? a=bj o)->φ G
def Dw(H:Hp)(h:Heap):Prop:=∀a o,H a=bj o->tT P w H h a o
end
section
variable {a:Addr}
theorem tT.lt(x:tT P w H h a o):a<h.objs.size:=by cases o with
 |lst s=>have(_,_,_,_,e):=x;show ai e
 |tup s=>have(_,_,_,p):=x;show p.lt
 |dK l=>have(_,_,_,_,o,_,_,e,_):=x;show ai e
 |dT l=>have(_,_,_,_,o,_,_,e,_):=x;show ai e
 |set S n=>have(o,_,_,_,e,_):=x;show ai e
 |ins C t fs=>have(_,_,_,e,_):=x;show ai e
 |own y=>have(_,e):=x;show ai e
 |xd fs=>have(_,(_,_,_,e,_),_):=x;show ai e
 |rng lo hi=>have(_,_,_,e):=x;show ai e
 |frz z u=>have(e,_):=x;show ai e
 |tbl ps=>show ai<|show h.get? a=bj _ from x
 |met f y=>show ai<|show h.get? a=bj _ from x
 |ext φ=>have(_,(_,e),_):=x;show ai e
theorem Paired.mapP{F G:α->β->Prop}:∀{l}{n},Paired F l n->(∀a b,F a b->G a b)->Paired G l n
 |_,_,.nil,_=>.nil
 |_,_,.cons r t,f=>.cons (f _ _ r)<|Paired.mapP t f
def tT.stay(x:tT P w H h a o)(k:∀b u,(b=a∨H b=bj (.own a))->h.get? b=bj u->h'.get? b=bj u)
  (L:∀b,H b=bj (.own a)->H' b=bj (.own a)) (ht:∀b xs,H b=bj (.tup xs)->H' b=bj (.tup xs)):tT P w H' h' a o:=by induction o with
 |lst xs=>have(z,E,n,r,e):=x;show(z,E,n,r,k _ _ (.inl rfl) e)
 |tup xs=>have(z,E,r,l,e,c):=x;show(z,E,r,l,k _ _ (.inl rfl) e,c)
 |dK G=>have(z,y,M,r,l,s,B,e,c):=x;show(z,y,M,r,l,s,B,k _ _ (.inl rfl) e,c)
 |dT G=>have(z,y,xs,r,l,s,B,e,c):=x;show(z,y,xs,Paired.mapP r λp q z=>(z.1,ht _ _ z.2.1,z.2.2),l,s,B,k _ _ (.inl rfl) e,c)
 |set S n=>have(l,s,B,t,e,c):=x;show(l,s,B,t,k _ _ (.inl rfl) e,c)
 |ins C Q fs=>have(d,z,ne,e,I,(J,s,B,e2,c),r):=x;show(L _ d,z,ne,k _ _ (.inl rfl) e,I,(J,s,B,k _ _ (.inr d) e2,c),r)
 |own y=>have(l,e):=x;show(l,k _ _ (.inl rfl) e)
 |xd fs=>have(I,(J,s,B,e,c),r):=x;show(I,(J,s,B,k _ _ (.inl rfl) e,c),r)
 |rng lo hi=>have(t,u,v,e):=x;show(t,u,v,k _ _ (.inl rfl) e)
 |frz l u O=>have(e,q):=x;show(k _ _ (.inl rfl) e,O q)
 |tbl ps=>have e:h.get? a=bj { cls:=.none,data:=.fields ps }:=x;change h'.get? a=bj { cls:=.none,data:=.fields ps };show k a _ (.inl rfl) e
 |met f y=>have e:h.get? a=bj (W.methodObj (.ref f)<|.ref y):=x;change h'.get? a=bj (W.methodObj (.ref f)<|.ref y);show k a _ (.inl rfl) e
 |ext φ=>have(p,(o,e),st):=x;show(st _ _ p λo q=>k _ _ (.inl rfl) q,(o,k _ _ (.inl rfl) e),st)
theorem Dw.lt(x:Dw P w H h)(e:H a=bj o):a<h.objs.size:=(x a o e).lt
def Dw.fresh(x:Dw P w H h)(e:h.objs.size<=a):H a=n_:=by cases q:H a with
 |none=>rfl
 |some u=>show absurd (aQ (x.lt q) e)<|du _
def Dw.kept(x:Dw P w H h)(k:∀b u,h.get? b=bj u->h'.get? b=bj u):Dw P w H h':=λa o e=>(x a o e).stay (λb u Q q=>k b u q) (λQ q=>q) λQ Q q=>q
def Dw.laid(x:Dw P w H h)(k:∀b u,h.get? b=bj u->h'.get? b=bj u)(l:h.objs.size<=a)(new:tT P w (rO H a o) h' a o):Dw P w (rO H a o) h':=λb u e=>by
 have hn:=x.fresh l;by_cases hb:b=a;.subst hb;rw[pH]at e;cases e;show new
 .rw[pB hb]at e;show(x b u e).stay (λc v Q q=>k c v q) (λc q=>by rw[pB<|tZ q hn];show q) λc n q=>by rw[pB<|tZ q hn];show q
end
def Rd(H:Hp)(a:Addr)(u:HO):Prop:=H a=bj u∨∃o,H a=bj (.frz o u)
def Rd.ok(r:Rd H a u)(x:Dw P w H h):tT P w H h a u:=by
 rcases r with r|⟨o,r⟩;.show x a u r
 .have(_,q):=x a _ r;show q
def Mut:Option HO->Prop
 |bj (.lst _)=>True
 |bj (.dK _)=>True
 |bj (.dT _)=>True
 |bj (.set _ _)=>True
 |bj (.ins _ _ _)=>True
 |bj (.ext _)=>True
 |_=>False
def Dw.write(ok:Dw P w H h)(mu:Mut<|H x)(G:e=x∨H e=bj (.own x))(k:∀b u,b≠e->h.get? b=bj u->h'.get? b=bj u)(E:∃u,h'.get? e=bj u)
  (new:tT P w (rO H x o') h' x o'):Dw P w (rO H x o') h':=λb u q=>by
 have n:∀c y,H c=bj (.own y)->c≠x:=λc y r z=>by subst z;rw[r]at mu;show mu
 have s:∀c t,H c=bj (.tup t)->c≠x:=λc t r z=>by subst z;rw[r]at mu;show mu
 by_cases hb:b=x;.cases hb;rw[pH]at q;cases q;show new
 .rw[pB hb]at q;by_cases l:b=e
  .have I:H b=bj (.own x):=by
    rcases G with z|z;.show absurd (l.trans z) hb
    .rw[l];show z
   rw[q]at I;cases I;have(v,J):=E;show(v,by rw[l];show J)
  .show(ok b u q).stay (λc v B r=>k c v ?_ r) (λc r=>by rw[pB<|n c b r];show r) λc t r=>by rw[pB<|s c t r];show r
   rcases B with rfl|B;.show l
   .rintro rfl;rcases G with z|z;.show n c b B z
    .rw[B]at z;cases z;show hb rfl
structure Un (fs ex:Δ)(H H':Hp)(h h':Heap):Prop where
 keep:∀b o,h.get? b=bj o->H b=n_->b∉fs->b∉ex->h'.get? b=bj o
 slot:∀b o,h.get? b=bj o->H b=n_->b∈fs->b∉ex->∃sl,h'.get? b=bj { o with slots:=sl }
 free:∀b o,h.get? b=bj o->H b=n_->b∉ex->H' b=n_
 there:∀b o,h.get? b=bj o->b∉ex->∃o',h'.get? b=bj o'
 tups:∀b xs,H b=bj (.tup xs)->H' b=bj (.tup xs)
 frzs:∀b o u,H b=bj (.frz o u)->H' b=bj (.frz o u)
 tbls:∀b ps,H b=bj (.tbl ps)->∃more,H' b=bj (.tbl<|ps++more)
section
variable {a:Addr}
def Un.any(u:Un fs ex H H1 h h1)(q:h.get? b=bj l)(n:H b=n_)(s:b∉ex):∃t,h1.get? b=bj { l with slots:=t }:=by
 by_cases hb:b∈fs;.show u.slot b l q n hb s
 .show(l.slots,u.keep b l q n hb s)
def Un.kept(k:∀b u,h.get? b=bj u->h'.get? b=bj u):Un fs ex H H h h':=(λb l q Q Q Q=>k b l q,λb l q Q Q Q=>(l.slots,k b l q),λQ Q Q n Q=>n,λb l q Q=>(l,k b l q),λQ Q q=>q,λQ Q Q q=>q,λQ ps q=>(#[],by rw[q];rfl))
def Un.refl:Un fs ex H H h h:=Un.kept λQ Q q=>q
def Un.laid(k:∀b u,h.get? b=bj u->h'.get? b=bj u)(l:h.objs.size<=a)(hn:H a=n_):Un fs ex H (rO H a o) h h' where
 keep:=λb u q Q Q Q=>k b u q
 slot:=λb u q Q Q Q=>(u.slots,k b u q)
 free:=λb u q n Q=>by rw[pB<|aB<|aQ (ai q) l];show n
 there:=λb u q Q=>(u,k b u q)
 tups:=λb xs q=>by rw[pB<|tZ q hn];show q
 frzs:=λb u xs q=>by rw[pB<|tZ q hn];show q
 tbls:=λb ps q=>(#[],by rw[pB<|tZ q hn,q];rfl)
def Un.write(mu:Mut<|H x)(B:e=x∨H e=bj (.own x))(k:∀b u,b≠e->h.get? b=bj u->h'.get? b=bj u)(s:∃u,h'.get? e=bj u):Un fs ex H (rO H x o) h h':=by
 have t:∀b,H b=n_->b≠x:=λb n z=>by subst z;rw[n]at mu;show mu
 have hb:∀b,H b=n_->b≠e:=λb n z=>by
  subst z;rcases B with r|r;.show t b n r
  .rw[n]at r;cases r
 have hm:∀b u,H b=bj u->¬ Mut (bj u)->b≠x:=λb u q nm z=>by subst z;rw[q]at mu;show nm mu
 show(λb u q n Q Q=>k b u (hb b n) q,λb u q n Q Q=>(u.slots,k b u (hb b n) q),λb u q n Q=>by rw[pB<|t b n];show n,λb u q Q=>?_,
  λb E q=>by rw[pB<|hm b _ q λz=>z];show q,λb u E q=>by rw[pB<|hm b _ q λz=>z];show q,λb ps q=>(#[],by rw[pB<|hm b _ q λz=>z,q];rfl));by_cases l:b=e;.subst l;show s
 .show(u,k b u l q)
end
noncomputable def trk(h:Heap)(H:Hp):Δ:=(bQ h.objs.size).filter λa=>(H a).isSome
def O2(h:Heap)(H:Hp):Heap:=W.hideAll h<|trk h H
def Yh(h)H:(O2 h H).objs.size=h.objs.size:=W.hideAll_size _ _
def Y3(e:h.get? b=bj o)(n:H b=n_):(O2 h H).get? b=bj o:=W.hideAll_get _ e λhm=>by have q:(H b).isSome=t_:=(eD.mp hm).2;rw[n]at q;simp at q
def ael(e:(O2 h H).get? b=bj o):h.get? b=bj o/\H b=n_:=by have l:h.get? b=bj o:=W.of_hideAll (trk h H) e;show(l,?_);cases q:H b with
 |none=>rfl
 |some x=>
  have hm:b∈trk h H:=eD.mpr (fu.mpr<|ai l,by simp[q]);have z:(O2 h H).get? b=n_:=W.hideAll_none (trk h H) hm;rw[z]at e;cases e
noncomputable def afm(g h:Heap)(L:Addr):Φ:=(bQ h.objs.size).filterMap λa=>if a=L∨(g.get? a).isSome=t_ then n_ else (h.get? a).map λo=>%[a|o]
def rest(g h:Heap)(L d:Addr):Φ:=(afm g h L).filter λp=>decide<|p.1≠d
structure Mod (K:Ζ)(mg:Str->Υ)(base:Heap):Prop where
 kin:K.In base
 glob:base.Ns kr mg
 blt:∃mb,base.Ns builtinsNs mb/\∀x:Str,x ≠ "__name__" -> mb x=lO x
 nolimit:base.NoLimit
structure Cx where
 prog:kx
 w:kB
 K:Ζ
 mg:Str->Υ
 base:Heap
 A:Around
 N:List Str
 s₀:ke
 H₀:Hp
 env:Env
 outer:List Env
 stack:List Env
 ex:Δ
 fn:Str->Bool
 calm:Bool
 pn:Φ
 xe:Value->ke->Prop
noncomputable def UE(l:List Env):Δ:=l.filterMap (·.frame)
abbrev Cx.fs(X:Cx):Δ:=UE X.outer
def Vis(sc:lz)(x:Str):Prop:=sc.names.lookup x=bj .local∨sc.names.lookup x=bj .cell∨sc.names.lookup x=bj .free
def Loc(sc:lz)(x:Str):Prop:=sc.names.lookup x=bj .local∨sc.names.lookup x=bj .cell
def al9(env:Env)(h:Heap)(m:Str->Υ)(x:Str)(u:Value):Prop:=(env.kindOf x=bj .local/\m x=bj u)∨((env.kindOf x=bj .cell∨env.kindOf x=bj .free)/\∃c,env.cells.lookup x=bj c/\h.IsCell c (bj u))
structure Cx.Ok (X:Cx):Prop where
 mod:Mod X.K X.mg X.base
 kind:X.env.scope.kind = .function
 glob:X.env.globals=kr
 blt:X.env.builtins=builtinsNs
 above:X.s₀.heap.objs.size<=X.env.locals
 inj:∀x y c,X.env.cells.lookup x=bj c->X.env.cells.lookup y=bj c->x=y
 has:∀x,(X.env.kindOf x=bj .cell∨X.env.kindOf x=bj .free)->∃c,X.env.cells.lookup x=bj c
 cab:∀x c,X.fn x=t_->X.env.cells.lookup x=bj c->X.s₀.heap.objs.size<=c
 hd:X.calm=t_->X.A.handled=n_
 frames:X.A.frames=bj X.stack
 stk:X.stack=X.outer∨(X.stack=X.env::X.outer/\X.env.frame=bj X.env.locals)
 exf:∀b∈X.ex,b≠X.env.locals/\∀x c,X.env.cells.lookup x=bj c->c≠b
 bs:∀b o,X.base.get? b=bj o->X.s₀.heap.get? b=bj o/\X.H₀ b=n_
 bsz:X.base.objs.size<=X.s₀.heap.objs.size
 noex:∀b o,X.base.get? b=bj o->b∉X.ex
 exfs:∀b∈X.ex,b∉X.fs
 funs:X.s₀.heap.FunFrames X.base X.outer
 frf:∀b∈X.fs,X.H₀ b=n_
structure qt (X:Cx)(ou:Φ)(σ:List<|Option V)(H:Hp)(s:ke):Prop where
 ok:X.Ok
 os:s.os=X.s₀.os
 bare:mz s.gens
 base:Un X.fs X.ex X.H₀ H X.s₀.heap s.heap
 loc:∃m,s.heap.Ns X.env.locals m/\∀(i:Nat) (x:Str) (v:V),X.N[i]?=bj x->σ[i]?=bj (bj v)->Vis X.env.scope x->∃u,rS v u/\al9 X.env s.heap m x u
 cell:∀x c,X.env.cells.lookup x=bj c->∃v,s.heap.IsCell c v
 free:H X.env.locals=n_
 freeC:∀x c,X.env.cells.lookup x=bj c->H c=n_
 pin:∀p∈X.pn++ou,s.heap.get? p.1=bj p.2/\H p.1=n_/\p.1≠X.env.locals/\p.1∉X.fs/\∀v,p.2.data ≠ .cell v
 hok:Dw X.prog X.w H s.heap
 len:σ.length=X.N.length
section
variable {X:Cx}
def Cx.Ok.nofr(ok:X.Ok)(e:X.base.get? b=bj o):b∉X.fs:=λhb=>by have:=(ok.funs.mem hb).1;rw[e]at this;cases this
theorem qt.bs(I:qt X ou σ H s):∀b o,X.base.get? b=bj o->s.heap.get? b=bj o/\H b=n_:=λb o e=>(I.base.keep b o (I.ok.bs b o e).1 (I.ok.bs b o e).2 (I.ok.nofr e)<|I.ok.noex b o e,I.base.free b o (I.ok.bs b o e).1 (I.ok.bs b o e).2<|I.ok.noex b o e)
def qt.bk(I:qt X ou σ H s):∀b o,X.base.get? b=bj o->s.heap.get? b=bj o:=λb o e=>(I.bs b o e).1
theorem qt.mod(I:qt X ou σ H s):Mod X.K X.mg X.base:=I.ok.mod
def qt.kIn(I:qt X ou σ H s):X.K.In s.heap:=I.ok.mod.kin.keeps I.bk
theorem qt.lt(I:qt X ou σ H s):X.env.locals<s.heap.objs.size:=let ⟨_,hn,_⟩:=I.loc;hn.lt
def qt.sz(I:qt X ou σ H s):X.s₀.heap.objs.size<=s.heap.objs.size:=bh I.ok.above<|bZ I.lt
def qt.nofs(I:qt X ou σ H s){a:Addr}(h:s.heap.objs.size<=a):a∉X.fs:=λhb=>by have(_,o,l,_):=I.ok.funs.mem hb;show absurd (aQ (ai l)<|bh I.sz h)<|du _
def qt.cne(I:qt X ou σ H s):∀x c,X.env.cells.lookup x=bj c->c≠X.env.locals:=λx c e z=>by have(v,o,t,hd):=I.cell x c e;have(m,(u,B,E,l,n,_),_):=I.loc;rw[z,l]at t;cases t;rw[n]at hd;cases hd
theorem qt.funs(I:qt X ou σ H s):s.heap.FunFrames X.base X.outer:=by
 have all:∀(l:List Env),(∀b∈UE l,b∈X.fs)->X.s₀.heap.FunFrames X.base l->s.heap.FunFrames X.base l:=by
  intro l;induction l with
  |nil=>intro _ _;trivial
  |cons env r x=>
   intro u hl;have(hk,(L,o,n,hn,B,hd),hr):=hl;have t:L∈X.fs:=u L<|by unfold UE;rw[gA,n];show bf
   have(E,e):=I.base.slot L o B (I.ok.frf L t) t λz=>I.ok.exfs L z t;show(hk,(L,_,n,hn,e,hd),x (λb hb=>u b<|by unfold UE;rw[gA,n];show mCo _ hb) hr)
 show all X.outer (λQ hb=>hb) I.ok.funs
theorem qt.stack(I:qt X ou σ H s):s.heap.FunFrames X.base X.stack:=by
 rcases I.ok.stk with e|⟨e,l⟩;.rw[e];show I.funs
 .rw[e];have(m,hn,_):=I.loc;show .cons (by rw[I.ok.kind];decide) l hn ?_ I.funs;show de<|bh I.ok.bsz I.ok.above
def qt.stkSub(I:qt X ou σ H s):∀b∈UE X.stack,b∈X.env.locals::X.fs:=λb hb=>by
 rcases I.ok.stk with e|⟨e,l⟩;.rw[e]at hb;show mCo _ hb
 .rw[e]at hb;unfold UE at hb;rw[gA,l]at hb;show hb
def qt.stkFree(I:qt X ou σ H s):∀b∈UE X.stack,H b=n_:=λb hb=>by
 rcases ag.mp (I.stkSub b hb)with e|hb;.rw[e];show I.free
 .have(_,o,l,_):=I.ok.funs.mem hb;show I.base.free b o l (I.ok.frf b hb) λz=>I.ok.exfs b z hb
def qt.step{ch:Δ}(I:qt X ou σ H s)
  (B:∀b∈ch,(b∈X.ex∨X.s₀.heap.objs.size<=b)/\b≠X.env.locals/\(∀x c,X.env.cells.lookup x=bj c->c≠b)/\∀p∈X.pn++ou,p.1≠b)
  (keep:∀b o,b≠X.env.locals->b∉X.fs->b∉ch->s.heap.get? b=bj o->H b=n_->h'.get? b=bj o)
  (slot:∀b o,b≠X.env.locals->b∈X.fs->b∉ch->s.heap.get? b=bj o->H b=n_->∃P,h'.get? b=bj { o with slots:=P }) (free:∀b o,b∉ch->s.heap.get? b=bj o->H b=n_->H' b=n_)
  (there:∀b o,b∉ch->s.heap.get? b=bj o->∃M,h'.get? b=bj M)
  (tups:∀b xs,H b=bj (.tup xs)->H' b=bj (.tup xs)) (frzs:∀b o u,H b=bj (.frz o u)->H' b=bj (.frz o u)) (tbls:∀b ps,H b=bj (.tbl ps)->∃more,H' b=bj (.tbl<|ps++more))
  (ns:∀m,s.heap.Ns X.env.locals m->h'.Ns X.env.locals m) (hok:Dw X.prog X.w H' h') (T:mz g') :
  qt X ou σ H' { s with heap:=h',gens:=g',drawn:=d',toks:=t' }:=by
 have O:∀b o,X.s₀.heap.get? b=bj o->b≠X.env.locals:=λb o e=>aB<|aQ (ai e) I.ok.above;have J:∀b o,X.s₀.heap.get? b=bj o->b∉X.ex->b∉ch:=λb o e t hb=>by
  rcases(B b hb).1 with z|z;.show t z
  .show absurd (aQ (ai e) z)<|du _
 have E:∀x c,X.env.cells.lookup x=bj c->∀v,s.heap.IsCell c v->h'.IsCell c v:=λx c e v ⟨o,L,hd⟩=>by
  have G:c∉ch:=λz=>(B c z).2.2.1 x c e rfl;by_cases R:c∈X.fs;.have(P,q):=slot c o (I.cne x c e) R G L<|I.freeC x c e;show(_,q,hd)
  .show(o,keep c o (I.cne x c e) R G L<|I.freeC x c e,hd)
 show(I.ok,I.os,T,(λb o e n hb t=>?_,λb o e n hb t=>?_,λb o e n t=>?_,λb o e t=>?_,λb xs e=>tups b xs<|I.base.tups b xs e,λb o xs e=>frzs b o xs<|I.base.frzs b o xs e,λb ps e=>?_),?_,λx c e=>?_,?_,λx c e=>?_,λp S=>?_,hok,I.len);.show keep b o (O b o e) hb (J b o e t) (I.base.keep b o e n hb t)<|I.base.free b o e n t
 .have(P,e1):=I.base.slot b o e n hb t;have(Q,e2):=slot b _ (O b o e) hb (J b o e t) e1<|I.base.free b o e n t;show(Q,e2)
 .have(M,e1):=I.base.there b o e t;show free b M (J b o e t) e1<|I.base.free b o e n t
 .have(M,e1):=I.base.there b o e t;show there b M (J b o e t) e1
 .have(U,e1):=I.base.tbls b ps e;have(Y,e2):=tbls b _ e1;show(U++Y,by rw[e2,jk])
 .have(m,hn,hl):=I.loc;show(m,ns m hn,λi x v e1 e2 e3=>?_);have(u,r,l):=hl i x v e1 e2 e3;show(u,r,?_);rcases l with l|⟨k,c,e,z⟩;.show .inl l
  .show .inr (k,c,e,E x c e _ z)
 .have(v,z):=I.cell x c e;show(v,E x c e v z)
 .have(m,(o,_,_,L,_),_):=I.loc;show free _ o (λz=>(B _ z).2.1 rfl) L I.free
 .have(v,o,L,hd):=I.cell x c e;show free c o (λz=>(B c z).2.2.1 x c e rfl) L<|I.freeC x c e
 .have(e,n,ne,nf,d):=I.pin p S;have G:p.1∉ch:=λz=>(B p.1 z).2.2.2 p S rfl;show(keep p.1 p.2 ne nf G e n,free p.1 p.2 G e n,ne,nf,d)
def qt.un(I:qt X ou σ H s)(u:Un X.fs [] H H' s.heap h')(hok:Dw X.prog X.w H' h'):qt X ou σ H' { s with heap:=h',toks:=t' }:=by
 have(m,(o,J,L,B,r),_):=id I.loc;have(M,E):=u.any B I.free ⋯;show I.step (g':=s.gens) (d':=s.drawn) (ch:=[]) (λQ z=>nomatch z) (λb o Q hb Q e n=>u.keep b o e n hb ⋯) (λb o Q hb Q e n=>u.slot b o e n hb ⋯) (λb o Q e n=>u.free b o e n ⋯) (λb o Q e=>u.there b o e ⋯) u.tups u.frzs u.tbls (λO hm=>by have(P,t,x,l,G):=hm;rw[B]at l;cases l;show(_,t,x,E,G)) hok I.bare
def qt.call(I:qt X ou σ H s)(u:Un (UE X.stack) ch H H' s.heap h')(hok:Dw X.prog X.w H' h')(M:mz g')
  (t:∀b∈ch,(b∈X.ex∨X.s₀.heap.objs.size<=b)/\b≠X.env.locals/\(∀x c,X.env.cells.lookup x=bj c->c≠b)/\∀p∈X.pn++ou,p.1≠b) :
  qt X ou σ H' { s with heap:=h',gens:=g',drawn:=d',toks:=t' }:=by
 have(m,(o,P,Q,L,r),_):=id I.loc;have(R,E):=u.any L I.free λz=>(t _ z).2.1 rfl;show I.step (ch:=ch) t (λb o E hb l e n=>u.keep b o e n (λz=>(ag.mp<|I.stkSub b z).elim E hb) l) (λb o Z Z l e n=>u.any e n l) (λb o l e n=>u.free b o e n l) (λb o l e=>u.there b o e l) u.tups u.frzs u.tbls (λS hm=>by have(T,G,J,B,O):=hm;rw[L]at B;cases B;show(_,G,J,E,O)) hok M
def qt.turned(I:qt X ou σ H s)(k:∀b o,b≠l->s.heap.get? b=bj o->h'.get? b=bj o)(hn:H l=n_)(E:l≠X.env.locals)
  (G:l∈X.ex∨X.s₀.heap.objs.size<=l) (J:∀x c,X.env.cells.lookup x=bj c->c≠l) (L:∀p∈X.pn++ou,p.1≠l):qt X ou σ H { s with heap:=h',toks:=t' }:=by
 have B:∀b u,H b=bj u->b≠l:=λb u e z=>by rw[z,hn]at e;cases e
 show I.step (g':=s.gens) (d':=s.drawn) (ch:=[l]) (λb hb=>?_) (λb o Q Q t e Q=>k b o (λz=>t<|by simp[z]) e) (λb o Q Q t e Q=>(o.slots,k b o (λz=>t<|by simp[z]) e)) (λQ Q Q Q n=>n)
  (λb o t e=>(o,k b o (λz=>t<|by simp[z]) e)) (λQ Q e=>e) (λQ Q Q e=>e) (λb ps e=>(#[],by rw[e];rfl)) (λm hm=>?_) (λb u e=>?_) I.bare
 .have e:b=l:=by simpa using hb
  cases e;show(G,E,J,L)
 .have(o,M,O,P,r):=hm;show(o,M,O,k _ o (Ne.symm E) P,r)
 .show(I.hok b u e).stay (λc v t q=>k c v ?_ q) (λQ q=>q) λQ Q q=>q;rcases t with z|z;.rw[z];show B b u e
  .show B c _ z
def qt.tok(I:qt X ou σ H s)t:qt X ou σ H { s with toks:=t }:=I.un (h':=s.heap) (t':=t) Un.refl I.hok
theorem qt.kept(I:qt X ou σ H s)(k:∀b u,s.heap.get? b=bj u->h'.get? b=bj u):qt X ou σ H { s with heap:=h',toks:=t' }:=I.un (Un.kept k)<|I.hok.kept k
theorem qt.laid{a:Addr}(I:qt X ou σ H s)(k:∀b u,s.heap.get? b=bj u->h'.get? b=bj u)(l:s.heap.objs.size<=a)(new:tT X.prog X.w (rO H a o) h' a o) :
  qt X ou σ (rO H a o) { s with heap:=h',toks:=t' }:=I.un (Un.laid k l<|I.hok.fresh l)<|I.hok.laid k l new
theorem qt.write(I:qt X ou σ H s)(mu:Mut<|H x)(n:e=x∨H e=bj (.own x))(k:∀b u,b≠e->s.heap.get? b=bj u->h'.get? b=bj u)(l:∃u,h'.get? e=bj u)
  (new:tT X.prog X.w (rO H x o) h' x o):qt X ou σ (rO H x o) { s with heap:=h',toks:=t' }:=I.un (Un.write mu n k l)<|I.hok.write mu n k l new
def qt.pins_of(I:qt X ou σ H s)(h:∀p∈l,s.heap.get? p.1=bj p.2/\H p.1=n_/\p.1≠X.env.locals/\p.1∉X.fs/\∀v,p.2.data ≠ .cell v):qt X l σ H s:=(I.ok,I.os,I.bare,I.base,I.loc,I.cell,I.free,I.freeC,λp n=>(mAq.mp n).elim (λz=>I.pin p<|cx _ z)<|h p,I.hok,I.len)
def Lg{N:List Str}(l:N.Nodup){i:Nat}(a:N[i]?=bj x)(b:N[j]?=bj x):i=j:=by have(n,e1):=gSq.mp a;have(t,e2):=gSq.mp b;show(List.getElem_inj l).mp<|e1.trans e2.symm
def XB(I:qt X ou σ H s)(hN:X.N.Nodup)(hi:X.N[i]?=bj x)(G:Loc X.env.scope x)(r:rS v u)
  (h:∀s',qt X ou (σ.set i<|bj v) H s'->(∃a,fi a s.heap s'.heap/\(a=X.env.locals∨X.env.cells.lookup x=bj a))->Q () s') (hf:↥(X.fn x=t_∨X.env.scope.names.lookup x=bj .local)):kj M A (storeName X.env x u) Q E s:=by
 have(m,hn,hl):=id I.loc;have R:(X.env.scope.kind == .class || (X.env.scope.kind == .module && X.env.locals != X.env.globals))=f_:=by rw[I.ok.kind];rfl
 have L:i<σ.length:=by rw[I.len];show(gSq.mp hi).1
 have cne:=I.cne;have t:∀{a:Addr}{h':Heap},(∃o,s.heap.get? a=bj o/\H a=n_)->fi a s.heap h'->Dw X.prog X.w H h':=λ{a h'} ha l b ob e=>by
  have(_,_,J):=ha;show(I.hok b ob e).stay (λc w' B q=>(l.2 c ?_).trans q) (λZ q=>q) λZ Z q=>q;rintro rfl;rcases B with rfl|B;.rw[J]at e;cases e
  .rw[J]at B;cases B
 rcases G with hk|hk
 .show wpAny_storeName_local hk hn (λh' hn' l=>?_) R;have(oL,_,_,hoL,_):=id hn;show h _ (I.ok,I.os,I.bare,(λb o e n hb G=>?_,λb o e n hb G=>?_,I.base.free,λb o e G=>?_,I.base.tups,I.base.frzs,I.base.tbls),(_,hn',λj y v' e1 e2 e3=>?_),λy c e=>?_,I.free,I.freeC,λp hp=>?_,t (oL,hoL,I.free) l,by simpa using I.len) (_,l,.inl rfl);.show(l.2 b<|aB<|aQ (ai e) I.ok.above).trans<|I.base.keep b o e n hb G
  .have(sl,e1):=I.base.slot b o e n hb G;show(sl,(l.2 b<|aB<|aQ (ai e) I.ok.above).trans e1)
  .have(o',e1):=I.base.there b o e G;show(o',(l.2 b<|aB<|aQ (ai e) I.ok.above).trans e1)
  .by_cases O:j=i;.subst O;rw[hi]at e1;cases e1;rw[aV L]at e2;cases e2;show(u,r,.inl (hk,by simp))
   .rw[ay<|Ne.symm O]at e2;have(u',r',q):=hl j y v' e1 e2 e3;show(u',r',?_);rcases q with⟨k,e⟩|⟨k,c,e,z⟩
    .show .inl (k,?_);have:y≠x:=λe=>O<|Lg hN e1<|e ▸ hi;simp[this,e]
    .show .inr (k,c,e,z.sameBut l<|cne y c e)
  .have(w',z):=I.cell y c e;show(w',z.sameBut l<|cne y c e)
  .have(e,n,ne,nf,d):=I.pin p hp;show((l.2 p.1 ne).trans e,n,ne,nf,d)
 .have P:X.fn x=t_:=by
   rcases hf with z|z;.show z
   .rw[z]at hk;cases hk
  have(c,B):=I.ok.has x<|.inl hk;have(w',z):=I.cell x c B;show wpAny_storeName_cell I.ok.kind hk B z<|λh' S l=>?_;have(oc,T,U):=id z;show h { s with heap:=h' } (I.ok,I.os,I.bare,(λb o e n hb G=>?_,λb o e n hb G=>?_,I.base.free,λb o e G=>?_,I.base.tups,I.base.frzs,I.base.tbls),(m,hn.sameBut l<|Ne.symm<|cne x c B,λj y v' e1 e2 e3=>?_),λy c' e=>?_,I.free,I.freeC,λp hp=>?_,t (oc,T,I.freeC x c B) l,by simpa using I.len) (c,l,.inr B);.show(l.2 b<|aB<|aQ (ai e)<|I.ok.cab x c P B).trans<|I.base.keep b o e n hb G
  .have(sl,e1):=I.base.slot b o e n hb G;show(sl,(l.2 b<|aB<|aQ (ai e)<|I.ok.cab x c P B).trans e1)
  .have(o',e1):=I.base.there b o e G;show(o',(l.2 b<|aB<|aQ (ai e)<|I.ok.cab x c P B).trans e1)
  .by_cases O:j=i;.subst O;rw[hi]at e1;cases e1;rw[aV L]at e2;cases e2;show(u,r,.inr (.inl hk,c,B,S))
   .rw[ay<|Ne.symm O]at e2;have(u',r',q):=hl j y v' e1 e2 e3;show(u',r',?_);rcases q with q|⟨k,c',e,z'⟩;.show .inl q
    .show .inr (k,c',e,z'.sameBut l ?_);rintro rfl;show O<|Lg hN e1<|I.ok.inj _ _ _ e B ▸ hi
  .by_cases Y:c'=c;.subst Y;show(_,S)
   .have(w2,z2):=I.cell y c' e;show(w2,z2.sameBut l Y)
  .have(e,n,ne,nf,d):=I.pin p hp;show((l.2 p.1 ?_).trans e,n,ne,nf,d);intro q;rw[q,T]at e;have q':oc=p.2:=bj.inj e;show d w'<|by rw[←q'];show U
def Eo(I:qt X ou σ H s)(l:X.N.Nodup)(hi:X.N[i]?=bj x)(n:Loc X.env.scope x)(r:rS v u)
  (h:∀s',qt X ou (σ.set i<|bj v) H s'->Q () s') (t:↥(X.fn x=t_∨X.env.scope.names.lookup x=bj .local)):kj M A (storeName X.env x u) Q E s:=XB I l hi n r (λs' z Z=>h s' z) t
def qt.call'(I:qt X ou σ H s)(n:s'.os=s.os)(u:Un (UE X.stack) ch H H' s.heap s'.heap)(hok:Dw X.prog X.w H' s'.heap)(t:mz s'.gens)
  (l:∀b∈ch,(b∈X.ex∨X.s₀.heap.objs.size<=b)/\b≠X.env.locals/\(∀x c,X.env.cells.lookup x=bj c->c≠b)/\∀p∈X.pn++ou,p.1≠b):qt X ou σ H' s':=by have(h',z,B,E,G):=s';have e:G=s.os:=n;subst e;show I.call (g':=z) (t':=E) (d':=B) u hok t l
end
abbrev XK:=Value->Option Addr->Hp->Prop
abbrev St:=List<|Option V
abbrev VK:=V->Hp->Prop
abbrev TE:=St->Hp->VK->Prop
abbrev TT:=St->Hp->(Bool->Hp->Prop)->Prop
abbrev TA:=St->Hp->(List V->Hp->Prop)->Prop
structure zG where
 nx:St->Hp->Prop
 rt:VK
 bk:St->Hp->Prop:=λQ Q=>False
 ct:St->Hp->Prop:=λQ Q=>False
abbrev TS:=zG->St->Hp->Prop
def EP(X:Cx)(n:Φ)(σ:St)(Q:VK)(u:Value)(s':ke):Prop:=∃v l,qt X n σ l s'/\rS v u/\Q v l
def TP(X:Cx)(n:Φ)(σ:St)(Q:Bool->Hp->Prop)(b:Bool)(s':ke):Prop:=∃l,qt X n σ l s'/\Q b l
def AP(X:Cx)(n:Φ)(σ:St)(Q:List V->Hp->Prop)(us:Ξ)(s':ke):Prop:=∃vs l,qt X n σ l s'/\qS vs us/\Q vs l
def SP(X:Cx)(s:Φ)(D:zG)(f:Flow)(s':ke):Prop:=match f with
 | .next=>∃l n,qt X s l n s'/\D.nx l n
 | .brk=>∃l n,qt X s l n s'/\D.bk l n
 | .cont=>∃l n,qt X s l n s'/\D.ct l n
 | .ret u=>∃v l n,qt X s l n s'/\rS v u/\D.rt v n
def PE(X:Cx)(e:Expr)(t:TE):Prop:=∀l s (σ:St) H Q,qt X l σ H s->t σ H Q->kj (kg X.prog X.w) X.A (eval e X.env) (EP X l σ Q) X.xe s
def PT(X:Cx)(e:Expr)(t:TT):Prop:=∀l s (σ:St) H Q,qt X l σ H s->t σ H Q->kj (kg X.prog X.w) X.A (isTrue e X.env<|eval e X.env) (TP X l σ Q) X.xe s
def PW(X:Cx)(e:Expr)(t:TT):Prop:=∀l n s (σ:St) H Q,qt X n σ H s->t σ H Q->kj (kg X.prog X.w) X.A (isTrue e X.env l) (TP X n σ Q) X.xe s
def PW.pt(h:PW X e t):PT X e t:=h _
def PA(X:Cx)(n:List Expr)(t:TA):Prop:=∀pos l s (σ:St) H Q,qt X l σ H s->t σ H Q->kj (kg X.prog X.w) X.A (spliced<|kN pos<|ku n X.env) (AP X l σ Q) X.xe s
def PS(X:Cx)(st:Stmt)(t:TS):Prop:=∀l s (σ:St) H D,qt X l σ H s->t D σ H->kj (kg X.prog X.w) X.A (exec st X.env) (SP X l D) X.xe s
def LY(X:Cx)(st:List Stmt)(t:TS):Prop:=∀l s (σ:St) H D,qt X l σ H s->t D σ H->kj (kg X.prog X.w) X.A (execs st X.env) (SP X l D) X.xe s
def uQ{t:Sem α}{Q l}(h:kj M A t Q E s)(n:∀a s,Q a s->l a s):kj M A t l E s:=kG h n λZ Z x=>x
section
def xF(i:Nat):TE:=λσ H Q=>∃v,σ[i]?=bj (bj v)/\Q v H
def tC(v:V):TE:=λZ H Q=>Q v H
def ahM(B:X.N[i]?=bj x)(E:Vis X.env.scope x)(hd:⇑((x == ("__debug__" : Str))=f_))(t:⇑((x == ("__classdict__" : Str))=f_)):PE X (.Name x pos)<|xF i:=by
 intro G s σ H Q I h;have(v,e,h):=h;have(m,hn,hl):=I.loc;have(u,r,l):=hl i x v B e E;have fin:EP X G σ Q u s:=(v,H,I,r,h);rcases l with⟨hk,hm⟩|⟨hk,c,z,n⟩;.show wpAny_Name (wpAny_loadName_local I.ok.kind hk hn hm fin) hd
 .rcases hk with hk|hk;.show wpAny_Name (wpAny_loadName_cell I.ok.kind hk z n fin) hd
  .show wpAny_Name (wpAny_loadName_free I.ok.kind hk z n fin t) hd
def oV:PE X (.Constant (.int i) j pos)<|tC<|.int i:=λQ Q Q H Q I h=>wpAny_Constant_int (.int i,H,I.tok _,(_,rfl),h)
def yH:PE X (.Constant (.bool b) j pos)<|tC<|.bl b:=λQ Q Q H Q I h=>Constant_bool (.bl b,H,I,rfl,h)
def Ap:PE X (.Constant .none j pos)<|tC .non:=λQ Q Q H Q I h=>Constant_none (.non,H,I,rfl,h)
def tm:PE X (.Constant (.str x) j pos)<|tC<|.str x:=λQ Q Q H Q I h=>Calls.Constant_str (.str x,H,I.tok _,(_,rfl),h)
def Gl(X:Cx)(x:Str):Prop:=X.env.kindOf x=bj .globalImplicit
def zh{σ:St}(I:qt X l σ H s)(n:Gl X x)(hm:X.mg x=bj u)(h:Q u s)
  (hd:⇑((x == ("__debug__" : Str))=f_)):kj (kg X.prog X.w) X.A (eval (.Name x pos) X.env) Q E s:=Calls.Name_function_global I.ok.kind n (Calls.loadGlobal_global (by rw[I.ok.glob];show I.mod.glob.keeps I.bk) hm h) hd
def FE{σ:St}(I:qt X l σ H s)(n:Gl X x)(hm:X.mg x=n_)(t:lO x=bj u)(h:Q u s)
  (hn:⇑(x ≠ "__name__")) (hd:⇑((x == ("__debug__" : Str))=f_)):kj (kg X.prog X.w) X.A (eval (.Name x pos) X.env) Q E s:=by have(G,z,B):=I.mod.blt;show Calls.Name_function_global I.ok.kind n (Calls.loadGlobal_builtin (by rw[I.ok.glob];show I.mod.glob.keeps I.bk) hm (by rw[I.ok.blt];show z.keeps I.bk) ((B x hn).trans t) h) hd
def Cj(l:Gl X x)(hm:X.mg x=bj u)(r:rS v u)(hd:⇑((x == ("__debug__" : Str))=f_)):PE X (.Name x pos)<|tC v:=λQ Q Q H Q I h=>zh I l hm (v,H,I,r,h) hd
def xX(l:Gl X x)(hm:X.mg x=n_)(n:lO x=bj u)(r:rS v u)(hn:⇑(x ≠ "__name__"))(hd:⇑((x == ("__debug__" : Str))=f_)):PE X (.Name x pos)<|tC v:=λQ Q Q H Q I h=>FE I l hm n (v,H,I,r,h) hn hd
def PC(X:Cx)(z:CmpOp)(a b:Expr)(t:TE):Prop:=∀x s (σ:St) H Q,qt X x σ H s->t σ H Q ->
  kj (kg X.prog X.w) X.A (eval a X.env) (λv l=>kj (kg X.prog X.w) X.A (eval b X.env) (λu n=>kj (kg X.prog X.w) X.A (kX z v u) (EP X x σ Q) X.xe n) X.xe l) X.xe s
def tB(t:TE):TT:=λσ H Q=>t σ H λx l=>∃c,x = .bl c/\Q c l
def Tu(h:PC X n a b t)(z:mh n b=f_:=by first|exact l _ (by decide) (by decide)|rfl):PT X (.Compare a [n] [b] pos)<|tB t:=by
 intro B s σ H Q I hw;show nS (uQ (h B s σ H _ I hw) λv s1 z=>uQ z λu s2 E=>uQ E λc L o_=>?_) z;have(x,G,J,r1,q1):=o_;have(d,rfl,q):=q1;cases r1;show kU (G,J,q)
def uo(h:PE X e t)(n:∀l,isTrue e X.env l=(do let v ←l;mQ e.pos;mS [v] (truthy v)):=by intro _;rfl):PT X e<|tB t:=by
 intro u s σ H Q I hw;show isTrue_plain (uQ (h u s σ H _ I hw) λv s1 o_=>?_)<|n _;have(x,z,B,r1,q1):=o_;have(d,rfl,q):=q1;cases r1;show kU (z,B,q)
variable {rest:List Expr}
def alP(t u:TT):TT:=λσ H Q=>t σ H λc l=>if c=t_ then u σ l Q else Q f_ l
def tOr(t u:TT):TT:=λσ H Q=>t σ H λc l=>if c=t_ then Q t_ l else u σ l Q
def amq(t:TT):TT:=λσ H Q=>t σ H λc l=>Q (!c) l
def WC(ha:PT X a tA):PW X (.BoolOp .And [a] pos) tA:=by
 intro n l s σ H Q I h;show isTrue_and<|uQ (ha l s σ H Q I h) λc s1 e=>?_;cases c with
 |true=>show isTrue_and_nil e
 |false=>show e
def OJ(ha:PT X a tA):PW X (.BoolOp .Or [a] pos) tA:=by
 intro n l s σ H Q I h;show isTrue_or<|uQ (ha l s σ H Q I h) λc s1 e=>?_;cases c with
 |false=>show isTrue_or_nil e
 |true=>show e
def ZQ(ha:PT X a tA)(hb:PW X (.BoolOp .And (b::rest) pos) tB'):PW X (.BoolOp .And (a::b::rest) pos)<|alP tA tB':=by
 intro u l s σ H Q I h;show isTrue_and<|uQ (ha l s σ H _ I h) λc s1 o_=>?_;have(n,t,q1):=o_;cases c with
 |true=>show hb u l s1 σ n Q t q1
 |false=>show(n,t,q1)
def WA(ha:PT X a tA)(hb:PW X (.BoolOp .Or (b::rest) pos) tB'):PW X (.BoolOp .Or (a::b::rest) pos)<|tOr tA tB':=by
 intro u l s σ H Q I h;show isTrue_or<|uQ (ha l s σ H _ I h) λc s1 o_=>?_;have(n,t,q1):=o_;cases c with
 |true=>show(n,t,q1)
 |false=>show hb u l s1 σ n Q t q1
def yB(ha:PT X a tA):PT X (.UnaryOp .Not a pos)<|amq tA:=by intro l s σ H Q I h;show isTrue_not<|ha l s σ H (λc n=>Q (!c) n) I h
def ahr(ta tb:TE):TE:=λσ H Q=>ta σ H λx l=>∃c,x = .bl c/\if c=t_ then tb σ l Q else Q (.bl f_) l
def agE(ta:TE):TE:=λσ H Q=>ta σ H λx l=>∃c,x = .bl c/\Q (.bl<|!c) l
def aax(h:PE X a t):PE X (.BoolOp op [a] pos) t:=λl s σ H Q I hw=>BoolOp_one<|h l s σ H Q I hw
def Tv(ha:PE X a ta)(hb:PE X (.BoolOp .And (b::rest) pos) tb):PE X (.BoolOp .And (a::b::rest) pos)<|ahr ta tb:=by
 intro l s σ H Q I h;show BoolOp_and<|uQ (ha l s σ H _ I h) λv s1 o_=>?_;have(x,n,t,r1,q1):=o_;have(c,rfl,q1):=q1;cases r1;show kU ?_;cases c with
 |true=>show hb l s1 σ n Q t q1
 |false=>show(.bl f_,n,t,rfl,q1)
def ajd(ha:PE X a ta):PE X (.UnaryOp .Not a pos)<|agE ta:=by
 intro l s σ H Q I h;show UnaryOp_<|uQ (ha l s σ H _ I h) λv s1 o_=>?_;have(x,n,t,r1,q1):=o_;have(c,rfl,q1):=q1;cases r1;show not_of<|kU (.bl<|!c,n,t,rfl,q1)
end
def vk(K:Ζ)(H:Hp)(a:Addr)(xs:List V):Prop:=Rd H a (.lst xs) ∨
  ∃(o:Obj) (l:Ω) (n:Nat),K.lookup a=bj o/\o.cls = .type "list" /\ o.dict=n_/\o.data = .seq l n/\l.size<=ky/\qS xs l.toList
def FF(K:Ζ)(H:Hp)(a:Addr)(xs:List V):Prop:=Rd H a (.tup xs) ∨
  ∃(o:Obj) (l:Ω) (n:Nat),K.lookup a=bj o/\o.cls = .type "tuple" /\ o.data = .seq l n/\l.size<=ky/\qS xs l.toList
noncomputable def anN:Value->Option V
 | .none=>bj .non
 | .bool b=>bj<|.bl b
 | .int i _=>bj<|.int i
 | .str x _=>bj<|.str x
 | .bytes b _=>bj<|.byt b
 | .float b _=>bj<|.flt b
 | .ref a=>bj<|.ref a
 | .type n=>bj<|.ty n
 |_=>n_
def rS.abs(r:rS x u):anN u=bj x:=by cases x with
 |non=>cases r;rfl
 |bl _=>cases r;rfl
 |int _=>have(t,rfl):=r;rfl
 |str _=>have(t,rfl):=r;rfl
 |byt _=>have(t,rfl):=r;rfl
 |flt _=>have(t,rfl):=r;rfl
 |ref _=>cases r;rfl
 |ty _=>cases r;rfl
theorem rS.inj(r:rS x u)(q:rS y u):x=y:=bj.inj<|r.abs.symm.trans q.abs
theorem qS.inj:∀{xs l}{us},qS xs us->qS l us->xs=l
 |_,_,_,.nil,.nil=>rfl
 |_,_,_,.cons r t,.cons n s=>by rw[r.inj n,qS.inj t s]
section
variable {σ:St}
def vk.of{K}(h:H a=bj (.lst xs)):vk K H a xs:=.inl<|.inl h
def FF.of{K}(h:H a=bj (.tup xs)):FF K H a xs:=.inl<|.inl h
def qt.list(I:qt X ou σ H s)(h:vk X.K H a xs):∃l:Ξ,qS xs l/\PlainL s.heap a l.toArray/\xs.length<=ky:=by
 rcases h with h|⟨o,l,n,hk,t,hd,u,x,r⟩;.have(z,l,n,r,e):=h.ok I.hok;show(l,r,(_,n,e,rfl,rfl,rfl),z)
 .show(l.toList,r,(o,n,I.kIn a o hk,t,hd,by show u),?_);have e:=r.length;simp only[aD]at e;ac_nf
def qt.tuple(I:qt X ou σ H s)(h:FF X.K H a xs):∃l:Ξ,qS xs l/\IsTup s.heap a l.toArray/\xs.length<=ky:=by
 rcases h with h|⟨o,l,n,hk,t,u,x,r⟩;.have(z,l,r,p):=h.ok I.hok;show(l,r,p,z)
 .show(l.toList,r,(o,I.kIn a o hk,t,n,by show u),?_);have e:=r.length;simp only[aD]at e;ac_nf
def qt.list_inj(I:qt X ou σ H s)(h:vk X.K H a xs)(h':vk X.K H a ys):xs=ys:=by
 have(t,r,(o,n,e,_,_,d),_):=I.list h;have(l,z,(E,G,u,_,_,x),_):=I.list h';rw[e]at u;cases u;rw[d]at x;injection x with B _;have:t=l:=by show congrArg Array.toList B
 subst this;show r.inj z
end
noncomputable abbrev Cx.wish(X:Cx)(E:Value->ke->Prop):Cx:={ X with xe:=E }
noncomputable abbrev Cx.nox(X:Cx):Cx:=X.wish λQ Q=>False
theorem Cx.Ok.wish{X:Cx}(ok:X.Ok)E:(X.wish E).Ok:=(ok.mod,ok.kind,ok.glob,ok.blt,ok.above,ok.inj,ok.has,ok.cab,ok.hd,ok.frames,ok.stk,ok.exf,ok.bs,ok.bsz,ok.noex,ok.exfs,ok.funs,ok.frf)
def Cx.Ok.unwish{X:Cx}(ok:(X.wish E).Ok):X.Ok:=(ok.mod,ok.kind,ok.glob,ok.blt,ok.above,ok.inj,ok.has,ok.cab,ok.hd,ok.frames,ok.stk,ok.exf,ok.bs,ok.bsz,ok.noex,ok.exfs,ok.funs,ok.frf)
section
variable {σ:St}
theorem qt.wish(I:qt X ou σ H s)E:qt (X.wish E) ou σ H s:=(I.ok.wish E,I.os,I.bare,I.base,I.loc,I.cell,I.free,I.freeC,I.pin,I.hok,I.len)
theorem qt.unwish(I:qt (X.wish E) ou σ H s):qt X ou σ H s:=(I.ok.unwish,I.os,I.bare,I.base,I.loc,I.cell,I.free,I.freeC,I.pin,I.hok,I.len)
theorem SP.unwish(h:SP (X.wish E) ou D f s'):SP X ou D f s':=by cases f with
 |next=>have(l,n,I,q):=h;show(l,n,I.unwish,q)
 |brk=>have(l,n,I,q):=h;show(l,n,I.unwish,q)
 |cont=>have(l,n,I,q):=h;show(l,n,I.unwish,q)
 |ret u=>have(v,l,n,I,r,q):=h;show(v,l,n,I.unwish,r,q)
theorem LY.nox{st}(h:LY X.nox st t):LY X st t:=λou s σ H D I hw=>kG (h ou s σ H D (I.wish _) hw) (λQ Q q=>q.unwish) λQ Q z=>False.elim z
end
section
variable {st:Stmt}{rest:List Stmt}
def ahx:TS:=λD σ H=>D.nx σ H
def Pd(t u:TS):TS:=λD σ H=>t { D with nx:=u D } σ H
def qa:LY X [] ahx:=λQ Q σ H Q I h=>kR (σ,H,I,h)
def oH(x:PS X st t)(z:LY X rest u):LY X (st::rest)<|Pd t u:=by
 intro n s σ H D I h;show lV<|uQ (x n s σ H { D with nx:=u D } I h) λf s1 q=>?_;cases f with
 |next=>have(l,B,E,q):=q;show z n s1 l B D E q
 |ret v=>show q
 |brk=>show q
 |cont=>show q
def oO(l:PS X st t):LY X [st] t:=by
 intro n s σ H D I h;show lV<|uQ (l n s σ H D I h) λf s1 q=>?_;cases f with
 |next=>show kR q
 |ret v=>show q
 |brk=>show q
 |cont=>show q
def qt.quiet{σ:St}(I:qt X l σ H s):interactive X.env=f_:=by simp[interactive,I.ok.kind]
def Dj(te:TE):TS:=λD σ H=>te σ H λQ l=>D.nx σ l
def rA(l:PE X e te)(n:↑(lS e n_ pos.line X.env=pure f_)):PS X (.Expr e pos)<|Dj te:=by intro z s σ H D I h;show wpAny_Expr_any (uQ (l z s σ H _ I h) λv s1 o_=>?_) I.quiet n;have(x,B,E,r1,q1):=o_;show(σ,B,E,q1)
def Yi(te:TE):TS:=λD σ H=>te σ H D.rt
def pJ(l:PE X e te):PS X (.Return (bj e) pos)<|Yi te:=by intro n s σ H D I h;show wpAny_Return_some<|uQ (l n s σ H _ I h) λv s1 o_=>?_;have(x,z,B,r1,q1):=o_;show(x,σ,z,B,r1,q1)
def YK(c:TT)(t u:TS):TS:=λD σ H=>c σ H λb l=>if b=t_ then t D σ l else u D σ l
def rp(B:PT X c n)(ha:LY X a t)(hb:LY X b u):PS X (.If c a b pos)<|YK n t u:=by
 intro l s σ H D I h;show wpAny_If<|uQ (B l s σ H _ I h) λd s1 o_=>?_;have(x,z,q1):=o_;cases d with
 |true=>show ha l s1 σ x D z q1
 |false=>show hb l s1 σ x D z q1
end
abbrev TG:=V->St->Hp->(St->Hp->Prop)->Prop
abbrev TGs:=List V->St->Hp->(St->Hp->Prop)->Prop
def PG(X:Cx)(l:Expr)(t:TG):Prop:=∀x s (σ:St) H v u Q,qt X x σ H s->rS v u->t v σ H Q ->
  kj (kg X.prog X.w) X.A (nY l X.env u) (λZ s'=>∃n z,qt X x n z s'/\Q n z) X.xe s
def PGs(X:Cx)(x:List Expr)(t:TGs):Prop:=∀n s (σ:St) H vs us Q,qt X n σ H s->qS vs us->t vs σ H Q ->
  kj (kg X.prog X.w) X.A (assignInOrder ((mJ x X.env).map (·.2)) us) (λZ s'=>∃l u,qt X n l u s'/\Q l u) X.xe s
def xa(i:Nat):TG:=λv σ H Q=>Q (σ.set i<|bj v) H
def Oh(l:X.N.Nodup)(hi:X.N[i]?=bj x)(n:Loc X.env.scope x)(t:↥(X.fn x=t_∨X.env.scope.names.lookup x=bj .local)):PG X (.Name x pos)<|xa i:=by intro B s σ H v u Q I r h;show wpAny_assign_Name<|Eo I l hi n r (λE z=>(_,H,z,h)) t
def aai:TGs:=λvs σ H Q=>vs=[]/\Q σ H
def Ji(t:TG)(u:TGs):TGs:=λvs σ H Q=>∃v r,vs=v::r/\t v σ H λl n=>u r l n Q
def Wz:PGs X [] aai:=by intro l s σ H n us Q I r h;have(e,h):=h;subst e;cases r;show assignInOrder_nil (σ,H,I,h)
def LR(z:PG X e t)(B:PGs X l u)
  (E:↑((mJ (e::l) X.env).map (·.2)=nY e X.env::(mJ l X.env).map (·.2))):PGs X (e::l)<|Ji t u:=by intro x s σ H M us Q I r h;have(v,O,e1,h):=h;subst e1;cases r with
 |cons r G=>
  rw[E];show assignInOrder_cons<|uQ (z x s σ H _ _ _ I r h) λZ s1 o_=>?_;have(n,J,L,q1):=o_;show B x s1 n J _ _ Q L G q1
def aaO(K:Ζ)(n:Nat)(t:TGs):TG:=λv σ H Q=>∃a xs,v = .ref a/\FF K H a xs/\xs.length=n/\t xs σ H Q
def Zs(E:X.calm=t_)(h:PGs X l t)
  (hn:↑((mJ l X.env).length=n)) (x:↑((mJ l X.env).findIdx? (·.1)=n_)):PG X (.Tuple l k pos)<|aaO X.K n t:=by
 intro z s σ H v u Q I r hw;have(a,G,e1,J,hl,hw):=hw;subst e1;cases r;have(L,B,ht,R):=I.tuple J;show assign_Tuple_tuple (I.ok.hd E) ht (by simp[hn,←hl,B.length]) x λM O=>?_;have P:qt X z σ H { s with heap:=M }:=I.kept (t':=s.toks) λb o e=>O b o (aB<|ai e) e;show h z _ σ H G _ Q P (by show B) hw
def OT(te:TE)(g:TG):TS:=λD σ H=>te σ H λx l=>g x σ l D.nx
def ahC(t:PE X e te)(u:PG X l g)(z:↑(swapsWithSole [l] e pos.line X.env=pure f_))(hw:↑(swappedStores [l] e X.env=pure n_))
  (B:↑((mJ [l] X.env).map (·.2)=[nY l X.env])):PS X (.Assign [l] e pos)<|OT te g:=by
 intro n s σ H D I h;show wpAny_Assign_stores (uQ (t n s σ H _ I h) λv s1 o_=>?_) z hw;have(x,E,G,r1,q1):=o_;rw[B];show uQ (u n s1 σ E x v _ G r1 q1) λQ s2 q=>q
def ajY(n:X.N.Nodup)(hi:X.N[i]?=bj x)(t:Loc X.env.scope x)(u:PE X e te)(z:↑(lS e (bj<|.Name x l) pos.line X.env=pure f_))(B:↥(X.fn x=t_∨X.env.scope.names.lookup x=bj .local)) :
  PS X (.Assign [.Name x l] e pos)<|OT te<|xa i:=by
 intro E s σ H D I h;show mY (uQ (u E s σ H _ I h) λv s1 o_=>?_) z;have(y,G,J,r1,q1):=o_;show Eo J n hi t r1 (λs2 L=>(_,G,L,q1)) B
def acq(c:TT)(u:TS):TS:=λD σ H=>∃W:Nat->St->Hp->Prop,(∃m,W m σ H)/\∀m σ H,W m σ H ->
 c σ H λb n=>if b=t_ then ∃N:St->Hp->Prop,(∀l s,N l s->∃t,t<m/\W t l s)/\u { D with nx:=N,ct:=N,bk:=D.nx } σ n else D.nx σ n
def KB(Q:PassesOwn (kg X.prog X.w) X.A X.env X.xe)(hc:PT X c O)(hb:LY X body P):PS X (.While c body [] pos)<|acq O P:=by
 intro E s σ H D I h;have(W,(m0,w0),turn):=h;show wpAny_While<|codeAny_whileLoop (λn s'=>∃u R,qt X E u R s'/\W n u R) ?_ m0 (σ,H,I,w0);rintro n s1 ⟨t,S,I1,w1⟩;show lB Q<|uQ (hc E s1 t S _ I1<|turn n t S w1) λb s2 o_=>?_;have(T,U,z):=o_;cases b with
 |true=>
  have(N,Y,z):=z;rw[qF rfl];show lB Q<|uQ (hb E s2 t T _ U z) λf s3 B=>?_;cases f with
  |next=>have(l,x,G,J):=B;have(L,hm,M):=Y l x J;show(L,hm,l,x,G,M)
  |cont=>have(l,x,G,J):=B;have(L,hm,M):=Y l x J;show(L,hm,l,x,G,M)
  |brk=>show B
  |ret v=>show B
 |false=>rw[qL aE];show kR (t,T,U,z)
structure It where
 go:Nat->Hp->Prop
 yld:Nat->Hp->V->Hp->Prop
 stop:Nat->Hp->Prop
def Hc(X:Cx)(l:Φ)(H:Hp)(b:Addr):Prop:=H b=n_/\b≠X.env.locals/\b∉X.fs/\(b∈X.ex∨X.s₀.heap.objs.size<=b)/\(∀x c,X.env.cells.lookup x=bj c->c≠b)/\∀p∈X.pn++l,p.1≠b
def qt.fpOk{σ:St}{b:Addr}(I:qt X l σ H s)(hb:s.heap.objs.size<=b)(hn:n b=n_):Hc X l n b:=by
 show(hn,ef<|aQ I.lt hb,I.nofs hb,.inr<|bh I.sz hb,λx c e z=>?_,λp t z=>?_);.have(v,q):=I.cell x c e;show absurd (aQ q.lt<|by rw[z];show hb)<|du _
 .show absurd (aQ (ai (I.pin p t).1)<|by rw[z];show hb)<|du _
structure T3 (P:kx)(w:kB)(K:Ζ)(tg:Expr)(J:It)(fp:Δ)(it:Addr)(tn:Nat->Heap->Prop):Prop where
 mem:it∈fp
 obj:∀i h,tn i h->∀b∈fp,∃o,h.get? b=bj o/\∀v,o.data ≠ .cell v
 keep:∀i h h',tn i h->(∀b∈fp,∀o,h.get? b=bj o->h'.get? b=bj o)->tn i h'
 item:∀(X:Cx),X.prog=P->X.w=w->X.K=K->X.calm=t_->∀(i:Nat) (ou:Φ) (s:ke) (σ:St) (H:Hp) (E:Value->ke->Prop),qt X ou σ H s->(∀b∈fp,Hc X ou H b)->tn i s.heap->J.go i H ->
  kj (kg P w) X.A (pyNext<|.ref it) (λr s1=>∃u,r=bj u /\
   kj (kg P w) X.A (mH tg (.ref it) u) (λZ s2=>∃x H',qt X ou σ H' s2/\rS x u/\J.yld i H x H'/\tn (i+1) s2.heap/\∀b∈fp,H' b=n_) E s1) E s
 done:∀(X:Cx),X.prog=P->X.w=w->X.K=K->X.calm=t_->∀(i:Nat) (ou:Φ) (s:ke) (σ:St) (H:Hp) (E:Value->ke->Prop),qt X ou σ H s->(∀b∈fp,Hc X ou H b)->tn i s.heap->J.stop i H ->
  kj (kg P w) X.A (pyNext<|.ref it) (λr s1=>r=n_/\qt X ou σ H s1) E s
 self:∀(A:Around) (i:Nat) (s:ke) (Q:Value->ke->Prop) (E:Value->ke->Prop),tn i s.heap->Q (.ref it) s->kj (kg P w) A (pyIter<|.ref it) Q E s
abbrev TI:=St->Hp->(It->Hp->Prop)->Prop
def PIE(X:Cx)(s:Φ)(σ:St)(x:Expr)(R:It->Hp->Prop)(l:Value)(s2:ke):Prop:=∃t fp u J n,l = .ref t/\qt X s σ n s2/\T3 X.prog X.w X.K x J fp t u/\u 0 s2.heap/\(∀b∈fp,Hc X s n b)/\R J n
def PI(X:Cx)(n xW:Expr)(t:TI):Prop:=∀l s (σ:St) H R,qt X l σ H s->t σ H R ->
  kj (kg X.prog X.w) X.A (eval xW X.env) (λv s1=>kj (kg X.prog X.w) X.A (pyIter v) (PIE X l σ n R) X.xe s1) X.xe s
def go_of{vs:Ω}(z:s.heap.get? x=bj o)(B:o.cls = .type n)(hd:o.data = .fields vs)
    (hn:["enumerate","zip","dict_itemiterator","dict_reverseitemiterator","odict_iterator","itertools.zip_longest","itertools.pairwise"].contains n=f_) (l:Q () s):kj M A (mH t (.ref x) u) Q E s:=by unfold mH;cases t <;> first
    |show kA l
    | (cases u <;> first
        |show kA l
        | (show ki<|wpAny_load z ?_;rw[B,hd];change kj M A (if (["enumerate","zip","dict_itemiterator","dict_reverseitemiterator","odict_iterator","itertools.zip_longest","itertools.pairwise"].contains n && vs[0]? == bj (mK _))=t_ then _ else _) Q E s;rw[qL<|by intro h;rw[hn,jG]at h;cases h];show kA l))
noncomputable def Itl(K:Ζ)(a:Addr):It:=(λi H=>∃xs x,vk K H a xs/\xs[i]?=bj x,λi H x l=>l=H/\∀xs,vk K H a xs->xs[i]?=bj x,λi H=>∃xs,vk K H a xs/\xs.length<=i)
noncomputable def Itr(lo:Int)(n:Nat):It:=(λi Q=>i<n,λi H x l=>l=H/\x = .int (lo+i),λi Q=>n<=i)
def WQ{K}a l:T3 P w K tg (Itl K a) [l] l<|λi h=>h.IsListIter l a i where
 mem:=by simp
 obj:=λi h st b hb=>by
  have e:b=l:=by simpa using hb
  subst e;have(o,e,c,d):=st;show(o,e,λv z=>by rw[d]at z;cases z)
 keep:=λi h h' st k=>st.at λo e=>k l ⋯ o e
 item:=by
  intro X G hw J hc i ou s σ H E I t st L;subst G hw J;have(xs,x,B,M):=L;have(O,Q,p,hz):=I.list B;have(u,hu,ru):=Q.get M;have(R,S,f2,T,U,Y):=t l ⋯;show wpAny_pyNext_list_item st p.isList (x:=u) (by simpa using hu) λh' n sb=>?_;have I1:qt X ou σ H { s with heap:=h' }:=I.turned (t':=s.toks) (λb o hb e=>(sb.2 b hb).trans e) R S T U Y;have(o,e,c,d):=id n;show(u,rfl,go_of (s:={ s with heap:=h' }) e c d (by rfl) (x,H,I1,ru,(rfl,λys hy=>by rw[I.list_inj hy B];show M),n,λb hb=>(t b hb).1))
 done:=by
  intro X G hw J hc i ou s σ H E I t st L;subst G hw J;have(xs,B,M):=L;have(O,Q,p,hz):=I.list B;have(R,S,f2,T,U,Y):=t l ⋯;have hl:=Q.length;show wpAny_pyNext_list_end (I.ok.hd hc) st p.isList (by simp;lia) λh' eb=>(rfl,I.turned (t':=s.toks) (λb o hb e=>eb b o hb e) R S T U Y)
 self:=λZ Z Z Z Z st h=>wpAny_pyIter_listiter st h
def UG{K}l lo n:T3 P w K Y (Itr lo n) [l] l<|λi h=>IsRangeIter h l (lo+(i:Nat)*1) ((n:Int)-(i:Nat)) 1 where
 mem:=by simp
 obj:=λi h st b hb=>by
  have e:b=l:=by simpa using hb
  subst e;show(_,st,λv z=>by have z':Data.fields _=Data.cell v:=z;cases z')
 keep:=λi h h' st k=>k l ⋯ _ st
 item:=by
  intro X B hw G J i T s σ H E I x st L;subst B hw G;have(M,O,f2,Q,R,S):=x l ⋯;have W:=Walks.range (prog:=X.prog) (w:=X.w) (I.ok.hd J) l lo 1 n;show W.item i s _ _ L st λv h' U hv u kk=>?_;have(t,rfl):=hv;have I1:qt X T σ H { s with heap:=h',toks:=U }:=I.turned (λb o hb e=>kk b o (by simpa using hb) e) M O Q R S;show(_,rfl,go_of (s:={ s with heap:=h',toks:=U }) (n:= "range_iterator") u rfl rfl (by rfl) (.int<|lo+i,H,I1,(t,?_),(rfl,rfl),u,λb hb=>(x b hb).1));rw[Int.mul_one]
 done:=by
  intro X B hw G J i T s σ H E I x st L;subst B hw G;have(M,O,f2,Q,R,S):=x l ⋯;show wpAny_pyNext_range_end (I.ok.hd J) st (by have:n<=i:=L;lia) λh' eb=>(rfl,I.turned (t':=s.toks) (λb o hb e=>eb b o hb e) M O Q R S)
 self:=λZ Z Z Z Z st h=>wpAny_pyIter_rangeiter st h
def U8(K:Ζ)(tl:TE):TI:=λσ H R=>tl σ H λx l=>∃a,x = .ref a/\(∃xs,vk K l a xs)/\R (Itl K a) l
def vy(hl:PE X l tl):PI X tg l<|U8 X.K tl:=by
 intro t s σ H R I h;show uQ (hl t s σ H _ I h) λv s1 o_=>?_;have(x,u,n,r1,q1):=o_;have(a,e,(E,z),q):=q1;subst e;cases r1;have(B,G,p,J):=n.list z;show wpAny_pyIter_list p.isList ?_;show(s1.heap.objs.size,[s1.heap.objs.size],_,_,u,rfl,n.kept (t':=s1.toks) λb o e=>aa _ e,WQ a _,(_,bp _ rfl,rfl,rfl),λb hb=>?_,q);have e:b=s1.heap.objs.size:=by simpa using hb
 subst e;show n.fpOk (ae _)<|n.hok.fresh<|ae _
def aaA{σ:St}{lo}(I:qt X l σ H s)(z:-(2 ^ 62)<=lo)(B:lo<2 ^ 62)(G:-(2 ^ 62)<=hi)(J:hi<2 ^ 62)
  (q:R (Itr lo (hi-lo).toNat) H):kj (kg X.prog X.w) X.A (pyIter<|.ref s.heap.objs.size) (PIE X l σ tg R) E { s with heap:=s.heap.push { cls:=.type "range", data:=.fields #[.int lo t,.int hi u,.int 1 v] },toks:=n }:=by
 show wpAny_pyIter_range (IsRange.new ..) (small_one z B G J) ?_;have x:qt X l σ H { s with heap:=s.heap.push { cls:=.type "range", data:=.fields #[.int lo t,.int hi u,.int 1 v] },toks:=n }:=I.kept λb o e=>aa _ e;show((s.heap.push { cls:=.type "range", data:=.fields #[.int lo t,.int hi u,.int 1 v] }).objs.size,[(s.heap.push { cls:=.type "range", data:=.fields #[.int lo t,.int hi u,.int 1 v] }).objs.size],_,_,H,rfl,
  x.kept (t':=n) λb o e=>aa _ e,UG _ lo (hi-lo).toNat,?_,λb hb=>?_,q)
 .have e1:lo+((0:Nat):Int)*1=lo:=by simp
  have e2:(((hi-lo).toNat:Nat):Int)-((0:Nat):Int)=Builtin.Range.rangeSize lo hi 1:=by rw[rangeSize_one];split <;> lia
  change IsRangeIter _ _ (lo+((0:Nat):Int)*1) ((((hi-lo).toNat:Nat):Int)-((0:Nat):Int)) 1;rw[e1,e2];show bp _ rfl
 .have e:b=(s.heap.push { cls:=.type "range", data:=.fields #[.int lo t,.int hi u,.int 1 v] }).objs.size:=by simpa using hb
  subst e;show x.fpOk (ae _)<|x.hok.fresh<|ae _
def Y8(l:TA):TI:=λσ H R=>l σ H λvs n=>∃j:Int,vs=[.int j]/\-(2 ^ 62)<=j/\j<2 ^ 62/\R (Itr 0 j.toNat) n
def Ah(n:Gl X "range")(hm:X.mg "range" = n_)(ha:PA X [a] l)(u:↑(ku [a] X.env=[%[f_|eval a X.env]])):PI X tg (.Call (.Name "range" p) [a] [] pos)<|Y8 l:=by
 intro x s σ H R I h;show Call_<|FE I n hm boot_range<|cE (uQ (ha pos x s σ H _ I h) λus s1 o_=>?_) u rfl;have(G,J,z,r1,q1):=o_;have(j,e,q1,B,q):=q1;subst e;cases r1 with
 |cons r E=>cases E;have(t,rfl):=r;show call_range_1<|aaA z (by rfl') (by rfl') q1 B<|by simpa using q
def Xl(u:TI)(g:TG)(z:TS):TS:=λD σ H=>u σ H λJ B=>∃W:Nat->Nat->St->Hp->Prop,(∃m,W 0 m σ B)/\∀i m σ H,W i m σ H ->
 (J.stop i H/\D.nx σ H)∨(J.go i H/\∃N:St->Hp->Prop,(∀l n,N l n->∃t,t<m/\W (i+1) t l n)/\∀x n,J.yld i H x n->g x σ n λs E=>z { D with nx:=N,ct:=N,bk:=D.nx } s E)
noncomputable def LP(fp:Δ)(h:Heap):Φ:=fp.filterMap λb=>(h.get? b).map λo=>%[b|o]
def Ca(hb:b∈fp)(e:h.get? b=bj o):%[b|o]∈LP fp h:=jl.mpr (b,hb,by rw[e];rfl)
def WV(l:p∈LP fp h):p.1∈fp/\h.get? p.1=bj p.2:=by have(b,hb,e):=jl.mp l;cases q:h.get? b with
 |none=>rw[q]at e;cases e
 |some o=>rw[q]at e;have n:%[b|o]=p:=bj.inj e;subst n;show(hb,q)
def qt.pinned{σ:St}(I:qt X l σ H s)(t:∀b∈fp,Hc X l H b)(u:∀b∈fp,∃o,s.heap.get? b=bj o/\∀v,o.data ≠ .cell v):qt X (l++LP fp s.heap) σ H s:=I.pins_of λp x=>(mAq.mp x).elim (λz=>I.pin p<|aH _ z) λz=>by have(hb,e):=WV z;have(B,E,G,_):=t p.1 hb;have(o,n,d):=u p.1 hb;rw[e]at n;cases n;show(e,B,E,G,d)
def qt.unpinned{σ:St}(I:qt X (l++pl) σ H s):qt X l σ H s:=I.pins_of λp n=>I.pin p<|aH _<|cx _ n
def Bp(Q:PassesOwn (kg X.prog X.w) X.A X.env X.xe)(hc:X.calm=t_)(hi:PI X tg xW wi)(hg:PG X tg g)(hb:LY X body tb)
  (hs:∀x,mZ xW X.env x=pure x:=by intro _;rfl):PS X (.For tg xW body [] pos)<|Xl wi g tb:=by
 intro O s σ H D I h;show wpAny_For (uQ (hi O s σ H _ I h) λv s1 h1=>uQ h1 λitv s2 h2=>?_) hs;have(it,R,tn,J,H2,e,I2,T,Qj,f2,W,(m0,w0),turn):=h2;subst e;have t:∀{L:Hp},(∀b∈R,L b=n_)->∀b∈R,Hc X O L b:=λhn b hb=>(hn b hb,(f2 b hb).2);show codeAny_forLoop_any (λn s'=>∃i z L,qt X O z L s'/\tn i s'.heap/\(∀b∈R,L b=n_)/\W i n z L) ?_ m0 (0,σ,H2,I2,Qj,λb hb=>(f2 b hb).1,w0);rintro n s3 ⟨i,B,Y,I3,st3,S,w3⟩;rcases turn i n B Y w3 with⟨stop,qn⟩|⟨go,N,hN,step⟩
 .show lB Q<|uQ (T.done X rfl rfl rfl hc i O s3 B Y X.xe I3 (t S) st3 stop) λr s4 o_=>?_;have(hr,I4):=o_;subst hr;show kR (B,Y,I4,qn)
 .show lB Q<|uQ (T.item X rfl rfl rfl hc i O s3 B Y X.xe I3 (t S) st3 go) λr s4 o_=>?_;have(u,hr,h4):=o_;subst hr;show lB Q<|uQ h4 λZ s5 o_=>?_;have(x,H5,I5,r5,y5,P,fr5):=o_;have I5':=I5.pinned (t fr5)<|T.obj _ _ P;show lB Q<|uQ (hg _ s5 B H5 x u _ I5' r5<|step x H5 y5) λZ s6 o_=>?_;have(σ6,H6,I6,q6):=o_;show lB Q<|uQ (hb _ s6 σ6 H6 _ I6 q6) λf s7 M=>?_;have again:∀{l:St}{E:Hp},qt X (O++LP R s5.heap) l E s7->N l E->∃m,m<n/\∃i z L,qt X O z L s7/\tn i s7.heap/\(∀b∈R,L b=n_)/\W i m z L:=λ{l E} G U=>by
   have(m',hm,w7):=hN l E U;show(m',hm,i+1,l,E,G.unpinned,T.keep _ _ _ P λb hb o e=>(G.pin %[b|o]<|aH _<|aH _<|Ca hb e).1,λb hb=>?_,w7);have(o,e,d):=T.obj _ _ P b hb;show(G.pin %[b|o]<|aH _<|aH _<|Ca hb e).2.1
  cases f with
  |next=>have(l,E,G,U):=M;show again G U
  |cont=>have(l,E,G,U):=M;show again G U
  |brk=>have(l,E,G,M):=M;show(l,E,G.unpinned,M)
  |ret v=>have(x7,l,E,G,r7,M):=M;show(x7,l,E,G.unpinned,r7,M)
def RK{K}{g:TG}{B:TS}{D:zG}(l:Nat->St->Hp->Prop)(G:l 0 σ H)(hl:∀i σ H,i<=xs.length->l i σ H->vk K H a xs)
  (I:∀i x σ H,xs[i]?=bj x->l i σ H->g x σ H λn z=>B { D with nx:=l (i+1),ct:=l (i+1),bk:=D.nx } n z) (hd:∀σ H,l xs.length σ H->D.nx σ H) :
  ∃W:Nat->Nat->St->Hp->Prop,(∃m,W 0 m σ H)/\∀i m σ H,W i m σ H ->
   ((Itl K a).stop i H/\D.nx σ H)∨((Itl K a).go i H/\∃N:St->Hp->Prop,(∀s t,N s t->∃E,E<m/\W (i+1) E s t)/\∀x t,(Itl K a).yld i H x t->g x σ t λn z=>B { D with nx:=N,ct:=N,bk:=D.nx } n z):=by
 show(λi m σ H=>m=xs.length-i/\i<=xs.length/\l i σ H,(xs.length,by simp,aY _,G),?_);rintro i m σ H ⟨rfl,hi,p⟩;have q:=hl i σ H hi p;by_cases u:i<xs.length
 .show .inr ((xs,xs[i],q,by simp[u]),l<|i+1,λs t J=>(xs.length-(i+1),by omega,rfl,u,J),λx t y=>?_);have(e,y):=y;subst e;show I i x σ _ (y xs q) p
 .have e:i=xs.length:=by rfl'
  subst e;show .inl ((xs,q,ae _),hd σ H p)
def YF{lo}{g:TG}{E:TS}{D:zG}(l:Nat->St->Hp->Prop)(I:l 0 σ H)
  (J:∀i σ H,i<n->l i σ H->g (.int<|lo+i) σ H λs B=>E { D with nx:=l (i+1),ct:=l (i+1),bk:=D.nx } s B) (hd:∀σ H,l n σ H->D.nx σ H) :
  ∃W:Nat->Nat->St->Hp->Prop,(∃m,W 0 m σ H)/\∀i m σ H,W i m σ H ->
   ((Itr lo n).stop i H/\D.nx σ H)∨((Itr lo n).go i H/\∃N:St->Hp->Prop,(∀t u,N t u->∃G,G<m/\W (i+1) G t u)/\∀x u,(Itr lo n).yld i H x u->g x σ u λs B=>E { D with nx:=N,ct:=N,bk:=D.nx } s B):=by
 show(λi m σ H=>m=n-i/\i<=n/\l i σ H,(n,by simp,aY _,I),?_);rintro i m σ H ⟨rfl,hi,p⟩;by_cases z:i<n
 .show .inr (z,l<|i+1,λt u L=>(n-(i+1),by omega,rfl,z,L),λx u y=>?_);have(e,y):=y;subst e y;show J i σ _ z p
 .have e:i=n:=by rfl'
  subst e;show .inl (ae _,hd σ H p)
abbrev R2:=V->V->Hp->VK->Prop
def JF(X:Cx)(f:Value->Value->Sem Value)(r:R2):Prop:=∀l s (σ:St) H x y v u Q,qt X l σ H s->rS x v->rS y u->r x y H Q ->
  kj (kg X.prog X.w) X.A (f v u) (EP X l σ Q) X.xe s
def UnR(X:Cx)(f:Value->Sem Value)(r:V->Hp->VK->Prop):Prop:=∀l s (σ:St) H x v Q,qt X l σ H s->rS x v->r x H Q ->
  kj (kg X.prog X.w) X.A (f v) (EP X l σ Q) X.xe s
def vN(X:Cx)(f:Value)(r:List V->Hp->VK->Prop):Prop:=∀l s (σ:St) H xs us Q,qt X l σ H s->qS xs us->r xs H Q ->
  kj (kg X.prog X.w) X.A (call f us) (EP X l σ Q) X.xe s
def anW(X:Cx)(r:V->Hp->(Bool->Hp->Prop)->Prop):Prop:=∀l s (σ:St) H x v Q,qt X l σ H s->rS x v->r x H Q ->
  kj (kg X.prog X.w) X.A (truthy v) (TP X l σ Q) X.xe s
def tOp(r:R2)(l n:TE):TE:=λσ H Q=>l σ H λx s=>n σ s λy t=>r x y t Q
def tUn(r:V->Hp->VK->Prop)(l:TE):TE:=λσ H Q=>l σ H λx n=>r x n Q
def rI(C:Int->Int->Prop)(g:Int->Int->V):R2:=λx y H Q=>∃i j,x = .int i/\y = .int j/\C i j/\Q (g i j) H
def ZT(g:Int->Int->V):R2:=λx y H Q=>∃i j,x = .int i/\y = .int j/\Q (g i j) H
def rU(g:Int->V):V->Hp->VK->Prop:=λx H Q=>∃i,x = .int i/\Q (g i) H
def akc(ha:PE X a ta)(hb:PE X b tb){σ:St}{R:V->V->Hp->Prop}(I:qt X z σ H s)
  (h:ta σ H λx B=>tb σ B λy l=>R x y l) {f:Value->Value->Sem Value}
  (E:∀v u s2 x y l,qt X z σ l s2->rS x v->rS y u->R x y l->kj (kg X.prog X.w) X.A (f v u) Q X.xe s2) :
  kj (kg X.prog X.w) X.A (eval a X.env) (λv n=>kj (kg X.prog X.w) X.A (eval b X.env) (λu t=>kj (kg X.prog X.w) X.A (f v u) Q X.xe t) X.xe n) X.xe s:=by
 show uQ (ha z s σ H _ I h) λv s1 o_=>?_;have(x,B,G,r1,q1):=o_;show uQ (hb z s1 σ B _ G q1) λu s2 o_=>?_;have(y,l,J,r2,L):=o_;show E v u s2 x y l J r1 r2 L
def rq(n:JF X (lJ l) r)(ha:PE X a ta)(hb:PE X b tb):PE X (.BinOp a l b pos)<|tOp r ta tb:=by intro t s σ H Q I h;show wpAny_BinOp<|akc ha hb I h λv u s2 x y z B E G q=>n t s2 σ z x y v u Q B E G q
def BV(t:UnR X (unaryOp l) r)(ha:PE X a ta):PE X (.UnaryOp l a pos)<|tUn r ta:=by intro n s σ H Q I h;show UnaryOp_<|uQ (ha n s σ H _ I h) λv s1 o_=>?_;have(x,u,z,r1,q1):=o_;show t n s1 σ u x v Q z r1 q1
def opI{g:Int->Int->Int}
  (rule:∀i j t u s Q E,C i j->Q (.int (g i j) s.toks) { s with toks:=s.toks+1 }->kj (kg X.prog X.w) X.A (f (.int i t)<|.int j u) Q E s) :
  JF X f<|rI C λi j=>.int<|g i j:=by intro G s σ H x y v u Q I l n h;have(i,j,rfl,rfl,z,q):=h;have(t,rfl):=l;have(B,rfl):=n;show rule i j t B s _ _ z (.int<|g i j,H,I.tok _,(_,rfl),q)
def alM{g:Int->Int->Int}
  (rule:∀i j t u s Q E,Q (.int (g i j) s.toks) { s with toks:=s.toks+1 }->kj (kg X.prog X.w) X.A (f (.int i t)<|.int j u) Q E s) :
  JF X f<|ZT λi j=>.int<|g i j:=by intro B s σ H x y v u Q I l n h;have(i,j,rfl,rfl,q):=h;have(t,rfl):=l;have(z,rfl):=n;show rule i j t z s _ _ (.int<|g i j,H,I.tok _,(_,rfl),q)
def alf{g:Int->Int->Bool}
  (rule:∀i j t u s Q E,Q (.bool<|g i j) s->kj (kg X.prog X.w) X.A (f (.int i t)<|.int j u) Q E s) :
  JF X f<|ZT λi j=>.bl<|g i j:=by intro B s σ H x y v u Q I l n h;have(i,j,rfl,rfl,q):=h;have(t,rfl):=l;have(z,rfl):=n;show rule i j t z s _ _ (.bl<|g i j,H,I,rfl,q)
def ai1(i j:Int):Prop:=0<j/\j<1073741824
def ahz(i j:Int):Prop:=0<=j/\j<=1000000/\i.natAbs<2 ^ 64
def ZK(i j:Int):Prop:=(-(2 ^ 64)<i/\i<2 ^ 64)∨(-(2 ^ 64)<j/\j<2 ^ 64)
def ZK.ok(h:ZK i j):IntMulOk i j:=by
 rcases h with⟨l,n⟩|⟨l,n⟩;.show .of_left<|intBits_le_64 l n
 .show .of_right<|intBits_le_64 l n
def xf:JF X (lJ .Add)<|ZT λi j=>.int<|i+j:=alM λQ Q Q Q Q Q Q q=>add_int q
def aiw:JF X (lJ .Sub)<|ZT λi j=>.int<|i-j:=alM λQ Q Q Q Q Q Q q=>sub_int q
def Uk:JF X (lJ .Mult)<|rI ZK λi j=>.int<|i*j:=opI λQ Q Q Q Q Q Q l q=>mul_int q l.ok
def Cs:JF X (lJ .FloorDiv)<|rI ai1 λi j=>.int<|i / j:=opI λi j Q Q Q Q Q l q=>by have n:(0:Int)<j:=l.1;have s:j<1073741824:=l.2;show floordiv_int ∅ (by rw[gM i<|by rfl'];show q)<|.inl<|PyProof.noPylong_small<|by omega
def wt:JF X (lJ .Mod)<|rI (λQ j=>0<j) λi j=>.int<|i % j:=opI λi j Q Q Q Q Q l q=>by have n:(0:Int)<j:=l;show mod_int' ∅<|by rw[Int.fmod_eq_emod_of_nonneg i<|by rfl'];show q
def Ll:JF X (lJ .Pow)<|rI ahz λi j=>.int<|i ^ j.toNat:=opI λQ Q Q Q Q Q Q l q=>pow_int_small l.1 l.2.1 l.2.2 q
def unI{g:Int->Int}
  (rule:∀i t s Q E,Q (.int (g i) s.toks) { s with toks:=s.toks+1 }->kj (kg X.prog X.w) X.A (f<|.int i t) Q E s) :
  UnR X f<|rU λi=>.int<|g i:=by intro n s σ H x v Q I l h;have(i,rfl,q):=h;have(t,rfl):=l;show rule i t s _ _ (.int<|g i,H,I.tok _,(_,rfl),q)
def yS:UnR X (unaryOp .USub)<|rU λi=>.int<|-i:=unI λQ Q Q Q Q q=>neg_int q
noncomputable def scal:V->V->Bool
 | .non,.non=>t_|.non,.int _=>t_|.int _,.non=>t_|.non,.bl _=>t_|.bl _,.non=>t_|.non,.str _=>t_|.str _,.non=>t_
 | .int _,.int _=>t_|.bl _,.bl _=>t_|.str _,.str _=>t_|.byt _,.byt _=>t_
 | .int _,.str _=>t_|.str _,.int _=>t_|.bl _,.str _=>t_|.str _,.bl _=>t_
 |_,_=>f_
def rEq:R2:=λx y H Q=>scal x y=t_/\Q (.bl<|decide<|x=y) H
def rNe:R2:=λx y H Q=>scal x y=t_/\Q (.bl<|!decide (x=y)) H
def VE:decide (V.int i=V.int j)=(i == j):=by rw[dh];simp
def aaw:decide (V.bl i=V.bl j)=(i == j):=by rw[dh];simp
def WM:decide (V.str i=V.str j)=(i == j):=by rw[dh];simp
def WG:decide (V.byt i=V.byt j)=(i.toList == j.toList):=by rw[dh];cases i;cases j;simp
def tq{σ:St}(I:qt X l σ H s)(q:Q (.bl k) H)(e:k=n):EP X l σ Q (.bool n) s:=by subst e;show(.bl k,H,I,rfl,q)
def op_eq:JF X (kX .Eq) rEq:=by intro E s σ H x y v u Q I B l h;have(z,q):=h;cases x with
 |non=>cases B;cases y with
  |non=>cases l;show PySem.EqNone.eq_none_none<|tq I q<|by rfl
  |bl j=>cases l;show PySem.EqNone.eq_none_bool<|tq I q<|by rfl
  |int j=>have(n,rfl):=l;show PySem.EqNone.eq_none_int<|tq I q<|by rfl
  |str j=>have(n,rfl):=l;show PySem.EqNone.eq_none_str<|tq I q<|by rfl
  |_=>show absurd (show f_=t_ from z) aE
 |bl i=>cases B;cases y with
  |non=>cases l;show PySem.EqNone.eq_bool_none<|tq I q<|by rfl
  |bl j=>cases l;show eq_bool<|tq I q aaw
  |str j=>have(n,rfl):=l;show PySem.EqMixed.eq_bool_str<|tq I q<|by rfl
  |_=>show absurd (show f_=t_ from z) aE
 |int i=>have(t,rfl):=B;cases y with
  |non=>cases l;show PySem.EqNone.eq_int_none<|tq I q<|by rfl
  |int j=>have(n,rfl):=l;show eq_int<|tq I q VE
  |str j=>have(n,rfl):=l;show PySem.EqMixed.eq_int_str<|tq I q<|by rfl
  |_=>show absurd (show f_=t_ from z) aE
 |str i=>have(t,rfl):=B;cases y with
  |non=>cases l;show PySem.EqNone.eq_str_none<|tq I q<|by rfl
  |bl j=>cases l;show PySem.EqMixed.eq_str_bool<|tq I q<|by rfl
  |int j=>have(n,rfl):=l;show PySem.EqMixed.eq_str_int<|tq I q<|by rfl
  |str j=>have(n,rfl):=l;show eq_str<|tq I q WM
  |_=>show absurd (show f_=t_ from z) aE
 |byt i=>have(t,rfl):=B;cases y with
  |byt j=>have(n,rfl):=l;show W.eq_bytes<|tq I q WG
  |_=>show absurd (show f_=t_ from z) aE
 |_=>cases y <;> show absurd (show f_=t_ from z) aE
def V6:JF X (kX .NotEq) rNe:=by intro E s σ H x y v u Q I B l h;have(z,q):=h;cases x with
 |non=>cases B;cases y with
  |non=>cases l;show PySem.EqNone.ne_none_none<|tq I q<|by rfl
  |bl j=>cases l;show PySem.EqNone.ne_none_bool<|tq I q<|by rfl
  |int j=>have(n,rfl):=l;show PySem.EqNone.ne_none_int<|tq I q<|by rfl
  |str j=>have(n,rfl):=l;show PySem.EqNone.ne_none_str<|tq I q<|by rfl
  |_=>show absurd (show f_=t_ from z) aE
 |bl i=>cases B;cases y with
  |non=>cases l;show PySem.EqNone.ne_bool_none<|tq I q<|by rfl
  |bl j=>cases l;show ne_bool<|tq I q<|congrArg not aaw
  |str j=>have(n,rfl):=l;show PySem.EqMixed.ne_bool_str<|tq I q<|by rfl
  |_=>show absurd (show f_=t_ from z) aE
 |int i=>have(t,rfl):=B;cases y with
  |non=>cases l;show PySem.EqNone.ne_int_none<|tq I q<|by rfl
  |int j=>have(n,rfl):=l;show ne_int<|tq I q<|congrArg not VE
  |str j=>have(n,rfl):=l;show PySem.EqMixed.ne_int_str<|tq I q<|by rfl
  |_=>show absurd (show f_=t_ from z) aE
 |str i=>have(t,rfl):=B;cases y with
  |non=>cases l;show PySem.EqNone.ne_str_none<|tq I q<|by rfl
  |bl j=>cases l;show PySem.EqMixed.ne_str_bool<|tq I q<|by rfl
  |int j=>have(n,rfl):=l;show PySem.EqMixed.ne_str_int<|tq I q<|by rfl
  |str j=>have(n,rfl):=l;show ne_str<|tq I q<|congrArg not WM
  |_=>show absurd (show f_=t_ from z) aE
 |byt i=>have(t,rfl):=B;cases y with
  |byt j=>have(n,rfl):=l;show W.ne_bytes<|tq I q<|congrArg not WG
  |_=>show absurd (show f_=t_ from z) aE
 |_=>cases y <;> show absurd (show f_=t_ from z) aE
def QL:JF X (kX .Lt)<|ZT λi j=>.bl<|decide<|i<j:=alf λQ Q Q Q Q Q Q q=>lt_int q
def Rj:JF X (kX .Gt)<|ZT λi j=>.bl<|decide<|j<i:=alf λQ Q Q Q Q Q Q q=>gt_int q
def LD:JF X (kX .Is)<|λx y H Q=>y = .non/\Q (.bl<|decide<|x = .non) H:=by intro z s σ H x y v u Q I l n h;have(rfl,q):=h;cases n;show is_none_gen<|tq I q ?_;cases x <;> first
  | (cases l;rfl)
  | (have(t,rfl):=l;rfl)
def sA b(h:⇑(l ≠ .In))(n:⇑(l ≠ .NotIn)):mh l b=f_:=by
 have e1:(l == CmpOp.In)=f_:=by cases l <;> first|rfl|show absurd rfl h
 have e2:(l == CmpOp.NotIn)=f_:=by cases l <;> first|rfl|show absurd rfl n
 cases b <;> simp[mh,e1,e2]
def JI(n:JF X (kX l) r)(ha:PE X a ta)(hb:PE X b tb)(hm:mh l b=f_):PE X (.Compare a [l] [b] pos)<|tOp r ta tb:=by intro t s σ H Q I h;show wpAny_Compare1 (akc ha hb I h λv u s2 x y z B E G q=>n t s2 σ z x y v u Q B E G q) hm
def agV(t:TE):TT:=λσ H Q=>t σ H λx l=>∃k,x = .bl k/\Q k l
def qP(t:JF X (kX l) r)(ha:PE X a ta)(hb:PE X b tb)(hm:mh l b=f_):PT X (.Compare a [l] [b] pos)<|agV<|tOp r ta tb:=by
 intro n s σ H Q I h;show nS (uQ (ha n s σ H _ I h) λv s1 o_=>?_) hm;have(x,B,E,r1,q1):=o_;show uQ (hb n s1 σ B _ E q1) λu s2 o_=>?_;have(y,G,J,r2,L):=o_;show uQ (t n s2 σ G x y v u _ J r1 r2 L) λc S o_=>?_;have(z,M,O,P,k,e,R):=o_;subst e;cases P;show kU (M,O,R)
def ai5(K:Ζ)(x:V)(H:Hp)(k:Bool):Prop:=match x with
 | .non=>k=f_
 | .bl b=>k=b
 | .int i=>k=(i != 0)
 | .str y=>y.length<=ky/\k=((y.length:Int) != 0)
 | .byt y=>y.size<=ky/\k=((y.size:Int) != 0)
 | .ref p=>(∃xs,vk K H p xs/\k = !xs.isEmpty)∨(∃xs,FF K H p xs/\k = !xs.isEmpty)∨∃kvs,H p=bj (.dK kvs)/\k = !kvs.isEmpty
 |_=>False
def TN{kvs:List<|κ×V}{vs}(r:KV kvs vs):(!vs.isEmpty) = !kvs.isEmpty:=by cases r <;> rfl
def K1(r:qS xs l):(!l.toArray.isEmpty) = !xs.isEmpty:=by cases r <;> rfl
def OI:(ky:Nat)<2 ^ 63:=by rw[kO];decide
def ahD:anW X<|λx H Q=>∃k,ai5 X.K x H k/\Q k H:=by intro P s σ H x v Q I B h;have(k,e,q):=h;have hl:=OI;have R:ky=16777216:=kO;cases x with
 |non=>cases B;have l:k=f_:=e;subst l;show truthy_none (H,I,q)
 |bl b=>cases B;have l:k=b:=e;subst l;show kU (H,I,q)
 |int i=>have(t,rfl):=B;have l:k=(i != 0):=e;subst l;show PySem.P.truthy_int (H,I,q)
 |str y=>have(t,rfl):=B;obtain⟨M,l⟩:y.length<=ky/\k=((y.length:Int) != 0):=e;subst l;show PySem.P.truthy_str ∅ (H,I.tok _,q)
 |byt y=>have(t,rfl):=B;obtain⟨M,l⟩:y.size<=ky/\k=((y.size:Int) != 0):=e;subst l;show W.truthy_bytes ∅ (H,I.tok _,q)
 |ref p=>
  cases B;have l:(∃z,vk X.K H p z/\k = !z.isEmpty)∨(∃z,FF X.K H p z/\k = !z.isEmpty)∨∃n,H p=bj (.dK n)/\k = !n.isEmpty:=e;rcases l with⟨z,E,l⟩|⟨z,E,l⟩|⟨n,E,l⟩;.cases l;have(J,r,pl,L):=I.list E;have u:=r.length;show wpAny_truthy_list pl.isList (by simp only[ao];lia) (H,I.tok _,by rw[K1 r];show q)
  .subst l;have(J,r,pl,L):=I.tuple E;have u:=r.length;show truthy_tuple pl (by simp only[ao];lia) (H,I.tok _,by rw[K1 r];show q)
  .subst l;obtain⟨L,O,G,r,m⟩:n.length<=ky/\(p == lu)=f_/\∃G,KV n G/\s.heap.DictOf (uR X.prog X.w) p G:=I.hok p _ E;have u:n.length=G.length:=Paired.length r;show wpAny_truthy_dict O m ∅ (H,I.tok _,by rw[TN r];show q)
 |_=>show(show False from e).elim
def KY(ha:PE X a ta)(u:∀l,isTrue a X.env l=(do let v ←l;mQ a.pos;mS [v] (truthy v))) :
  PT X a<|λσ H Q=>ta σ H λx n=>∃k,ai5 X.K x n k/\Q k n:=by intro t s σ H Q I h;show isTrue_plain (uQ (ha t s σ H _ I h) λv s1 o_=>?_)<|u _;have(x,z,B,r1,q1):=o_;show ahD t s1 σ z x v Q B r1 q1
def HD(r:qS [x] us):∃u,us=[u]/\rS x u:=by cases r with
 |cons r1 r2=>cases r2;show(_,rfl,r1)
def Wl(r:qS [x,y] us):∃u l,us=[u,l]/\rS x u/\rS y l:=by cases r with
 |cons r1 r2=>cases r2 with
  |cons n s=>cases s;show(_,_,rfl,r1,n)
def amw(K:Ζ)(x:V)(H:Hp)(n:Nat):Prop:=match x with
 | .str y=>y.length<=ky/\n=y.length
 | .byt y=>y.size<=ky/\n=y.size
 | .ref p=>(∃xs,vk K H p xs/\n=xs.length)∨∃xs,FF K H p xs/\n=xs.length
 |_=>False
def uM:vN X (.builtin "len")<|λxs H Q=>∃x n,xs=[x]/\amw X.K x H n/\Q (.int n) H:=by intro O s σ H xs us Q I r h;have(x,n,rfl,e,q):=h;have(u,rfl,B):=HD r;have hl:=OI;have P:ky=16777216:=kO;cases x with
 |str y=>have(t,rfl):=B;obtain⟨L,z⟩:y.length<=ky/\n=y.length:=e;subst z;show len_str ∅ (.int _,H,I.tok _,(_,rfl),q)
 |byt y=>have(t,rfl):=B;obtain⟨L,z⟩:y.size<=ky/\n=y.size:=e;subst z;show W.len_bytes ∅ (.int _,H,I.tok _,(_,rfl),q)
 |ref p=>
  cases B;have z:(∃xs,vk X.K H p xs/\n=xs.length)∨∃xs,FF X.K H p xs/\n=xs.length:=e;rcases z with⟨xs,E,z⟩|⟨xs,E,z⟩;.subst z;have(G,J,pl,M):=I.list E;have l:=J.length;show Calls.call_len_list pl.isList (by simp only[ao];lia) (.int xs.length,H,I.tok _,(_,by simp only[ao];rw[l]),q)
  .subst z;have(G,J,pl,M):=I.tuple E;have l:=J.length;show len_tuple pl (by simp only[ao];lia) (.int xs.length,H,I.tok _,(_,by simp only[ao];rw[l]),q)
 |_=>show(show False from e).elim
structure UL (h:Heap)(x dx C:Addr)(mA:Str->Υ):Prop where
 obj:h.get? x=bj (W.instObj C dx)
 ns:h.Ns1 dx mA
 ne:dx≠x
set_option tactic.hygienic true in
def XR{h:Heap}{u:Str->Υ}(n:h.Ns1 s u):∃od,h.get? s=bj od/\∀name,W.lookIn name od=bj (u name):=by
 have(o,x,H,B,hd,hk,_,hm):=n;show(o,B,λname=>?_);have e:=hm name;unfold nsFind findBy at e;rw[←Array.find?_toList]at e;unfold W.lookIn;rw[hd];dsimp only;split;.rename_i y q;rw[q]at e;show congrArg bj e
 .rename_i q;rw[q]at e;have a:x.toList.any (·.refKey)=f_:=by rw[List.any_eq_false];intro y E;have(z,t,l):=hk y<|fY.mp E;simp[DictEntry.refKey,l]
  have G:¬ x.toList.any (·.refKey)=t_:=by rw[a];show aE
  rw[qL G];show congrArg bj e
def UL.look(I:UL h x l C n):∃od,W.InstAt h x (W.instObj C l) C (bj od)/\∀name,W.lookIn name od=bj (n name):=let ⟨od,s,hl⟩:=XR I.ns
 (od,(I.obj,rfl,rfl,s),hl)
section
variable {K:Ζ}
def agy(X:K.In s.heap)(I:UL s.heap x dx C mA)(t:W.plainGet K C name=t_)(hh:W.hasDictIn K C=t_)
  (ha:W.findIn K (.ref C) name=bj n_) (u:mA name=bj v) (n:W.handedIn v=t_) (h:Q v { s with toks:=s.toks+1 }) :
  kj (kg prog w) A (ac1 (.ref x) name l) Q E s:=by have(z,J,hl):=I.look;show W.get_value X J (W.plainGet_of t).1 (W.findObj_own hh ha rfl<|by rw[hl,u]) n h
def ZL{Q:Value×Ξ->ke->Prop}(X:K.In s.heap)(I:UL s.heap x dx C mA)(l:W.plainGet K C name=t_)
  (n:W.findIn K (.ref C) name=bj (bj<|.ref f)) (ht:W.isFn K (.ref f)=t_) (t:mA name=n_) (h:Q %[.ref f|[.ref x]] s) :
  kj (kg prog w) A (mw (.ref x) name pl) Q E s:=by have(u,J,hl):=I.look;show W.method_fn X J (W.plainGet_of l).1 (W.plainGet_of l).2 n (beq_iff_eq.mp ht) (by change(W.lookIn name u).map (·.isSome)=bj f_;rw[hl,t];rfl) h
def adO(X:K.In s.heap)(I:UL s.heap x dx C mA)
  (G:W.findIn K (.ref C) "__setattr__" = bj (bj<|.builtin "object.__setattr__")) (H:W.plainOver K C=t_) (ht:W.takerIn K C name=bj n_) (hh:W.hasDictIn K C=t_)
  (hw:PySem.Within mA ns) (hsz:ns.length<=ky)
  (h:∀h',UL h' x dx C (λy=>if y=name then bj v else mA y)->fi dx s.heap h'->Q () { s with heap:=h',toks:=s.toks+2 }) :
  kj (kg prog w) A (setAttr (.ref x) name v) Q E s:=by
 have(R,J,hl):=I.look;show W.set_plain X J G<|W.osa_open (s:={ s with toks:=s.toks+1 }) (r:=n_) X J H ht λb=>?_;have(S,L,t):=W.any_some hh;have M:s.heap.get? x=bj (.ref C,bj dx,.plain,#[]):=I.obj;show ki<|kA<|ki<|ki<|wpAny_loadPart M<|ki<|W.Looks.here (s:={ s with toks:=s.toks+1 }) (W.looks_clsIn X L) ?_;rw[t];show kA (a:=bj dx)<|ki<|kA<|ki ?_;show wpAny_nsSet1 (s:={ s with toks:=s.toks+1 }) I.ns λh' l n=>?_;have(T,O,P,u,z,B):=l.count<|PySem.Within.cons name v hw;show ki<|wpAny_lookBehind u (by rw[z];show pastItsLine_dict<|bh B<|by rw[lCq];rfl') ?_;show kA<|h _ ((n.2 _<|Ne.symm I.ne).trans I.obj,l,I.ne) n
def acx{vs:Ξ}(X:K.In s.heap)(hm:W.makesIn K C=t_)
  (hi:W.findIn K (.ref C) "__init__" = bj (bj<|.ref f)) (n:W.typeIn K (.ref f)=bj (.type "function"))
  (h:lH (kg prog w) (A.under<|.builtin "type.__call__" (.ref C::vs,l)) (.call (.ref f) (.ref (s.heap.objs.size+1)::vs,l)) (W.InitBack (s.heap.objs.size+1) R)
   { s with heap:=(s.heap.push W.emptyDict).push (W.instObj C s.heap.objs.size) }) :
  lH (kg prog w) A (.call (.ref C) (vs,l)) R s:=by have(hh,g,d,t,os):=s;show W.make_core (W.makes_of X hm) (W.looks_findIn X hi) (λself=>W.bind_fn X self n) (.inl rfl) h
end
noncomputable def An(f:Str)(v:V):List (Str×V)->List (Str×V)
 | []=>[%[f|v]]
 | %[g|x]::r=>if g=f then %[g|v]::r else %[g|x]::An f v r
theorem IS(f g)v:∀fs:List<|Str×V,(An f v fs).lookup g=if g=f then bj v else fs.lookup g
 | []=>by
  change cG g [%[f|v]]=_;by_cases h:g=f;.have hb:(g == f)=t_:=beq_iff_eq.mpr h;simp only[cG,hb,qF h]
  .have hb:(g == f)=f_:=beq_eq_false_iff_ne.mpr h;simp only[cG,hb,qL h]
 | %[k|x]::r=>by
  have l:=IS f g v r;rw[show An f v (%[k|x]::r)=(if k=f then %[k|v]::r else %[k|x]::An f v r)from rfl];by_cases hk:k=f
  .rw[qF hk];by_cases h:g=k;.have hb:(g == k)=t_:=beq_iff_eq.mpr h;simp only[cG,hb,qF<|h.trans hk]
   .have hb:(g == k)=f_:=beq_eq_false_iff_ne.mpr h;simp only[cG,hb,qL<|λe:g=f=>h<|e.trans hk.symm]
  .rw[qL hk];by_cases h:g=k;.have hb:(g == k)=t_:=beq_iff_eq.mpr h;simp only[cG,hb,qL<|λe:g=f=>hk<|h.symm.trans e]
   .have hb:(g == k)=f_:=beq_eq_false_iff_ne.mpr h;simp only[cG,hb];show l
theorem HX(f)v:∀fs:List<|Str×V,f∈(An f v fs).map (·.1)/\∀g,g∈fs.map (·.1)->g∈(An f v fs).map (·.1)
 | []=>(by simp[An],λg h=>by simp at h)
 | %[k|x]::r=>by
  have(i1,l):=HX f v r;rw[show An f v (%[k|x]::r)=(if k=f then %[k|v]::r else %[k|x]::An f v r)from rfl];by_cases hk:k=f;.rw[qF hk];subst hk;show(by simp,λg h=>by show h)
  .rw[qL hk];show(?_,λg h=>?_);.rw[aq];show mCo _ i1
   .rw[aq]at h ⊢;rcases ag.mp h with e|e;.show ag.mpr<|.inl e
    .show mCo _<|l g e
theorem IR(f)v:∀fs:List<|Str×V,(An f v fs).length<=fs.length+1
 | []=>by simp[An]
 | %[k|x]::r=>by
  have l:=IR f v r;rw[show An f v (%[k|x]::r)=(if k=f then %[k|v]::r else %[k|x]::An f v r)from rfl];by_cases hk:k=f;.rw[qF hk,lCq,lCq];rfl'
  .rw[qL hk,lCq,lCq];rfl'
def Du.some_of(r:Du (bj v) o):∃u,o=bj u/\rS v u:=by cases o with
 |none=>show(show False from r).elim
 |some u=>show(u,rfl,r)
def Du.none_of(r:Du n_ o):o=n_:=by cases o with
 |none=>rfl
 |some u=>show(show False from r).elim
def Xq(r:rS v u):W.handedIn u=t_:=by cases v with
 |non=>cases(show u=dr from r);rfl
 |bl b=>cases(show u=iX b from r);rfl
 |int i=>have(t,e):=(show ∃t,u=gS i t from r);cases e;rfl
 |str x=>have(t,e):=(show ∃t,u=iG x t from r);cases e;rfl
 |byt b=>have(t,e):=(show ∃t,u=jV b t from r);cases e;rfl
 |flt b=>have(t,e):=(show ∃t,u=jw b t from r);cases e;rfl
 |ref a=>cases(show u=ah a from r);rfl
 |ty n=>cases(show u=cI n from r);rfl
def JS(hok:Dw P w H h)(e:H a=bj (.ins C dx fs)):∃l,UL h a dx C l/\(∀f,Du (fs.lookup f)<|l f)/\PySem.Within l (fs.map (·.1))/\fs.length<=1000/\H dx=bj (.own a):=by
 have(d,z,ne,s,l,n,r,q):=(show tT P w H h a (.ins C dx fs)from hok a _ e);show(l,(s,n,ne),r,q,z,d)
structure NK (K:Ζ)(C:Addr):Prop where
 pg:W.plainGet K C Str.empty=t_
 hd:W.hasDictIn K C=t_
 po:W.plainOver K C=t_
 sa:W.findIn K (.ref C) "__setattr__" = bj (bj<|.builtin "object.__setattr__")
def NK.get{K}(c:NK K C)f:W.plainGet K C f=t_:=c.pg
def oQ(K:Ζ)(C:Addr)(f:Str):Prop:=W.findIn K (.ref C) f=bj n_
def oQ.taker{K}(n:oQ K C f):W.takerIn K C f=bj n_:=by
 unfold W.takerIn;rw[show W.findIn K (.ref C) f=bj n_ from n];rfl
structure yp (K:Ζ)(C:Addr)(m:Str)(f:Addr):Prop where
 at_:W.findIn K (.ref C) m=bj (bj<|.ref f)
 fn:W.isFn K (.ref f)=t_
 kp:W.keepIn K (.ref f)=t_
section
variable {σ:St}
def U4(I:qt X ou σ H s)(e:H a=bj (.ins C dx fs))(c:NK X.K C)(n:oQ X.K C f)(l:fs.lookup f=bj v)
  (h:∀u s',qt X ou σ H s'->rS v u->Q u s'):kj (kg X.prog X.w) A (ac1 (.ref a) f b) Q E s:=by
 have(x,O,r,_,_,_):=JS I.hok e;have(u,z,t):=Du.some_of (v:=v) (o:=x f)<|by rw[←l];show r f
 show agy I.kIn O (c.get f) c.hd n z (Xq t)<|h u _ (I.tok _) t
def Gq{Q:Value×Ξ->ke->Prop}(I:qt X ou σ H s)(e:H a=bj (.ins C dx fs))(c:NK X.K C)(k:yp X.K C m g)(l:fs.lookup m=n_)
  (h:Q %[.ref g|[.ref a]] s):kj (kg X.prog X.w) A (mw (.ref a) m pl) Q E s:=by
 have(n,O,r,_,_,_):=JS I.hok e;have hn:n m=n_:=Du.none_of<|by rw[←l];show r m
 show ZL I.kIn O (c.get m) k.at_ k.fn hn h
def Tj(I:qt X ou σ H s)(e:H a=bj (.ins C dx fs))(c:NK X.K C)(n:oQ X.K C f)(hl:fs.length<1000)(J:rS y u)
  (h:∀s',qt X ou σ (rO H a<|.ins C dx<|An f y fs) s'->Q () s'):kj (kg X.prog X.w) A (setAttr (.ref a) f u) Q E s:=by
 have(t,O,r,B,_,G):=JS I.hok e;have L:(fs.map (·.1)).length<=ky:=by rw[lMq,kO];lia
 show adO I.kIn O c.sa c.po n.taker c.hd B L λM l sb=>h _ ?_;have hd:∃o,M.get? dx=bj o:=let ⟨o,_,_,P,_⟩:=l.ns;(o,P);show I.write (x:=a) (e:=dx) (by rw[e];show True.intro) (.inr G) (λb q hb z=>(sb.2 b hb).trans z) hd ?_;show(by rw[pB O.ne];show G,?_,O.ne,l.obj,_,l.ns,λg=>?_,λg R=>?_);.have:=IR f y fs;lia
 .change Du ((An f y fs).lookup g) (if g=f then bj u else t g);rw[IS];by_cases q:g=f;.rw[qF q,qF q];show J
  .rw[qL q,qL q];show r g
 .by_cases q:g=f;.rw[q];show(HX f y fs).1
  .show(HX f y fs).2 g<|B g λz=>R ?_;change(if g=f then bj u else t g)=n_;rw[qL q];show z
def qt.made(I:qt X ou σ H s):qt X ou σ (rO (rO H s.heap.objs.size<|.own<|s.heap.objs.size+1) (s.heap.objs.size+1)<|.ins C s.heap.objs.size [])
  { s with heap:=(s.heap.push W.emptyDict).push (W.instObj C s.heap.objs.size) }:=by
 have e1:(s.heap.push W.emptyDict).get? s.heap.objs.size=bj W.emptyDict:=bp s.heap rfl;have e2:((s.heap.push W.emptyDict).push<|W.instObj C s.heap.objs.size).get? (s.heap.objs.size+1)=bj (W.instObj C s.heap.objs.size):=by
  have:=bp (s.heap.push W.emptyDict) (o:=W.instObj C s.heap.objs.size) rfl;rwa [fv]at this
 have l:(s.heap.push W.emptyDict).Ns s.heap.objs.size<|λQ=>n_:=(W.emptyDict,#[],_,e1,rfl,(λe n=>absurd n ⋯),λQ=>rfl);have t:=I.laid (a:=s.heap.objs.size) (o:=.own<|s.heap.objs.size+1) (h':=s.heap.push W.emptyDict) (t':=s.toks) (λb u q=>aa _ q) (ae _) (_,e1);show t.laid (a:=s.heap.objs.size+1) (o:=.ins C s.heap.objs.size []) (t':=s.toks) (λb u q=>aa _ q) (fj<|fv _ _) ?_;have ne:s.heap.objs.size≠s.heap.objs.size+1:=aB<|dA _;show(by rw[pB ne,pH],aY _,ne,e2,λQ=>n_,(Heap.Ns1.of_empty l).at λo q=>aa _ q,λQ=>True.intro,λy x=>absurd rfl x)
def VA(hb:mC e f env (eval e env)=eval e env)
  (h:kj (kg prog w) A (eval e env) (λo l=>kj (kg prog w) A (ac1 o f t_) Q E l) E s):kj (kg prog w) A (eval (.Attribute e f pos) env) Q E s:=Attribute_any_ h<|by simp only[arm_eval_Attribute,hb]
end
def al0(K:Ζ)(n:TE)(f:Str):TE:=λσ H Q=>n σ H λx l=>∃a C s fs v,x = .ref a/\l a=bj (.ins C s fs)/\NK K C/\oQ K C f/\fs.lookup f=bj v/\Q v l
def Zg(K:Ζ)(s t:TE)(f:Str):TS:=λD σ H=>t σ H λy u=>s σ u λx l=>∃a C n fs,x = .ref a/\l a=bj (.ins C n fs)/\NK K C/\oQ K C f/\fs.length<1000 /\
 D.nx σ (rO l a<|.ins C n<|An f y fs)
def tV(t:PE X e ta)(hb:mC e f X.env (eval e X.env)=eval e X.env):PE X (.Attribute e f pos)<|al0 X.K ta f:=by
 intro z s σ H Q I h;show VA hb<|uQ (t z s σ H _ I h) λu s1 o_=>?_;have(x,B,E,G,a,C,O,fs,v,ex,J,c,n,l,q):=o_;subst ex;obtain rfl:u=ah a:=G;show U4 E J c n l λP s2 L M=>(v,B,L,M,q)
def D2(ha:PE X o ta)(z:PE X value tv)(B:lS value (bj<|.Attribute o f pos') pos.line X.env=pure f_):PS X (.Assign [.Attribute o f pos'] value pos)<|Zg X.K ta tv f:=by
 intro t s σ H D I h;show mG (uQ (z t s σ H _ I h) λu s1 o_=>?_) B;have(y,E,G,J,q):=o_;show uQ (ha t s1 σ E _ G q) λov s2 o_=>?_;have(x,R,L,M,a,C,S,fs,ex,O,c,n,l,P):=o_;subst ex;obtain rfl:ov=ah a:=M;show Tj L O c n l J λT Q=>(σ,_,Q,P)
section
variable {σ:St}
inductive Jt (K:Ζ)(H:Hp):V->Value->Prop where
 |non:Jt K H .non<|.type "NoneType"
 |bl (x:Bool):Jt K H (.bl x)<|.type "bool"
 |int (i:Int):Jt K H (.int i)<|.type "int"
 |str (x:Str):Jt K H (.str x)<|.type "str"
 |flt (x:UInt64):Jt K H (.flt x)<|.type "float"
 |lst {a:Addr}{xs:List V}(e:H a=bj (.lst xs)):Jt K H (.ref a)<|.type "list"
 |frz {a:Addr}{o:Obj}{xs:List V}(e:H a=bj (.frz o<|.lst xs)):Jt K H (.ref a)<|.type "list"
 |tup {a:Addr}{xs:List V}(e:H a=bj (.tup xs)):Jt K H (.ref a)<|.type "tuple"
 |dK {a:Addr}{kvs:List<|rD×V}(e:H a=bj (.dK kvs)):Jt K H (.ref a)<|.type "dict"
 |dT {a:Addr}{kvs:List<|List rD×V}(e:H a=bj (.dT kvs)):Jt K H (.ref a)<|.type "dict"
 |ins {a C dx:Addr}{fs:List<|Str×V}(e:H a=bj (.ins C dx fs)) (cl:NK K C) (ha:W.findIn K (.ref C) "__class__" = bj (bj<|.builtin "object.__class__"))
   (hn:W.specialIn K (.builtin "object.__class__") "__get__" = bj (bj<|.builtin "getset_descriptor.__get__")) (htk:W.takesIn K (.builtin "object.__class__")=bj t_)
   (hm:W.mroIn K C (.type "object")=bj t_):Jt K H (.ref a)<|.ref C
def XO(I:qt X ou σ H s)(l:rS x u)(ty:Jt X.K H x t)(e:W.kitOne X.K t c=bj b)(h:∀R,Q (.bool b) { s with toks:=R }) :
  kj (kg X.prog X.w) A (call (.builtin "isinstance") [u,c]) Q E s:=by cases ty with
 |non=>cases(show u=dr from l);show W.kia_one W.kitx_none I.kIn True.intro e (λz=>nomatch z) h
 |bl y=>cases(show u=iX y from l);show W.kia_one W.kitx_bool I.kIn True.intro e (λz=>nomatch z) h
 |int i=>have(t,q):=(show ∃t,u=gS i t from l);cases q;show W.kia_one W.kitx_int I.kIn True.intro e (λz=>nomatch z) h
 |str y=>have(t,q):=(show ∃t,u=iG y t from l);cases q;show W.kia_one W.kitx_str I.kIn True.intro e (λz=>nomatch z) h
 |flt y=>have(t,q):=(show ∃t,u=jw y t from l);cases q;show W.kia_one W.kitx_float I.kIn True.intro e (λz=>nomatch z) h
 | @lst a M B=>
  cases(show u=ah a from l);have(_,_,n,_,G):=(show tT X.prog X.w H s.heap a (.lst M)from I.hok a _ B);show W.kia_one W.kitx_list I.kIn (_,G,rfl) e (λz=>nomatch z) h
 | @frz a S M B=>
  cases(show u=ah a from l);have(_,_,_,n,_,G):=(show tT X.prog X.w H s.heap a (.frz S<|.lst M)from I.hok a _ B);show W.kia_one W.kitx_list I.kIn (_,G,rfl) e (λz=>nomatch z) h
 | @tup a M B=>
  cases(show u=ah a from l);have(_,_,_,p):=(show tT X.prog X.w H s.heap a (.tup M)from I.hok a _ B);have(o,G,P,_):=p;show W.kia_one W.kitx_tuple I.kIn (o,G,P) e (λz=>nomatch z) h
 | @dK a L B=>
  cases(show u=ah a from l);have(_,_,Y,_,p):=(show tT X.prog X.w H s.heap a (.dK L)from I.hok a _ B);have(o,T,U,G,P,_):=p;show W.kia_one W.kitx_dict I.kIn (o,G,P.1) e (λz=>nomatch z) h
 | @dT a L B=>
  cases(show u=ah a from l);have(_,_,M,_,o,T,U,G,P,_):=(show tT X.prog X.w H s.heap a (.dT L)from I.hok a _ B);show W.kia_one W.kitx_dict I.kIn (o,G,P.1) e (λz=>nomatch z) h
 | @ins a C dx fs B cl ha hn htk hm=>
  cases(show u=ah a from l);have(mA,O,_):=JS I.hok B;have(od,J,_):=O.look;show W.kia_one (W.kitx_own (cl.get _) cl.hd ha hn htk hm) I.kIn J e (λz=>nomatch z) h
end
structure um (k:Nat)(A:Around):Prop where
 hd:A.handled=n_
 dp:A.depth+3*k+5<mL
 un:A.units+16*k+200<kP
def um.mono(r:um k A)(h:j<=k):um j A:=(r.hd,by have:=r.dp;lia,by have:=r.un;lia)
theorem um.deeper(r:um (k+1) A)env:um k<|A.deeper env:=(r.hd,by have:=r.dp;change A.depth+1+3*k+5<_;lia,by have:=r.un;change A.units+3+16*k+200<_;lia)
def UW{A:Around}{us:Ξ}:(A.under<|.builtin "type.__call__" (.ref C::us,l)).depth=A.depth+1:=by first|rfl|rfl
def SZ{A:Around}{us:Ξ}:(A.under<|.builtin "type.__call__" (.ref C::us,l)).units=A.units+1:=by first|rfl|rfl
def um.make(r:um (k+1) A)C(us:Ξ)l:um k<|A.under<|.builtin "type.__call__" (.ref C::us,l):=(r.hd,by have:=r.dp;rw[UW];lia,by have:=r.un;rw[SZ];lia)
theorem um.depth(r:um k A):A.depth<mL:=by have:=r.dp;lia
theorem um.units(r:um k A):A.units+64<kP:=by have:=r.un;lia
def xH:TA:=λZ H Q=>Q [] H
def vB(l:TE)(n:TA):TA:=λσ H Q=>l σ H λx s=>n σ s λxs t=>Q (x::xs) t
def oy:PA X [] xH:=λZ Z Z Z H Q I h=>Calls.spliced_nil ([],H,I,.nil,h)
def ot(ha:PE X e te)(hr:PA X es t)(n:↑(ku (e::es) X.env=%[f_|eval e X.env]::ku es X.env)):PA X (e::es)<|vB te t:=by
 intro pos l s σ H Q I h;rw[n];change kj _ _ (spliced<|%[f_|eval e X.env]::kN pos (ku es X.env)) _ _ s;show Calls.spliced_cons<|uQ (ha l s σ H _ I h) λu s1 o_=>?_;have(x,z,B,r1,q1):=o_;show uQ (hr pos l s1 σ z _ B q1) λus s2 o_=>?_;have(E,G,J,r2,L):=o_;show(x::E,G,J,.cons r1 r2,L)
def alk(t:TA):TE:=λσ H Q=>t σ H λxs l=>xs.length<=ky/\∀p,l p=n_->Q (.ref p) (rO l p<|.tup xs)
def Z7(t:TA):TE:=λσ H Q=>t σ H λxs l=>xs.length<=ky/\∀p,l p=n_->Q (.ref p) (rO l p<|.lst xs)
def uV(h:PA X es t):PE X (.Tuple es x1 pos)<|alk t:=by
 intro x s σ H Q I B;show wpAny_Tuple_spliced<|uQ (h pos x s σ H _ I B) λus s1 o_=>?_;have(E,l,n,r,z,q):=o_;show(by rw[←r.length];show z,?_);have G:l s1.heap.objs.size=n_:=n.hok.fresh<|ae _;show(.ref s1.heap.objs.size,rO l s1.heap.objs.size<|.tup E,n.laid (t':=s1.toks) (λb u e=>aa _ e) (ae _) ?_,rfl,q _ G);show(z,us,r,(_,bp _ rfl,rfl,_,rfl))
def rm(h:PA X es t):PE X (.List es pos)<|Z7 t:=by
 intro x s σ H Q I B;show wpAny_List_spliced<|uQ (h pos x s σ H _ I B) λus s1 o_=>?_;have(E,l,n,r,z,q):=o_;show(by rw[←r.length];show z,?_);have G:l s1.heap.objs.size=n_:=n.hok.fresh<|ae _;show(.ref s1.heap.objs.size,rO l s1.heap.objs.size<|.lst E,n.laid (t':=s1.toks) (λb u e=>aa _ e) (ae _) ?_,rfl,q _ G);show(z,us,0,r,bp _ rfl)
abbrev Sp:=List V->Hp->VK->XK->Prop
abbrev QX:=List Env->Hp->ke->XK->Value->ke->Prop
structure Oi (P:kx)(w:kB)(K:Ζ)(mg:Str->Υ)(base:Heap)(A:Around)(outer:List Env)(s:ke)(H:Hp):Prop where
 frames:A.frames=bj outer
 mod:Mod K mg base
 bs:∀b o,base.get? b=bj o->s.heap.get? b=bj o/\H b=n_
 bsz:base.objs.size<=s.heap.objs.size
 funs:s.heap.FunFrames base outer
 frf:∀b∈UE outer,H b=n_
 hok:Dw P w H s.heap
 bare:mz s.gens
def CE(outer:List Env)(P:kx)(w:kB)(H:Hp)(s:ke)(Q:VK)(u:Value)(s':ke):Prop:=∃v l,s'.os=s.os/\mz s'.gens/\Un (UE outer) [] H l s.heap s'.heap/\Dw P w l s'.heap/\rS v u/\Q v l
def CR(CX:QX)(outer:List Env)(P:kx)(w:kB)(H:Hp)(s:ke)(Q:VK)(E:XK)(r:nZ)(s':ke):Prop:=match r with
 | .ok (.ret u)=>CE outer P w H s Q u s'
 | .ok _=>False
 | .error e=>CX outer H s E e s'
structure zD (P:kx)(w:kB)(K:Ζ)(mg:Str->Υ)(base:Heap)(CX:QX)(k:Nat)(f:Addr)(fd:kz)(ps:List Str)(sp:Sp):Prop where
 len:∀vs H Q E,sp vs H Q E->vs.length=ps.length
 run:∀(A:Around) (outer:List Env) (s:ke) (H:Hp) (args:Args) (us:Ξ) (vs:List V) (Q:VK) (E:XK),um k A->Oi P w K mg base A outer s H->nr s fd args (ps.zip us)->qS vs us->sp vs H Q E ->
  lH (kg P w) A (.call (.ref f) args) (CR CX outer P w H s Q E) s
def zD.imp{K}(F:zD P w K mg base CX k f fd ps sp)
  (h:∀vs H Q E,l vs H Q E->sp vs H Q E):zD P w K mg base CX k f fd ps l:=(λvs H Q E q=>F.len vs H Q E<|h _ _ _ _ q,λA outer s H n us vs Q E hr t hb u x=>F.run A outer s H n us vs Q E hr t hb u<|h _ _ _ _ x)
def Oi.make{K}(e:Oi P w K mg base A outer s H)C(us:Ξ)l :
  Oi P w K mg base (A.under<|.builtin "type.__call__" (.ref C::us,l)) outer s H:=(by first|show e.frames|(rfl),e.mod,e.bs,e.bsz,e.funs,e.frf,e.hok,e.bare)
section
variable {σ:St}
def qt.env0(I:qt X ou σ H s):Oi X.prog X.w X.K X.mg X.base X.A X.stack s H:=(I.ok.frames,I.ok.mod,I.bs,bh I.ok.bsz I.sz,I.stack,I.stkFree,I.hok,I.bare)
def qt.after(I:qt X ou σ H s)(h:CE X.stack X.prog X.w H s Q u s'):EP X ou σ Q u s':=by have(v,n,os,bare,un,hok,r,q):=h;have(hh,g,d,t,l):=s';obtain rfl:l=s.os:=os;show(v,n,I.call (h':=hh) (g':=g) (d':=d) (t':=t) (ch:=[]) un hok bare<|λb z=>absurd z ⋯,r,q)
end
def xl(sp:Sp)(l:List V)(E:XK)(t:TA):TE:=λσ H Q=>t σ H λvs n=>sp (vs++l) n Q E
def agW(C:Addr)(m:Str)(sp:Sp)(l:List V)(E:XK)(s:TE)(t:TA):TE:=λσ H Q=>s σ H λx n=>∃a u fs,x = .ref a/\n a=bj (.ins C u fs)/\fs.lookup m=n_ /\
 t σ n λvs z=>sp (x::(vs++l)) z Q E
def aa7(C:Addr)(sp:Sp)(n:List V)(E:XK)(t:TA):TE:=λσ H Q=>t σ H λvs s=>∀x l,s x=n_->s l=n_->l≠x ->
 sp (.ref x::(vs++n)) (rO (rO s l<|.own x) x<|.ins C l []) (λv u=>v = .non/\Q (.ref x) u) E
def rF(K:Ζ)(fd:kz)(ps:List Str)(ds:Ξ):Prop:=∀s us,K.In s.heap->(us++ds).length=ps.length->nr s fd (us,[]) (ps.zip<|us++ds)
def rF.all{K}(h:∀us:Ξ,us.length=ps.length->bindArgs fd (us,[])=pure (ps.zip us)):rF K fd ps []:=λs us Q hl=>by rw[aNq]at hl ⊢;show .of_eq<|h us hl
def yX(CX:QX)(X:Cx)(E:XK):Prop:=∀l (σ:St) H s e s',qt X l σ H s->CX X.stack H s E e s'->X.xe e s'
def TH{σ:St}(F:zD X.prog X.w X.K X.mg X.base CX k f fd ps sp)(hr:um k X.A)(hb:rF X.K fd ps ds)(hd:qS dvs ds)(z:yX CX X E)
  (I:qt X n σ H s) (r:qS vs us) (h:sp (vs++dvs) H Q E):kj (kg X.prog X.w) X.A (call (.ref f) us) (EP X n σ Q) X.xe s:=by
 have r2:qS (vs++dvs)<|us++ds:=r.append hd;have hl:(us++ds).length=ps.length:=by rw[←r2.length];show F.len _ _ _ _ h
 show lF<|lK (F.run X.A X.stack s H (us,[]) (us++ds) (vs++dvs) Q E hr I.env0 (hb s us I.kIn hl) r2 h) λr B l=>?_;cases r with
 |error e=>show z n σ H s e B I l
 |ok fl=>cases fl with
  |ret u=>show I.after l
  |next=>show False.elim l
  |brk=>show False.elim l
  |cont=>show False.elim l
def Ph(F:zD X.prog X.w X.K X.mg X.base CX k f fd ps sp)(hr:um k X.A)(z:Gl X x)(hm:X.mg x=bj (.ref f))(hk:W.keepIn X.K (.ref f)=t_)(hb:rF X.K fd ps ds)(hd:qS dvs ds)(B:yX CX X E)
  (ha:PA X (e::es) t) (l:⇑((x == ("__debug__" : Str))=f_)) (G:↑(ku (e::es) X.env=%[f_|eval e X.env]::ku es X.env)) (n:↑((kN pos<|ku es X.env).any (·.1)=f_)) :
  PE X (.Call (.Name x p) (e::es) [] pos)<|xl sp dvs E t:=by
 intro J s σ H Q I h;show kM<|zh I z hm ?_ l;show W.callWith_K (h₀:=X.base) I.ok.mod.kin hk (uQ (ha pos J s σ H _ I h) λus s1 o_=>?_) G n;have(L,M,u,r,q):=o_;show(u.kIn,?_);show TH F hr hb hd B u r q
def adV(L:PE X o ta)(c:NK X.K C)(hm:yp X.K C m f)(F:zD X.prog X.w X.K X.mg X.base CX k f fd ps sp)(hr:um k X.A)(hb:rF X.K fd ps ds)(hd:qS dvs ds)(M:yX CX X E)(ha:PA X (e::es) t)
  (n:↑(ku (e::es) X.env=%[f_|eval e X.env]::ku es X.env)) (z:↑((kN pos<|ku es X.env).any (·.1)=f_))
  (ht:↑(eval (.Call (.Attribute o m apos) (e::es) [] pos) X.env=(do
   let ov ←eval o X.env
   mQ apos.atName
   let %[f|first] ←mS [ov] (mw ov m pl)
   ny pos f first (kN pos<|ku (e::es) X.env) (mO pos<|mn [] X.env)))) :
  PE X (.Call (.Attribute o m apos) (e::es) [] pos)<|agW C m sp dvs E ta t:=by
 intro B s σ H Q I h;show W.methodCall_KW (pl:=pl) (uQ (L B s σ H _ I h) λu s1 o_=>?_) ht;have(x,O,G,P,a,U,fs,ex,R,l,q):=o_;subst ex;obtain rfl:u=ah a:=P;show Gq G R c hm l ?_;show W.callWith_K (first:=[.ref a]) (h₀:=X.base) I.ok.mod.kin hm.kp (uQ (ha pos B s1 σ O _ G q) λus s2 o_=>?_) n z;have(S,Y,J,r,T):=o_;show(J.kIn,?_);show TH (us:=.ref a::us) (vs:=.ref a::S) F hr hb hd M J (.cons rfl r) T
def abn(z:PE X o ta)(c:NK X.K C)(hm:yp X.K C m f)(F:zD X.prog X.w X.K X.mg X.base CX k f fd ps sp)(hr:um k X.A)(hb:rF X.K fd ps ds)(hd:qS dvs ds)(B:yX CX X E)
  (ht:↑(eval (.Call (.Attribute o m apos) [] [] pos) X.env=(do
   let ov ←eval o X.env
   mQ apos.atName
   let %[f|first] ←mS [ov] (mw ov m pl)
   ny pos f first (kN pos<|ku [] X.env) (mO pos<|mn [] X.env)))) :
  PE X (.Call (.Attribute o m apos) [] [] pos)<|agW C m sp dvs E ta xH:=by
 intro G s σ H Q I h;show W.methodCall_KW (pl:=pl) (uQ (z G s σ H _ I h) λu s1 o_=>?_) ht;have(x,M,n,J,a,O,fs,ex,L,l,q):=o_;subst ex;obtain rfl:u=ah a:=J;show Gq n L c hm l ?_;show W.callWith_K0 (first:=[.ref a]) n.kIn hm.kp<|TH (us:=[.ref a]) (vs:=[.ref a]) F hr hb hd B n (.cons rfl .nil) q
structure Mk (K:Ζ)(C f:Addr):Prop where
 makes:W.makesIn K C=t_
 init:W.findIn K (.ref C) "__init__" = bj (bj<|.ref f)
 fn:W.isFn K (.ref f)=t_
 kp:W.keepIn K (.ref C)=t_
def abX{σ:St}(M:Mk X.K C f)(F:zD X.prog X.w X.K X.mg X.base CX k f fd ps sp)(hr:um (k+1) X.A)(hb:rF X.K fd ps ds)(hd:qS dvs ds)
  (J:yX CX X E) (I:qt X B σ H s) (r:qS vs us)
  (h:∀x n,H x=n_->H n=n_->n≠x->sp (.ref x::(vs++dvs)) (rO (rO H n<|.own x) x<|.ins C n []) (λv L=>v = .non/\Q (.ref x) L) E) :
  kj (kg X.prog X.w) X.A (call (.ref C) us) (EP X B σ Q) X.xe s:=by
 have G:=h (s.heap.objs.size+1) s.heap.objs.size (I.hok.fresh<|bR _) (I.hok.fresh<|ae _)<|aB<|dA _;have z:=qt.made (C:=C) I;have r2:qS (V.ref (s.heap.objs.size+1)::(vs++dvs))<|ah (s.heap.objs.size+1)::(us++ds):=.cons rfl<|r.append hd;have hl:(ah (s.heap.objs.size+1)::us++ds).length=ps.length:=by have e:=r2.length;rw[F.len _ _ _ _ G]at e;show e.symm
 show lF (acx (f:=f) I.kIn M.makes M.init (beq_iff_eq.mp M.fn) (lK (F.run _ X.stack _ _ (ah (s.heap.objs.size+1)::us,[]) (ah (s.heap.objs.size+1)::(us++ds)) _ _ E (hr.make C us [])
  (z.env0.make C us []) (hb _ (ah (s.heap.objs.size+1)::us) z.kIn hl) r2 G) λr O l=>?_));cases r with
 |error e=>show J B σ _ _ e O z l
 |ok fl=>cases fl with
  |ret u=>have(v,P,R,S,T,U):=z.after l;subst T;show(S,(V.ref<|s.heap.objs.size+1,P,R,rfl,U))
  |next=>show False.elim l
  |brk=>show False.elim l
  |cont=>show False.elim l
def afB(M:Mk X.K C f)(F:zD X.prog X.w X.K X.mg X.base CX k f fd ps sp)(hr:um (k+1) X.A)(z:Gl X x)(hm:X.mg x=bj (.ref C))(hb:rF X.K fd ps ds)(hd:qS dvs ds)(B:yX CX X E)
  (ha:PA X (e::es) t) (l:⇑((x == ("__debug__" : Str))=f_)) (G:↑(ku (e::es) X.env=%[f_|eval e X.env]::ku es X.env)) (n:↑((kN pos<|ku es X.env).any (·.1)=f_)) :
  PE X (.Call (.Name x p) (e::es) [] pos)<|aa7 C sp dvs E t:=by
 intro J s σ H Q I h;show kM<|zh I z hm ?_ l;show W.callWith_K (h₀:=X.base) I.ok.mod.kin M.kp (uQ (ha pos J s σ H _ I h) λus s1 o_=>?_) G n;have(L,O,u,r,q):=o_;show(u.kIn,?_);show abX M F hr hb hd B u r q
structure oU (N P:List Str)(sc:lz):Prop where
 kind:sc.kind = .function
 co:sc.isCoroutine=f_
 gen:sc.isGenerator=f_
 nd:N.Nodup
 pre:N.take P.length=P
 par:∀x∈P,sc.names.lookup x=bj .local∨sc.names.lookup x=bj .cell
 nofree:∀y∈sc.names,y.2 ≠ .free
theorem NJ{kindOf}:∀{binds}{m:Str->Υ},(∀v,%[x|v]∉binds)->nK kindOf binds m x=m x
 | [],_,_=>rfl
 | %[n|v]::r,m,h=>by
  unfold nK;rw[NJ λw hw=>h w<|mCo _ hw];split
  .have:x≠n:=by rintro rfl;show h v bf
   simp[this]
  .rfl
theorem Nc{kindOf}:∀{binds}{m:Str->Υ},(∀v,%[x|v]∉binds)->nO kindOf binds m x=m x
 | [],_,_=>rfl
 | %[n|v]::r,m,h=>by
  unfold nO;rw[Nc λw hw=>h w<|mCo _ hw];split;.rfl
  .have:x≠n:=by rintro rfl;show h v bf
   simp[this]
theorem Iw{kindOf}:∀{P:List Str}{vs:Ξ}{i:Nat}{m:Str->Υ},P.Nodup->P[i]?=bj x->vs[i]?=bj v->kindOf x=bj .local ->
  nK kindOf (P.zip vs) m x=bj v
 | [],_,_,_,_,h,_,_=>by simp at h
 |_::_,[],_,_,_,_,h,_=>by simp at h
 |p::P,w::vs,0,m,nd,h1,h2,hk=>by
  simp at h1 h2;subst h1;subst h2;change nK kindOf (%[p|w]::P.zip vs) m p=_;unfold nK;rw[NJ λv l=>(aJ.mp nd).1 (gc l).1,qF hk];simp
 |p::P,w::vs,i+1,m,nd,h1,h2,hk=>by change nK kindOf (%[p|w]::P.zip vs) m x=_;unfold nK;show Iw (i:=i) (aJ.mp nd).2 (by show h1) (by show h2) hk
theorem IG{kindOf}:∀{P:List Str}{vs:Ξ}{i:Nat}{m:Str->Υ},P.Nodup->P[i]?=bj x->vs[i]?=bj v->kindOf x≠bj .local ->
  nO kindOf (P.zip vs) m x=bj v
 | [],_,_,_,_,h,_,_=>by simp at h
 |_::_,[],_,_,_,_,h,_=>by simp at h
 |p::P,w::vs,0,m,nd,h1,h2,hk=>by
  simp at h1 h2;subst h1;subst h2;change nO kindOf (%[p|w]::P.zip vs) m p=_;unfold nO;rw[Nc λv l=>(aJ.mp nd).1 (gc l).1,qL hk];simp
 |p::P,w::vs,i+1,m,nd,h1,h2,hk=>by change nO kindOf (%[p|w]::P.zip vs) m x=_;unfold nO;show IG (i:=i) (aJ.mp nd).2 (by show h1) (by show h2) hk
noncomputable def wc(N:List Str)(vs:List V):St:=vs.map bj++aC (N.length-vs.length) n_
noncomputable def Ie(CX:QX)(P:kx)(w:kB)(K:Ζ)(mg:Str->Υ)(base:Heap)(N:List Str)(l:Str)(scope:lz)(f:Addr)(t:Value)(A:Around)(outer:List Env)(s:ke)(H:Hp)(E:XK):Cx where
 prog:=P
 w:=w
 K:=K
 mg:=mg
 base:=base
 A:=A.deeper (kJ l scope s.heap.objs.size f t)
 N:=N
 s₀:=s
 H₀:=H
 env:=kJ l scope s.heap.objs.size f t
 outer:=outer
 stack:=kJ l scope s.heap.objs.size f t::outer
 ex:=[]
 calm:=t_
 fn:=λQ=>t_
 pn:=[]
 xe:=λe s'=>kj (kg P w) (A.deeper<|kJ l scope s.heap.objs.size f t) (leaving (kJ l scope s.heap.objs.size f t) e) (λQ n=>CX outer H s E e n) (λu n=>CX outer H s E u n) s'
def Gy{sc:lz}(h:sc.names.lookup x=bj .cell):∃c,(nJ n sc.names []).lookup x=bj c:=by have q:=W.cellsFrom_some sc.names n []<|.inl h;show Option.isSome_iff_exists.mp q
def Xh{K}
  (S:oU N ps scope) (hd:A.handled=n_) (B:Oi P w K mg base A outer s H) (hl:vs.length=ps.length) (r:qS vs us)
  (x:InCallC s s.heap.objs.size (nK (kJ l scope s.heap.objs.size f M).kindOf (ps.zip us) λZ=>n_) (nJ (s.heap.objs.size+1) scope.names []) (nO (kJ l scope s.heap.objs.size f M).kindOf (ps.zip us) λZ=>n_) s1) :
  qt (Ie CX P w K mg base N l scope f M A outer s H E) [] (wc N vs) H s1:=by
 have R:ps.length<=N.length:=by have:=congrArg cH S.pre;rw[lTq]at this;lia
 have(O,U,rfl,hk):=x.done;have G:∀b:Addr,b∉(Ie CX P w K mg base N l scope f M A outer s H E).ex:=λb z=>absurd (show b∈([]:Δ)from z) ⋯;show((B.mod,S.kind,rfl,rfl,ae _,λy z c O t=>?_,λy I=>?_,λy c Z h=>?_,λZ=>hd,Around.frames_deeper B.frames,.inr (rfl,rfl),λb z=>absurd z<|G b,B.bs,B.bsz,λb Z Z=>G b,λb z=>absurd z<|G b,B.funs,B.frf),
  rfl,B.bare,Un.kept hk,(_,x.toInCall.ns,λi y v O t X=>?_),λy c h=>(_,x.cell y c h),B.hok.fresh<|ae _,λy c h=>?_,λp J=>absurd (show p∈([]:Φ)from J) ⋯,B.hok.kept hk,?_);.show name_of_addr x.apart (PySem.mem_of_lookup O)<|PySem.mem_of_lookup t
 .have I:scope.names.lookup y=bj .cell∨scope.names.lookup y=bj .free:=I;rcases I with I|I;.show Gy I
  .show absurd rfl<|S.nofree _<|PySem.mem_of_lookup I
 .show bZ<|x.above y c<|PySem.mem_of_lookup h
 .have hi:i<vs.length:=by
   unfold wc at t;by_cases hi:i<vs.length;.show hi
   .rw[gYq<|by simpa using hi]at t;rw[bT]at t;split at t <;> cases t
  have ha:vs[i]?=bj v:=by
   unfold wc at t;rw[gZq<|by simpa using hi,gMq]at t;cases e:vs[i]? with
   |none=>rw[e]at t;cases t
   |some a=>rw[e]at t;cases t;rfl
  have(u,Q,T):=r.get ha;have J:ps[i]?=bj y:=by rw[←S.pre,cZ ∅];show O
  have L:ps.Nodup:=by rw[←S.pre];show S.nd.sublist<|bq _ _
  show(u,T,?_);rcases S.par y (mGq J)with k|k;.show .inl (k,Iw L J Q k)
  .have(c,e):=Gy (n:=s.heap.objs.size+1) k;show .inr (.inl k,c,e,?_);have q:=x.cell y c e;rw[IG L J Q<|by change scope.names.lookup y≠_;rw[k];decide]at q;show q
 .show B.hok.fresh<|bZ<|x.above y c<|PySem.mem_of_lookup h
 .unfold wc;change _=N.length;rw[lAq,lMq,bA];ac_nf
def ahg{K:Ζ}{kV}
  {Y:Array Υ}(lk:K.lookup f=bj (oc,od,.func<|W.fnOf name l z body scope dV kV T pm an L ct,Y)) (hcd:W.codeIn K L l=t_) (S:oU N ps scope)
  (len:∀vs H Q E,sp vs H Q E->vs.length=ps.length)
  (M:∀A outer s H vs Q E,um k (A.deeper<|kJ l scope s.heap.objs.size f L)->sp vs H Q E ->
   ∃t,LY (Ie CX P w K mg base N l scope f L A outer s H E) body t/\t { nx:=λZ G=>Q .non G,rt:=Q } (wc N vs) H) :
  zD P w K mg base CX (k+1) f (W.fnOf name l z body scope dV kV T pm an L ct) ps sp:=by
 show(len,λA outer s H args us vs Q E hr U hb r X=>?_);have hl:=len _ _ _ _ X;have KX:K.In s.heap:=U.mod.kin.keeps λb o e=>(U.bs b o e).1;have lim:s.heap.NoLimit:=U.mod.nolimit.keeps λb o e=>(U.bs b o e).1;have O:∀y∈ps.zip us,scope.names.lookup y.1=bj .local∨(scope.names.lookup y.1=bj .cell/\((nJ (s.heap.objs.size+1) scope.names []).lookup y.1).isSome=t_):=λ⟨n,v⟩ hy=>by
  rcases S.par n (gc hy).1 with q|q;.show .inl q
  .show .inr (q,W.cellsFrom_some _ _ _<|.inl q)
 show nW hr.depth (KX _ _ lk) rfl S.co S.gen rfl (W.codeRec_of KX hcd)<|hb _ _ _ _ ?_;show mW S.kind O λenv he s1 x=>?_;subst he;show(lim.keeps x.toInCall.keep,codeAny_func ?_);have(t,ht,hq):=M A outer s H vs Q E (hr.deeper _) X;have I:qt (Ie CX P w K mg base N l scope f L A outer s H E) [] (wc N vs) H s1:=Xh S hr.hd U hl r x;show kG (ht [] s1 (wc N vs) H _ I hq) (λfl s' R=>?_) λe s' R=>R;have fin:∀{B:St}{G:Hp}{v:V}{u:Value},qt (Ie CX P w K mg base N l scope f L A outer s H E) [] B G s'->rS v u->Q v G->CE outer P w H s Q u s':=λ{B G v u} J rv q=>(v,G,J.os,J.bare,J.base,J.hok,rv,q);cases fl with
 |ret u=>have(v,B,G,J,rv,q):=R;show fin J rv q
 |next=>have(B,G,J,q):=R;show fin (v:=V.non) (u:=dr) J rfl q
 |brk=>have(_,_,_,q):=R;show False.elim q
 |cont=>have(_,_,_,q):=R;show False.elim q
section
variable {id:String}
def tCB(r:List V->Hp->VK->Prop)(t:TA):TE:=λσ H Q=>t σ H λvs l=>r vs l Q
def qK(z:vN X (.builtin id) r)(B:Gl X x)(hm:X.mg x=n_)(E:lO x=bj (.builtin id))(ha:PA X (e::es) t)(hn:⇑(x ≠ "__name__"))(l:⇑((x == ("__debug__" : Str))=f_))
  (G:↑(ku (e::es) X.env=%[f_|eval e X.env]::ku es X.env)) (n:↑((kN pos<|ku es X.env).any (·.1)=f_)):PE X (.Call (.Name x p) (e::es) [] pos)<|tCB r t:=by intro u s σ H Q I h;show kM<|FE I B hm E ?_ hn l;show fX (uQ (ha pos u s σ H _ I h) λus s1 o_=>?_) G n;have(J,L,M,r1,q1):=o_;show z u s1 σ L J us Q M r1 q1
def BK(z:vN X (.type T) r)(B:Gl X x)(hm:X.mg x=n_)(E:lO x=bj (.type T))(ha:PA X (e::es) t)(hn:⇑(x ≠ "__name__"))(l:⇑((x == ("__debug__" : Str))=f_))
  (G:↑(ku (e::es) X.env=%[f_|eval e X.env]::ku es X.env)) (n:↑((kN pos<|ku es X.env).any (·.1)=f_)):PE X (.Call (.Name x p) (e::es) [] pos)<|tCB r t:=by intro u s σ H Q I h;show kM<|FE I B hm E ?_ hn l;show cE (uQ (ha pos u s σ H _ I h) λus s1 o_=>?_) G n;have(J,L,M,r1,q1):=o_;show z u s1 σ L J us Q M r1 q1
end
end L2
namespace HT
open PySem PyProof.Rows
noncomputable def wa:Ϝ->Ϝ->Bool
 | [],[]=>f_
 | [],_::_=>t_
 |_::_,[]=>f_
 |x::xs,y::l=>if x=y then wa xs l else decide<|x<y
def CQ x y(xs l:Ϝ):wa (x::xs) (y::l)=if x=y then wa xs l else decide<|x<y:=rfl
def Ms:wa [] []=f_:=rfl
def K5 y(l:Ϝ):wa [] (y::l)=t_:=rfl
def KA x(xs:Ϝ):wa (x::xs) []=f_:=rfl
def aaj(A)s a t c u:∃e,SeqAt.EqAt A s (.int a t) (.int c u) e/\(e=t_↔a=c):=((a == c),SeqAt.EqAt.int_int a t c u,by simp)
def Y9(A)s a t c u prog w E Q(h:Q (.bool<|decide<|a<c) s) :
  kj (kg prog w) A (richCompare .Lt (.int a t)<|.int c u) Q E s:=(jZ h:kj (kg prog w) A (kX .Lt (.int a t)<|.int c u) Q E s)
def adY{vs l:Ξ}(ht:IsTup s.heap t vs.toArray)(hb:IsTup s.heap b l.toArray)(I:vs≠[])
  (R:l=[]->Q (.ref t) s) (S:l≠[]->Q (.ref s.heap.objs.size) { s with heap:=s.heap.push { cls:=.type "tuple", data:=.seq (vs++l).toArray } })
  (hsz:vs.length+l.length<=ky):kj (kg prog w) A (lJ .Add (.ref t)<|.ref b) Q E s:=by
 have((cls,J,data,L),H,M,n,hd):=id ht;have((O,x,data2,z),u,B,P,G):=id hb;simp only at M hd B G;subst M hd B G;have e:vs.toArray++l.toArray=(vs++l).toArray:=by simp
 by_cases hw:l=[]
 .show concat_meets (_,H,rfl) (_,u,rfl) noFill_tuple_add seq_tuple_add iA il (hU _ _)
   (tuple_addW1 t b vs.toArray l.toArray n P J x L z (by simpa using I)<|by simp[hw]) (H,u,R hw)
 .show concat_meets (_,H,rfl) (_,u,rfl) noFill_tuple_add seq_tuple_add iA il (hU _ _)
   (tuple_addW2 t b vs.toArray l.toArray n P J x L z (by simpa using I) (by simpa using hw)<|by rw[ao,ao];show hsz) (H,u,?_);rw[e];show S hw
noncomputable def xi(n d:Nat):Option Int->Nat
 |n_=>d
 |bj v=>if v<0 then (v+(n:Int)).toNat else min v.toNat n
def Lu n d:xi n d n_=d:=rfl
def A4(n d k:Nat):xi n d (bj (k:Int))=min k n:=by
 change(if (k:Int)<0 then ((k:Int)+(n:Int)).toNat else min (k:Int).toNat n)=min k n;rw[qL<|by ac_nf,eI]
def aiZ n d(hd:d<=n)o:xi n d o<=n:=by cases o with
 |none=>show hd
 |some v=>
  change(if v<0 then (v+(n:Int)).toNat else min v.toNat n)<=n;by_cases l:v<0;.rw[qF l];lia
  .rw[qL l];show Nat.min_le_right _ _
def VN v(n d:Nat):(if v<0 then max (v+(n:Int)) 0 else min v (n:Int))=((xi n d<|bj v:Nat):Int):=by
 change(if v<0 then max (v+(n:Int)) 0 else min v (n:Int))=(((if v<0 then (v+(n:Int)).toNat else min v.toNat n):Nat):Int);by_cases l:v<0;.simp only[qF l];ac_nf
 .simp only[qL l];lia
def Tp lo hi(n:Nat):Builtin.Slice.sliceAdjust lo hi 1 (n:Int)=%[((xi n 0 lo:Nat):Int)|((xi n n hi:Nat):Int)]:=by
 have l:¬ ((1:Int)<0):=by ac_nf
 unfold Builtin.Slice.sliceAdjust;simp only[l,if_false];show jC ?_ ?_;.cases lo with
  |none=>rfl
  |some v=>show VN v n 0
 .cases hi with
  |none=>rfl
  |some v=>show VN v n n
def T9(i j:Nat):Builtin.Slice.slicePlaces (i:Int) (j:Int) 1=j-i:=by
 unfold Builtin.Slice.slicePlaces;have l:(1:Int)>0:=by rfl'
 simp only[l,if_true,Int.ediv_one];split <;> lia
def KS(p:nA v o)(h:Q o s):kj (kg prog w) A (Builtin.Slice.slicePartIndex v) Q E s:=by cases p with
 |none=>show slicePart_none h
 |int i t=>show slicePart_int h
def IH{lo}{n:Nat}(G:s.heap.IsSliceOf B u z .none)(pl:nA u lo)(H:nA z hi)
  (h:Q %[((xi n 0 lo:Nat):Int)|%[1|xi n n hi-xi n 0 lo]] s):kj (kg prog w) A (Builtin.Slice.sliceApplied (.ref B)<|pure (n:Int)) Q E s:=by
 have(os,l,I,t):=id G;unfold Builtin.Slice.sliceApplied Builtin.Slice.sliceFields;show ki<|ki<|mi l t (x:=u) rfl<|ki<|mi l t (x:=z) rfl<|ki<|mi l t (x:=.none) rfl<|kA ?_;show ki<|slicePart_none ?_;change kj _ _ (if ((1:Int) == 0)=t_ then _ else _) _ _ s;rw[qL ⋯];show ki<|KS pl<|ki<|KS H<|ki<|kA ?_;change kj _ _ (match Builtin.Slice.sliceAdjust lo hi 1 (n:Int)with|%[lo|hi]=>pure %[lo|%[(1:Int)|Builtin.Slice.slicePlaces lo hi 1]]) _ _ s;rw[Tp lo hi n];change kj _ _ (pure %[((xi n 0 lo:Nat):Int)|%[(1:Int)|Builtin.Slice.slicePlaces ((xi n 0 lo:Nat):Int) ((xi n n hi:Nat):Int) 1]]) _ _ s;rw[T9];show kA h
def aa3(xs:Ω)(i k:Nat):((bQ k).filterMap λ(m:Nat)=>xs[((i:Int)+(m:Int)*1).toNat]?).toArray=((xs.toList.drop i).take k).toArray:=by
 have e:(λ(m:Nat)=>xs[((i:Int)+(m:Int)*1).toNat]?)=λm=>xs[i+m]?:=by
  funext m;have:((i:Int)+(m:Int)*1).toNat=i+m:=by rfl'
  rw[this]
 rw[e];have:=pick_run xs i k;rw[List.filterMap_map]at this;have e2:((λx=>xs[x]?)∘λx=>i+x)=λm=>xs[i+m]?:=rfl;rw[e2]at this;rw[this]
def GS{l:Ω}{lo}(ht:IsTup s.heap t l)(J:s.heap.IsSliceOf u H I .none)(pl:nA H lo)(L:nA I hi)
  (hw:¬ (xi l.size 0 lo=0/\xi l.size l.size hi=l.size))
  (h:Q (.ref s.heap.objs.size) { s with heap:=s.heap.push { cls:=.type "tuple", data:=.seq ((l.toList.drop<|xi l.size 0 lo).take<|xi l.size l.size hi-xi l.size 0 lo).toArray } })
  (hsz:l.size<=ky):kj (kg prog w) A (mU (.ref t)<|.ref u) Q E s:=by
 have n:sizeOk<|.seq ((l.toList.drop<|xi l.size 0 lo).take<|xi l.size l.size hi-xi l.size 0 lo).toArray:=by change((l.toList.drop<|xi l.size 0 lo).take<|xi l.size l.size hi-xi l.size 0 lo).toArray.size<=ky;simp only[ao,lTq,au,aD];omega
 have O:xi l.size l.size hi<=l.size:=aiZ _ _ (ae _) hi;have(os,x,z,M):=id J;have B:s.TypeIs (.ref u) "slice" := (os,x,z);unfold mU;try with_reducible show lZ ?_
 first|show ki<|kA ?_|skip
 show ki<|wpAny_sequenceKey ht.typeIs (by rfl) ?_;show ki (wpAny_callSpecial?_slot (name:=Str.ofString "__getitem__") ht.typeIs dZ
  (wpAny_call_entry dZ ht.typeIs entry_tuple_getitem ?_<|args_tuple_getitem _ _));change kj _ _ (Builtin.Tuple.tupleItemsOf (.ref t) >>= _) _ _ s;show ki<|tupleItemsOf_ ht ?_;show ki<|abH B ?_;rw[qF<|by rfl];show ki<|IH J pl L ?_;have G:¬ ((((xi l.size 0 lo:Nat):Int) == 0 && (1:Int) == 1 && (xi l.size l.size hi-xi l.size 0 lo) == l.size)=t_):=by intro q;rw[cS,cS]at q;have q1:((xi l.size 0 lo:Nat):Int)=0:=eq_of_beq q.1.1;have P:xi l.size l.size hi-xi l.size 0 lo=l.size:=eq_of_beq q.2;show hw (by lia,by lia)
 change kj _ _ (if (((xi l.size 0 lo:Nat):Int) == 0 && (1:Int) == 1 && (xi l.size l.size hi-xi l.size 0 lo) == l.size)=t_ then _ else _) _ _ s;rw[qL G,aa3];first
  |show ki (m:=Builtin.Tuple.tupleExact _)<|lD (kA (_,rfl,kA h)) n
  |show ki (m:=Builtin.Tuple.tupleExact _)<|lD (ki<|kA<|kA (_,rfl,kA h)) n
  |show ki<|ki (m:=Builtin.Tuple.tupleExact _)<|lD (kA<|kA (_,rfl,kA h)) n
  |show ki<|ki (m:=Builtin.Tuple.tupleExact _)<|lD (kA (_,rfl,kA h)) n
end HT
namespace L2
open PySem PySem.Spec PyProof.Rows
abbrev TO:=St->Hp->(Option Int->Hp->Prop)->Prop
def PO(X:Cx)(e:Option Expr)(t:TO):Prop:=∀l s (σ:St) H Q,qt X l σ H s->t σ H Q ->
  kj (kg X.prog X.w) X.A (evalPart e X.env) (λu s'=>∃o n,qt X l σ n s'/\nA u o/\Q o n) X.xe s
def Vs:TO:=λZ H Q=>Q n_ H
def ahp(t:TE):TO:=λσ H Q=>t σ H λx l=>∃i,x = .int i/\Q (bj i) l
def Gj{ns:Ϝ}:∀{us},qS (ns.map V.int) us->lj us ns:=by induction ns with
 |nil=>intro us r;rw[cL]at r;cases r;show .nil
 |cons n ns l=>intro us r;rw[aq]at r;cases r with
  |cons r1 r2=>have(t,e):=r1;subst e;show .cons n t<|l r2
section
variable {lo:Option Expr}
def Bf:PO X n_ Vs:=by intro l s σ H Q I h;simp only[evalPart_none];show kA (n_,H,I,.none,h)
def wD(h:PE X e te):PO X (bj e)<|ahp te:=by
 intro l s σ H Q I hw;simp only[evalPart_some];show uQ (h l s σ H _ I hw) λu s1 o_=>?_;have(x,n,z,r1,q1):=o_;have(i,rfl,q):=q1;have(t,rfl):=r1;show(bj i,n,z,.int i t,q)
def SlR(X:Cx)(r:V->Option Int->Option Int->Hp->VK->Prop):Prop:=∀l s (σ:St) H x v n t lo hi u Q,qt X l σ H s->rS x v->s.heap.IsSliceOf u n t .none->nA n lo->nA t hi->r x lo hi H Q ->
  ∃T id,kF (.type T) "__getitem__" = pure (bj<|.builtin id)/\s.TypeIs v T/\kj (kg X.prog X.w) X.A (mU v<|.ref u) (EP X l σ Q) X.xe s
def tSl(r:V->Option Int->Option Int->Hp->VK->Prop)(te:TE)(tl th:TO):TE:=λσ H Q=>te σ H λx n=>tl σ n λl s=>th σ s λu t=>r x l u t Q
def wK(hr:SlR X r)(G:PE X e te)(hl:PO X lo tl)(J:PO X hi th):PE X (.Subscript e (.Slice lo hi n_ p2) pos)<|tSl r te tl th:=by
 intro t s σ H Q I h;show Subscript_<|uQ (G t s σ H _ I h) λv s1 o_=>?_;have(x,L,M,r1,q1):=o_;show wpAny_Slice<|uQ (hl t s1 σ L _ M q1) λz s2 o_=>?_;have(l,O,P,pl,R):=o_;show uQ (J t s2 σ O _ P R) λB n o_=>?_;have(u,E,S,U,Y):=o_;simp only[evalPart_none];show kA ?_;have I4:qt X t σ E { n with heap:=n.heap.push { cls:=.type "slice", data:=.fields #[z,B,.none] } }:=S.kept (t':=n.toks) λb ob q=>aa _ q;have(T,id,hT,ht,hg):=hr t { n with heap:=n.heap.push { cls:=.type "slice", data:=.fields #[z,B,.none] } } σ E x v z B l u n.heap.objs.size Q I4 r1 (Heap.IsSliceOf.new ..) pl U Y;change kj (kg X.prog X.w) X.A (om e (.Slice lo hi n_ p2) v<|.ref n.heap.objs.size) (EP X t σ Q) X.xe { n with heap:=n.heap.push { cls:=.type "slice", data:=.fields #[z,B,.none] } };show tail_any (ops:=[.ref n.heap.objs.size,v]) ht hT hg<|by with_unfolding_all rfl
def PD(xs:List V)(lo hi:Option Int):List V:=(xs.drop<|HT.xi xs.length 0 lo).take<|HT.xi xs.length xs.length hi-HT.xi xs.length 0 lo
def Je(xs)lo hi:(PD xs lo hi).length<=xs.length:=by unfold PD;rw[lTq,au];lia
def akU(K:Ζ):V->Option Int->Option Int->Hp->VK->Prop:=λx lo hi H Q=>∃a xs,x = .ref a/\FF K H a xs /\
 ¬ (HT.xi xs.length 0 lo=0/\HT.xi xs.length xs.length hi=xs.length)/\∀p,H p=n_->Q (.ref p) (rO H p<|.tup<|PD xs lo hi)
def aa4:SlR X<|akU X.K:=by
 intro J s σ H x v L M lo hi O Q I z B pl E h;have(a,n,rfl,G,hw,q):=h;cases z;have(t,r,ht,u):=I.tuple G;have l:t.toArray.size=n.length:=by rw[ao];show r.length.symm
 show("tuple", _,dZ.lookup,ht.typeIs,?_);show HT.GS ht B pl E (by rw[l];show hw) ?_<|by rw[l];show u
 rw[l];show(.ref s.heap.objs.size,_,I.laid (t':=s.toks) (o:=.tup<|PD n lo hi) (λb P q=>aa _ q) (ae _) ?_,rfl,q _<|I.hok.fresh<|ae _);show(bh (Je n lo hi) u,_,(r.drop<|HT.xi n.length 0 lo).take<|HT.xi n.length n.length hi-HT.xi n.length 0 lo,IsTup.new _ _)
def agZ(K:Ζ):R2:=λx y H Q=>∃a b xs l,x = .ref a/\y = .ref b/\FF K H a xs/\FF K H b l/\xs≠[]/\xs.length+l.length<=ky /\
 (l=[]->Q (.ref a) H)/\(l≠[]->∀p,H p=n_->Q (.ref p) (rO H p<|.tup<|xs++l))
def qS.nil_iff(r:qS xs us):us=[]↔xs=[]:=by cases r with
 |nil=>simp
 |cons _ _=>simp
def aeC:JF X (lJ .Add)<|agZ X.K:=by
 intro P s σ H x y v u Q I t B h;have(a,b,E,G,rfl,rfl,ha,hb,J,l,q1,L):=h;cases t;cases B;have(M,r1,O,_):=I.tuple ha;have(n,r2,p2,_):=I.tuple hb;show HT.adY O p2 (λz=>J<|r1.nil_iff.mp z) (λz=>(.ref a,H,I,rfl,q1<|r2.nil_iff.mp z)) (λz=>?_)<|by rw[←r1.length,←r2.length];show l
 show(.ref s.heap.objs.size,_,I.laid (t':=s.toks) (o:=.tup<|E++G) (λb R q=>aa _ q) (ae _) ?_,rfl,L (λw=>z<|r2.nil_iff.mpr w) _<|I.hok.fresh<|ae _);show(by rw[lAq];show l,_,r1.append r2,IsTup.new _ _)
end
noncomputable def Ql(n:Nat)(i:Int):Option Nat:=if 0<=i then (if i<n then bj i.toNat else n_)else if -(n:Int)<=i then bj (i+n).toNat else n_
def atI{α:Type}(xs:List α)(i:Int):Option α:=(Ql xs.length i).bind λj=>xs[j]?
def VG(h:Ql n i=bj j):ac0 i n=bj j/\j<n/\-(n:Int)<=i/\i<n:=by
 unfold Ql at h;by_cases s:0<=i
 .rw[qF s]at h;by_cases l:i<n;.rw[qF l]at h;have e:i.toNat=j:=bj.inj h;show(by rw[seqIndex_of s l,e],by lia,by lia,l)
  .rw[qL l]at h;cases h
 .rw[qL s]at h;by_cases l:-(n:Int)<=i;.rw[qF l]at h;have e:(i+n).toNat=j:=bj.inj h;show(by rw[seqIndex_neg ∅ l,e],by lia,l,by lia)
  .rw[qL l]at h;cases h
def V0{xs:List α}{v}(h:atI xs i=bj v):∃j,ac0 i xs.length=bj j/\xs[j]?=bj v/\j<xs.length/\-(xs.length:Int)<=i/\i<xs.length:=by unfold atI at h;cases e:Ql xs.length i with
 |none=>rw[e]at h;cases h
 |some j=>rw[e]at h;have(l,n,s,t):=VG e;show(j,l,h,n,s,t)
def zZ{xs:List α}{j:Nat}{v}(h:xs[j]?=bj v):atI xs (j:Int)=bj v:=by
 have l:j<xs.length:=(gSq.mp h).1;have e:Ql xs.length (j:Int)=bj j:=by unfold Ql;rw[qF<|by rfl',qF<|by ac_nf];simp
 unfold atI;rw[e];show h
def G4(xs:List α)v:atI (xs++[v]) (-1)=bj v:=by
 have hl:(xs++[v]).length=xs.length+1:=by simp
 have e:Ql (xs++[v]).length (-1)=bj xs.length:=by
  unfold Ql;rw[hl,qL ⋯,qF<|by ac_nf];congr 1;ac_nf
 unfold atI;rw[e];change(xs++[v])[xs.length]?=bj v;simp
def agu(b:Expr):Prop:=∀o i,nR b f_ o i=operate [o,i] (mU o i)
def LZ(X:Cx)(r:R2):Prop:=∀n l t s (σ:St) H x y v u Q,qt X t σ H s->rS x v->rS y u->r x y H Q ->
  nR l f_ v u=operate [v,u] (mU v u)->kj (kg X.prog X.w) X.A (om n l v u) (EP X t σ Q) X.xe s
def MtR(X:Cx)(id:String)(r:V->List V->Hp->VK->Prop):Prop:=∀l s (σ:St) H x xs v us Q,qt X l σ H s->rS x v->qS xs us->r x xs H Q ->
  kj (kg X.prog X.w) X.A (call (.builtin id)<|v::us) (EP X l σ Q) X.xe s
section
def LZ.or(h:LZ X r)(h':LZ X r'):LZ X<|λx y H Q=>r x y H Q∨r' x y H Q:=by
 intro l n t s σ H x y v u Q I z B q E;rcases q with q|q;.show h l n t s σ H x y v u Q I z B q E
 .show h' l n t s σ H x y v u Q I z B q E
def tS(hr:LZ X r)(ha:PE X a ta)(hb:PE X b tb)(l:agu b):PE X (.Subscript a b pos)<|tOp r ta tb:=by intro n s σ H Q I h;show Subscript_<|akc ha hb I h λv u s2 x y t z B E q=>hr a b n s2 σ t x y v u Q z B E q<|l _ _
def abJ(K:Ζ):R2:=λx y H Q=>∃p xs i v,x = .ref p/\y = .int i/\vk K H p xs/\atI xs i=bj v/\Q v H
def aeO(K:Ζ):R2:=λx y H Q=>∃p xs i v,x = .ref p/\y = .int i/\FF K H p xs/\atI xs i=bj v/\Q v H
def qT:LZ X<|abJ X.K:=by
 intro n B L s σ H x y v u Q I R S h M;have(p,xs,i,z,rfl,rfl,T,U,q):=h;cases R;have(t,rfl):=S;have(E,r,pl,hz):=I.list T;have(j,l,Y,h3,h4,h5):=V0 U;have(w,O,G):=r.get Y;have hl:=r.length;have hn:=OI;have fin:EP X L σ Q w s:=(z,H,I,G,q);by_cases P:0<=i
 .have J:i.toNat=j:=by rw[seqIndex_of P h5]at l;show bj.inj l
  show item_listR pl.isList P ∅ (by rw[J];simpa using O) fin M
 .have J:(i+(E.toArray.size:Int)).toNat=j:=by
   rw[seqIndex_neg ∅ h4]at l;rw[ao,←hl];show bj.inj l
  show nQ (x:=w) pl.isList.typeIs slot_list_getitem.lookup
   (wpAny_getItem_list_neg (Q:=λr s'=>r=w/\EP X L σ Q r s') pl.isList ∅ (by rw[ao] <;> lia) ∅ (by rw[J];simpa using O) (rfl,fin)) M
def vR:LZ X<|aeO X.K:=by
 intro l n E s σ H x y v u Q I G J h L;have(p,Y,i,z,rfl,rfl,M,O,q):=h;cases G;have(t,rfl):=J;have(P,r,pl,hz):=I.tuple M;have(j,R,S,h3,h4,h5):=V0 O;have(w,T,B):=r.get S;have hl:=r.length;have hn:=OI;have fin:EP X E σ Q w s:=(z,H,I,B,q);show nQ (x:=w) pl.typeIs slot_tuple_getitem.lookup
  (getItem_tuple (j:=j) (Q:=λr U=>r=w/\EP X E σ Q r U) pl ∅ ∅ (by rw[ao,←hl];show R) (by simpa using T) (rfl,fin)) L
def Ob(lo hi)n:(mj lo hi n_ n).1=((HT.xi n 0 lo:Nat):Int)/\(mj lo hi n_ n).2.1=((HT.xi n n hi:Nat):Int)/\(mj lo hi n_ n).2.2=1:=by
 show(?_,?_,rfl);.cases lo with
  |none=>rfl
  |some i=>
   simp only[mj,HT.xi,jx,show(1:Int)>0 by decide,if_true];by_cases h:i<0;.simp only[h,if_true] <;> lia
   .simp only[h,if_false] <;> lia
 .cases hi with
  |none=>rfl
  |some i=>
   simp only[mj,HT.xi,jx,show(1:Int)>0 by decide,if_true];by_cases h:i<0;.simp only[h,if_true] <;> lia
   .simp only[h,if_false] <;> lia
def Mj(l:Ξ)lo hi:slicePick l.toArray lo hi n_=((l.drop<|HT.xi l.length 0 lo).take<|HT.xi l.length l.length hi-HT.xi l.length 0 lo).toArray:=by have(n,s,t):=Ob lo hi l.toArray.size;unfold slicePick;simp only[n,s,t];simp only[sliceRange_one,pick_run,ao] <;> rfl
def alU(K:Ζ):V->Option Int->Option Int->Hp->VK->Prop:=λx lo hi H Q=>∃a xs,x = .ref a/\vk K H a xs/\∀p,H p=n_->Q (.ref p) (rO H p<|.lst<|PD xs lo hi)
def zb:SlR X<|alU X.K:=by
 intro J s σ H x v L M lo hi O Q I t u pl z h;have(a,l,rfl,B,q):=h;cases t;have(E,r,ht,G):=I.list B;have n:=r.length;show("list", _,slot_list_getitem.lookup,ht.isList.typeIs,?_);show wpAny_getItem_list_slice ht.isList u pl z .none ⋯ ?_<|by rw[ao] <;> lia
 rw[Mj,←n];show(.ref s.heap.objs.size,_,I.laid (t':=s.toks) (o:=.lst<|PD l lo hi) (λb P q=>aa _ q) (ae _) ?_,rfl,q _<|I.hok.fresh<|ae _);show(bh (Je l lo hi) G,_,0,(r.drop<|HT.xi l.length 0 lo).take<|HT.xi l.length l.length hi-HT.xi l.length 0 lo,bp _ rfl)
noncomputable def Ft:V->Bool
 | .non=>t_
 | .bl _=>t_
 | .int _=>t_
 | .str _=>t_
 |_=>f_
noncomputable def eqV:V->V->Bool
 | .non,.non=>t_
 | .bl a,.bl b=>a == b
 | .bl a,.int b=>(if a then 1 else 0) == b
 | .int a,.bl b=>a == (if b then 1 else 0)
 | .int a,.int b=>a == b
 | .str a,.str b=>a == b
 |_,_=>f_
def ahZ(z:rS y u)(l:rS x v)(E:Ft y=t_)(B:Ft x=t_):SeqAt.EqAt A s u v<|eqV y x:=by cases y with
 |non=>cases z;cases x with
  |non=>cases l;show SeqAt.EqAt.same _
  |bl b=>cases l;show SeqAt.EqAt.none_bool b
  |int b=>have(t,rfl):=l;show SeqAt.EqAt.none_int b t
  |str b=>have(t,rfl):=l;show SeqAt.EqAt.none_str b t
  |_=>show absurd (show f_=t_ from B) aE
 |bl a=>cases z;cases x with
  |non=>cases l;show SeqAt.EqAt.bool_none a
  |bl b=>cases l;show SeqAt.EqAt.bool_bool a b
  |int b=>have(t,rfl):=l;show SeqAt.EqAt.bool_int a b t
  |str b=>have(t,rfl):=l;show SeqAt.EqAt.bool_str a b t
  |_=>show absurd (show f_=t_ from B) aE
 |int a=>have(n,rfl):=z;cases x with
  |non=>cases l;show SeqAt.EqAt.int_none a n
  |bl b=>cases l;show SeqAt.EqAt.int_bool a n b
  |int b=>have(t,rfl):=l;show SeqAt.EqAt.int_int a n b t
  |str b=>have(t,rfl):=l;show SeqAt.EqAt.int_str a n b t
  |_=>show absurd (show f_=t_ from B) aE
 |str a=>have(n,rfl):=z;cases x with
  |non=>cases l;show SeqAt.EqAt.str_none a n
  |bl b=>cases l;show SeqAt.EqAt.str_bool a n b
  |int b=>have(t,rfl):=l;show SeqAt.EqAt.str_int a n b t
  |str b=>have(t,rfl):=l;show SeqAt.EqAt.str_str a n b t
  |_=>show absurd (show f_=t_ from B) aE
 |_=>show absurd (show f_=t_ from E) aE
def TK(x:V)(u:Value):Bool:=match u with
 | .none=>eqV .non x
 | .bool b=>eqV (.bl b) x
 | .int i _=>eqV (.int i) x
 | .str z _=>eqV (.str z) x
 |_=>f_
def abl(r:rS y u)(f:Ft y=t_):TK x u=eqV y x:=by cases y with
 |non=>cases r;rfl
 |bl b=>cases r;rfl
 |int i=>have(t,rfl):=r;rfl
 |str z=>have(t,rfl):=r;rfl
 |_=>show absurd (show f_=t_ from f) aE
theorem Hr:∀{xs}{us},qS xs us->xs.all Ft=t_->us.any (TK x)=xs.any λy=>eqV y x
 |_,_,.nil,_=>rfl
 |y::xs,u::us,.cons r t,f=>by rw[eV,cS]at f;simp only[dQ,dQ,abl r f.1,Hr t f.2]
theorem Ed(n:rS x v)(z:Ft x=t_):∀{xs}{us},qS xs us->xs.all Ft=t_->∀u∈us,SeqAt.EqAt A s u v (TK x u)
 |_,_,.nil,_=>λu l=>by cases l
 |y::xs,u::us,.cons r t,f=>λB l=>by
  simp only[eV,cS]at f;rcases ag.mp l with rfl|l;.rw[abl r f.1];show ahZ r n f.1 z
  .show Ed n z t f.2 B l
def inV(x:V)(xs:List V):Bool:=xs.any λy=>eqV y x
def rIn(K:Ζ)(neg:Bool):R2:=λx y H Q=>∃p xs,y = .ref p/\(vk K H p xs∨FF K H p xs)/\Ft x=t_/\xs.all Ft=t_/\Q (.bl<|if neg then !inV x xs else inV x xs) H
def NX:JF X (kX .In)<|rIn X.K f_:=by
 intro G s σ H x y v u Q I t B h;have(p,J,rfl,n,z,fs,q):=h;cases B;rcases n with n|n
 .have(l,r,pl,E):=I.list n;show SeqAt.in_listAt (TK x) pl.isList (λw hw=>Ed t z r fs w<|by simpa using hw) (.bl _,H,I,rfl,?_);rw[show l.toArray.any (TK x)=l.any (TK x) by simp,Hr r fs];show q
 .have(l,r,pl,E):=I.tuple n;show SeqAt.in_tupleAt (TK x) pl (λw hw=>Ed t z r fs w<|by simpa using hw) (.bl _,H,I,rfl,?_);rw[show l.toArray.any (TK x)=l.any (TK x) by simp,Hr r fs];show q
def zR:JF X (kX .NotIn)<|rIn X.K t_:=by
 intro G s σ H x y v u Q I t B h;have(p,J,rfl,n,z,fs,q):=h;cases B;rcases n with n|n
 .have(l,r,pl,E):=I.list n;show SeqAt.notIn_listAt (TK x) pl.isList (λw hw=>Ed t z r fs w<|by simpa using hw) (.bl _,H,I,rfl,?_);rw[show l.toArray.any (TK x)=l.any (TK x) by simp,Hr r fs];show q
 .have(l,r,pl,E):=I.tuple n;show SeqAt.notIn_tupleAt (TK x) pl (λw hw=>Ed t z r fs w<|by simpa using hw) (.bl _,H,I,rfl,?_);rw[show l.toArray.any (TK x)=l.any (TK x) by simp,Hr r fs];show q
def vN.or(h:vN X f r)(h':vN X f r'):vN X f<|λxs H Q=>r xs H Q∨r' xs H Q:=by
 intro l s σ H xs us Q I n q;rcases q with q|q;.show h l s σ H xs us Q I n q
 .show h' l s σ H xs us Q I n q
def yk:vN X (.type "list")<|λxs H Q=>∃p z,xs=[.ref p]/\(vk X.K H p z∨FF X.K H p z)/\∀l,H l=n_->Q (.ref l) (rO H l<|.lst z):=by
 intro R s σ H xs us Q I r h;have(p,z,rfl,G,q):=h;have(u,rfl,S):=HD r;cases S;have fin:∀(t:Ξ),qS z t->z.length<=ky->∀(x:Heap) (B:Nat),(∀b P,s.heap.get? b=bj P->x.get? b=bj P) ->
   x.get? s.heap.objs.size=bj { cls:=.type "list", dict:=n_,data:=.seq t.toArray B,slots:=#[] }->EP X R σ Q (.ref s.heap.objs.size) { s with heap:=x }:=λt E J x B kp e=>(.ref s.heap.objs.size,_,I.laid (t':=s.toks) kp (ae _)<|show tT X.prog X.w _ x _ (.lst z)from (J,t,B,E,e),rfl,q _<|I.hok.fresh<|ae _);rcases G with G|G;.have(t,E,pl,J):=I.list G;have L:=E.length;have(o,M,O,n,hd):=pl.isList;show call_list_seq p (.inl rfl) M O hd (λx B kp e=>fin t E J x B kp e)<|by simp only[ao] <;> lia
 .have(t,E,pl,J):=I.tuple G;have L:=E.length;have(o,M,O,n,hd):=pl;show call_list_seq p (.inr rfl) M O hd (λx B kp e=>fin t E J x B kp e)<|by simp only[ao] <;> lia
def tyV(K:Ζ)(T:String)(x:V)(H:Hp):Prop:=match x with
 | .str _=>T = "str"
 | .int _=>T = "int"
 | .ref p=>(T = "list" /\ ∃xs,vk K H p xs)∨(T = "tuple" /\ ∃o,K.lookup p=bj o/\o.cls = .type "tuple" /\ o.dict=n_) ∨
   (T = "dict" /\ ((∃kvs,H p=bj (.dK kvs))∨∃kvs,H p=bj (.dT kvs)))∨(T = "set" /\ ∃S n,H p=bj (.set S n))
 |_=>False
def acb{σ:St}(I:qt X B σ H s)(r:rS x v)(ty:tyV X.K T x H) :
  s.TypeIs v T/\∀a,v = .ref a->∃u,s.heap.get? a=bj u/\u.dict=n_:=by cases x with
 |str z=>
  have(t,rfl):=r;cases(show T = "str" from ty);show(typeIs_str s z t,λQ e=>nomatch e)
 |int i=>
  have(t,rfl):=r;cases(show T = "int" from ty);show(typeIs_int s i t,λQ e=>nomatch e)
 |ref p=>
  cases r;rcases ty with⟨rfl,L,E⟩|⟨rfl,o,hk,G,hd⟩|⟨rfl,hk⟩|⟨rfl,S,n,hk⟩
  .have(J,_,pl,_):=I.list E;show(pl.isList.typeIs,λa e=>?_);cases e;have(o,n,e,c,hd,_):=pl;show(o,e,hd)
  .show((o,I.kIn p o hk,G),λa e=>?_);cases e;show(o,I.kIn _ o hk,hd)
  .have z:∃o,s.heap.get? p=bj o/\o.ExactDict:=by
    rcases hk with⟨l,hk⟩|⟨l,hk⟩;.have(_,_,_,_,o,_,_,e,ex,_):=I.hok p _ hk;show(o,e,ex)
    .have(_,_,_,_,o,_,_,e,ex,_):=I.hok p _ hk;show(o,e,ex)
   have(o,e,ex):=z;show((o,e,ex.1),λa e2=>?_);cases e2;show(o,e,ex.2.1)
  .have(o,_,_,_,e,ex,_):=I.hok p _ hk;show((o,e,ex.1),λa e2=>?_);cases e2;show(o,e,ex.2.1)
 |_=>show False.elim ty
def amC(K:Ζ)(T:String)(r:V->List V->Hp->VK->Prop)(to:TE):TE:=λσ H Q=>to σ H λx l=>tyV K T x l/\r x [] l Q
def Vu(K:Ζ)(T:String)(r:V->List V->Hp->VK->Prop)(to:TE)(t:TA):TE:=λσ H Q=>to σ H λx l=>tyV K T x l/\t σ l λxs n=>r x xs n Q
variable {id:String}
def ai4(E:PlainAttrs T)(slot:Slot T name id)(u:typeOf (.builtin id)=pure (.type "method_descriptor"))(hm:MtR X id r)(G:PE X o to)
  (l:↑(mC o name X.env (eval o X.env)=eval o X.env)) (n:↑((apos.endLine == cpos.line)=t_)):PE X (.Call (.Attribute o name apos) [] [] cpos)<|amC X.K T r to:=by
 intro z s σ H Q I h;show wpAny_Call_method0_late l n<|uQ (G z s σ H _ I h) λv s1 o_=>?_;have(x,J,B,r1,ty,q1):=o_;have(L,M):=acb B r1 ty;show(T,id,E,slot,u,L,M,Calls.callWith_builtin rfl<|PySem.evalArgs_none<|hm z s1 σ J x [] v [] Q B r1 .nil q1)
def vZ(L:PlainAttrs T)(slot:Slot T name id)(B:typeOf (.builtin id)=pure (.type "method_descriptor"))(hm:MtR X id r)(M:PE X o to)(ha:PA X (e::es) t)
  (n:↑(mC o name X.env (eval o X.env)=eval o X.env))
  (z:↑(((kN cpos<|ku (e::es) X.env).all (λx=>!x.1) && (mO cpos<|mn [] X.env).all (λx=>x.1.isSome)
   && decide ((e::es).length+([]:List Keyword).length+(if ([]:List Keyword).isEmpty then 0 else 1)<30))=t_))
  (u:↑((apos.endLine == cpos.line)=t_)) (O:↑(ku (e::es) X.env=%[f_|eval e X.env]::ku es X.env)) (l:↑((kN cpos<|ku es X.env).any (·.1)=f_)) :
  PE X (.Call (.Attribute o name apos) (e::es) [] cpos)<|Vu X.K T r to t:=by
 intro E s σ H Q I h;show wpAny_Call_method_late n z u rfl<|uQ (M E s σ H _ I h) λv s1 o_=>?_;have(x,P,G,r1,ty,q1):=o_;have(R,S):=acb G r1 ty;show(T,id,L,slot,B,R,S,?_);have J:=ha cpos E s1 σ P _ G q1;rw[O]at J ⊢;show Calls.callWith_builtin (by change(f_ || (kN cpos<|ku es X.env).any (·.1))=f_;rw[l] <;> rfl)<|Calls.evalArgs_plain ?_;show uQ J λus s2 o_=>?_;have(U,Y,I2,r2,q2):=o_;show hm E s2 σ Y x U v us Q I2 r1 r2 q2
end
def MtM(X:Cx)(id:String)(r:V->List V->Hp->VK->Prop):Prop:=∀l s (σ:St) H x xs v us Q,qt X l σ H s->rS x v->qS xs us->r x xs H Q ->
  kj (kg X.prog X.w) X.A (call (.builtin id)<|v::us) (EP X l σ Q) X.xe s
def qS.one:∀{x}{us},qS [x] us->∃u,us=[u]/\rS x u
 |_,_,.cons r .nil=>(_,rfl,r)
def qS.zero:∀{us},qS [] us->us=[]
 |_,.nil=>rfl
theorem qS.dropLast(h:qS xs us):qS xs.dropLast us.dropLast:=by induction h with
 |nil=>show .nil
 |cons r t l=>cases t with
  |nil=>show .nil
  |cons q n=>show .cons r l
theorem qS.eraseIdx:∀{xs}{us}i,qS xs us->qS (xs.eraseIdx i) (us.eraseIdx i)
 |_,_,_,.nil=>.nil
 |_,_,0,.cons _ t=>t
 |_,_,i+1,.cons r t=>.cons r<|qS.eraseIdx i t
theorem qS.reverse(h:qS xs us):qS xs.reverse us.reverse:=by induction h with
 |nil=>show .nil
 |cons r t l=>rw[fB,fB];show qS.append l<|.cons r .nil
def Gb{α:Type}(l:List α):l.eraseIdx (l.length-1)=l.dropLast:=by induction l with
 |nil=>rfl
 |cons a r n=>cases r with
  |nil=>rfl
  |cons b r=>
   have e:(a::b::r).length-1=((b::r).length-1)+1:=by have s:(a::b::r).length=r.length+2:=rfl;have t:(b::r).length=r.length+1:=rfl;rfl'
   rw[e,bU,n];all_goals rfl
theorem NP{α:Type}:∀(l:List α) i,(l.eraseIdx i).length<=l.length
 | [],_=>ae _
 |_::_,0=>bR _
 |_::r,i+1=>Nat.succ_le_succ<|NP r i
section
variable {σ:St}
def qt.lset{t:Ξ}{f:Ω->Ω}(I:qt X ou σ H s)(z:H l=bj (.lst xs))
  (e:s.heap.get? l=bj { cls:=.type "list", data:=.seq t.toArray n }) (B:f t.toArray=its'.toArray) (E:qS ys its') (G:ys.length<=ky) :
  qt X ou σ (rO H l<|.lst ys) { s with heap:=s.heap.update l (Obj.mapSeq f),toks:=t' }:=by
 have q:=PySem.IsL.update e f;rw[B]at q;show I.write (x:=l) (e:=l) (by rw[z];show trivial) (.inl rfl) (λL u hb J=>(bI s.heap (Obj.mapSeq f)<|Ne.symm hb).trans J) (_,q) ?_;show(G,its',_,E,q)
def qt.lnew(I:qt X ou σ H s)(t:qS ys n)(u:ys.length<=ky) :
  qt X ou σ (rO H s.heap.objs.size<|.lst ys) { s with heap:=s.heap.push { cls:=.type "list", data:=.seq n.toArray },toks:=t' }:=I.laid (λQ Q q=>aa _ q) (ae _) (u,n,0,t,bp _ rfl)
theorem qt.fresh(I:qt X ou σ H s):H s.heap.objs.size=n_:=I.hok.fresh<|ae _
def qt.lstM(I:qt X ou σ H s)(u:H l=bj (.lst xs)):xs.length<=ky/\∃t n,qS xs t/\xs.length=t.length/\s.heap.get? l=bj { cls:=.type "list", data:=.seq t.toArray n }:=by have(z,t,n,r,e):=I.hok l _ u;show(z,t,n,r,r.length,e)
def ZP(h:n<=ky):Builtin.List.listTooLong n=f_:=by unfold Builtin.List.listTooLong;show d4<|by ac_nf
end
def E7:V->List V->Hp->VK->Prop:=λx vs H Q=>∃l xs y,x = .ref l/\vs=[y]/\H l=bj (.lst xs)/\xs.length<ky/\Q .non (rO H l<|.lst<|xs++[y])
def sQ:MtM X "list.append" E7:=by
 intro L s σ H x M v us Q I E G h;have(l,O,y,rfl,rfl,B,P,q):=h;cases E;have(u,rfl,J):=G.one;have(z,t,n,r,hl,e):=I.lstM B;show lX F.slot_list_append (_,e,rfl) F.entry_list_append (F.args_list_append_2 _ _) (PySem.list_append l t.toArray n u<|by rw[ao];lia) (e,?_);show(.non,_,I.lset (its':=t++[u]) B e ⋯ (r.append<|.cons J .nil) ?_,rfl,q);rw[lAq,lSq];rfl'
def JL:V->List V->Hp->VK->Prop:=λx vs H Q=>∃l b xs n,x = .ref l/\vs=[.ref b]/\H l=bj (.lst xs)/\H b=bj (.lst n)/\xs.length+n.length<=ky/\Q .non (rO H l<|.lst<|xs++n)
def Fb:MtM X "list.extend" JL:=by
 intro T s σ H x U v us Q I L M h;have(l,b,Y,zs,rfl,rfl,J,O,hz,q):=h;cases L;have(u,rfl,P):=M.one;cases P;have(z,B,n,r,hl,e):=I.lstM J;have(z2,t,R,r2,S,e2):=I.lstM O;have G:B.toArray.size+t.toArray.size<=ky:=by rw[ao,ao];lia
 have E:¬ (!B.toArray.isEmpty && Builtin.List.listTooLong (B.toArray.size+t.toArray.size))=t_:=by rw[ZP G,Bool.and_false];show aE
 show lX F.slot_list_extend (_,e,rfl) F.entry_list_extend (F.args_list_extend_2 _ _)
  (AutoSeq1.list_extend_list_list_0 l B.toArray n b t.toArray R E (by rw[ao];lia)<|by rfl') (e,e2,?_);show(.non,_,I.lset (its':=B++t) J e ⋯ (r.append r2) ?_,rfl,q);rw[lAq];rfl'
def aik:V->List V->Hp->VK->Prop:=λx vs H Q=>∃l xs y,x = .ref l/\vs=[]/\H l=bj (.lst xs)/\xs[xs.length-1]?=bj y/\Q y (rO H l<|.lst xs.dropLast)
def aiQ:MtM X "list.pop" aik:=by
 intro R s σ H x S v us Q I J L h;have(l,T,y,rfl,rfl,G,M,q):=h;cases J;have B:=L.zero;subst B;have(z,t,n,r,hl,e):=I.lstM G;have(u,O,P):=r.get M;have E:t.toArray[t.toArray.size-1]?=bj u:=by change t.toArray[t.length-1]?=bj u;rw[←aO,←hl];show O
 show lX F.slot_list_pop (_,e,rfl) F.entry_list_pop (F.args_list_pop_1 _) (MeetsSeq.list_pop_last l t.toArray n u E<|by rw[ao];lia) (e,?_);show(y,_,I.lset (its':=t.dropLast) G e ?_ r.dropLast ?_,P,q);.change t.toArray.eraseIdxIfInBounds (t.toArray.size-1)=t.dropLast.toArray;rw[ao,fK,Gb]
 .rw[iR];lia
def aaV:V->List V->Hp->VK->Prop:=λx vs H Q=>∃l xs i k y,x = .ref l/\vs=[.int i]/\H l=bj (.lst xs)/\-(2 ^ 63)<=i/\i<2 ^ 63/\ac0 i xs.length=bj k/\xs[k]?=bj y/\Q y (rO H l<|.lst<|xs.eraseIdx k)
def RH:MtM X "list.pop" aaV:=by
 intro T s σ H x U v us Q I J L h;have(l,M,i,k,y,rfl,rfl,G,O,P,hk,R,q):=h;cases J;have(u,rfl,S):=L.one;have(t,rfl):=S;have(z,B,n,r,hl,e):=I.lstM G;have(w,hw,E):=r.get R;show lX F.slot_list_pop (_,e,rfl) F.entry_list_pop (F.args_list_pop_2 _ _)
  (MeetsSeq.list_pop_at l B.toArray n i t k w (fitsIndex_both O P) (by rw[ao,←hl];show hk) (by rw[←aO];show hw)<|by rw[ao];lia) (e,?_);show(y,_,I.lset (its':=B.eraseIdx k) G e ?_ (r.eraseIdx k) ?_,E,q);.change B.toArray.eraseIdxIfInBounds k=(B.eraseIdx k).toArray;rw[fK]
 .have:=NP M k;lia
def amB:R2:=λx y H Q=>∃l b xs n,x = .ref l/\y = .ref b/\H l=bj (.lst xs)/\H b=bj (.lst n)/\xs.length+n.length<=ky/\∀p,H p=n_->Q (.ref p) (rO H p<|.lst<|xs++n)
def DX:JF X (lJ .Add) amB:=by
 intro P s σ H x y v u Q I E G h;have(l,b,R,S,rfl,rfl,J,L,T,q):=h;cases E;cases G;have(z,B,n,r,hl,e):=I.lstM J;have(U,t,Y,r2,M,e2):=I.lstM L;show PySem.P.add_list e e2 ?_<|by rw[ao,ao];lia
 have O:B.toArray++t.toArray=(B++t).toArray:=by simp
 rw[O];show(.ref _,_,I.lnew (t':=s.toks) (r.append r2)<|by rw[lAq];rfl',rfl,q _ I.fresh)
section
variable {κ:Type}[DecidableEq κ]
noncomputable def G1(kvs:List<|κ×V)(k:κ):Option V:=(kvs.find? λl=>decide<|l.1=k).map (·.2)
noncomputable def DP(kvs:List<|κ×V)(k:κ)(v:V):List<|κ×V:=if (kvs.any λl=>decide<|l.1=k)=t_ then kvs.map (λl=>if l.1=k then %[l.1|v]else l)else kvs++[%[k|v]]
def LO{p:κ×V}(e:p.1=k):G1 (p::r) k=bj p.2:=by simp[G1,eE,e]
def KU{p:κ×V}(e:¬ p.1=k):G1 (p::r) k=G1 r k:=by simp[G1,eE,e]
theorem Sh k:∀kvs:List<|κ×V,(kvs.any λl=>decide<|l.1=k)=(G1 kvs k).isSome
 | []=>rfl
 |p::r=>by
  rw[dQ];by_cases e:p.1=k;.simp only[LO e,d0 e,Bool.true_or,Option.isSome_some]
  .simp only[KU e,d4 e,jM];show Sh k r
def D7(kvs:List<|κ×V)k v:(DP kvs k v).length<=kvs.length+1:=by
 unfold DP;split;.rw[lMq];rfl'
 .simp only[lAq,lCq,dJ];rfl'
def Du.isSome_eq(r:Du o u):o.isSome=u.isSome:=by cases o with
 |none=>cases u with
  |none=>rfl
  |some _=>show(show False from r).elim
 |some _=>cases u with
  |none=>show(show False from r).elim
  |some _=>rfl
def KV.val{kvs:List<|κ×V}(r:KV kvs vs)k:Du (G1 kvs k)<|nj vs k:=by
 unfold KV at r;induction r with
 |nil=>show True.intro
 | @cons p q ps l h t u=>
  have(s,x):=h;by_cases e:p.1=k
  .have n:q.1=k:=s.symm.trans e;have b:nj (q::l) k=bj q.2:=by simp[nj,eE,n]
   rw[LO e,b];show x
  .have n:¬ q.1=k:=λz=>e<|s.trans z;have b:nj (q::l) k=nj l k:=by simp[nj,eE,n]
   rw[KU e,b];show u
theorem KV.any{kvs:List<|κ×V}(r:KV kvs vs)k:(kvs.any λl=>decide<|l.1=k)=vs.any λl=>decide<|l.1=k:=by
 unfold KV at r;induction r with
 |nil=>rfl
 |cons h t n=>simp only[dQ,dQ,n,h.1]
def KV.repl{kvs:List<|κ×V}(r:KV kvs vs)k(s:rS y u) :
  KV (kvs.map λl=>if l.1=k then %[l.1|y]else l)<|vs.map λl=>if l.1=k then %[l.1|u]else l:=by
 unfold KV at r ⊢;induction r with
 |nil=>show .nil
 | @cons p q ps E h t x=>
  simp only[aq,aq];show .cons ?_ x;have(n,B):=h;by_cases e:p.1=k;.rw[qF e,qF<|n.symm.trans e];show(n,s)
  .rw[qL e,qL<|λz=>e<|n.trans z];show(n,B)
def KV.put{kvs:List<|κ×V}(r:KV kvs vs)k(l:rS y u):KV (DP kvs k y)<|stored vs k u:=by
 unfold DP stored;rw[r.any k];by_cases e:(vs.any λn=>decide<|n.1=k)=t_;.rw[qF e,qF e];show r.repl k l
 .rw[qL e,qL e];show Paired.snoc r (rfl,l)
theorem KV.length{kvs:List<|κ×V}(r:KV kvs vs):kvs.length=vs.length:=Paired.length r
end
def QK(r:rS (kV k) u):(uR P w).is k u=t_:=by cases k with
 |inl i=>have(t,e):=(show ∃t,u=gS i t from r);subst e;show Rw P w i t
 |inr x=>have(t,e):=(show ∃t,u=iG x t from r);subst e;show QY P w x t
theorem M6:∀{l}{us},qS (l.map kV) us->ItemsAre (uR P w) l us
 | [],_,r=>by rw[cL]at r;cases r;show .nil
 |k::l,_,r=>by rw[aq]at r;cases r with
  |cons h t=>show .cons (QK h)<|M6 t
abbrev KT(H:Hp):List (List rD×V)->List (List rD×Addr×Value)->Prop:=Paired λp q=>p.1=q.1/\H q.2.1=bj (.tup<|p.1.map kV)/\rS p.2 q.2.2
def KT.val(r:KT H kvs xs)k:Du (G1 kvs k) ((nP xs k).map (·.2)):=by induction r with
 |nil=>show True.intro
 | @cons p q ps l h t u=>
  have(s,_,x):=h;by_cases e:p.1=k
  .have n:q.1=k:=s.symm.trans e;have b:nP (q::l) k=bj q.2:=by simp[nP,eE,n]
   rw[LO e,b];show x
  .have n:¬ q.1=k:=λz=>e<|s.trans z;have b:nP (q::l) k=nP l k:=by simp[nP,eE,n]
   rw[KU e,b];show u
def KT.repl(r:KT H kvs xs)k(x:rS y u) :
  KT H (kvs.map λn=>if n.1=k then %[n.1|y]else n)<|xs.map<|putAt k u:=by induction r with
 |nil=>show .nil
 | @cons p q ps G h t B=>
  rw[aq,aq];show .cons ?_ B;have(l,s,E):=h;unfold putAt;by_cases e:p.1=k;.rw[qF e,qF<|l.symm.trans e];show(l,s,x)
  .rw[qL e,qL<|λz=>e<|l.trans z];show(l,s,E)
def KT.put(r:KT H kvs xs)k(hb:H b=bj (.tup<|k.map kV))(l:rS y u) :
  KT H (DP kvs k y)<|storedH xs k b u:=by
 have e:(kvs.any λn=>decide<|n.1=k)=(nP xs k).isSome:=by rw[Sh,(r.val k).isSome_eq,gT]
 unfold DP storedH;rw[e];by_cases q:(nP xs k).isSome=t_;.rw[qF q,qF q];show r.repl k l
 .rw[qL q,qL q];show Paired.snoc r (rfl,hb,l)
def KT.keeps(r:KT H kvs xs)(ht:∀b n,H b=bj (.tup n)->l b=bj (.tup n)):KT l kvs xs:=Paired.mapP r λQ Q z=>(z.1,ht _ _ z.2.1,z.2.2)
def agB(ok:Dw P w H h)(e:Rd H a u):tT P w H h a u:=e.ok ok
def QM(ok:Dw P w H h)(e:Rd H a<|.dK kvs):kvs.length<=ky/\(a == lu)=f_/\∃vs,KV kvs vs/\h.DictOf (uR P w) a vs:=show tT P w H h a (.dK kvs)from agB ok e
def ahi(ok:Dw P w H h)(e:H a=bj (.dK kvs)):kvs.length<=ky/\(a == lu)=f_/\∃vs,KV kvs vs/\h.DictOf (uR P w) a vs:=QM ok<|.inl e
def OQ(ok:Dw P w H h)(e:H a=bj (.tup<|l.map kV)):(nH<|uR P w).is h l a:=by
 have(_,s,r,o,t,u,n,x):=(show tT P w H h a (.tup<|l.map kV)from ok a _ e);show(o,s.toArray,n,t,u,x,by show M6 r)
def QW(ok:Dw P w H h)(e:Rd H a<|.dT kvs):kvs.length<=ky/\(a == lu)=f_ /\
  ∃xs,KT H kvs xs/\h.DictOfH (nH<|uR P w) a xs:=by
 have(z,y,xs,r,o,u,B,E,G,I,J,L):=(show tT P w H h a (.dT kvs)from agB ok e);show(z,y,xs,r,o,u,B,E,G,I,J,λx n=>?_,L);have all:∀{l:List<|List rD×V}{m:List<|List rD×Addr×Value},KT H l m->∀x∈m,(nH<|uR P w).is h x.1 x.2.1:=by
  intro l m q;induction q with
  |nil=>intro x n;show nomatch n
  | @cons p q ps O s t M=>
   intro x n;rcases ag.mp n with e|n;.subst e;show OQ ok<|by rw[←s.1];show s.2.1
   .show M x n
 show all r x n
def ak2(ok:Dw P w H h)(e:H a=bj (.dT kvs)):kvs.length<=ky/\(a == lu)=f_ /\
  ∃xs,KT H kvs xs/\h.DictOfH (nH<|uR P w) a xs:=QW ok<|.inl e
def K4(H:Hp)(a:Addr)(y:V)(r:Option V):Prop:=(∃kvs k,Rd H a (.dK kvs)/\y=kV k/\r=G1 kvs k)∨∃kvs k b,Rd H a (.dT kvs)/\y = .ref b/\H b=bj (.tup<|k.map kV)/\r=G1 kvs k
def Xa(H:Hp)(a:Addr)(y v:V)(l:Hp):Prop:=(∃kvs k,H a=bj (.dK kvs)/\y=kV k/\kvs.length<ky/\l=rO H a (.dK<|DP kvs k v)) ∨
 ∃kvs k b,H a=bj (.dT kvs)/\y = .ref b/\H b=bj (.tup<|k.map kV)/\kvs.length<ky/\l=rO H a (.dT<|DP kvs k v)
theorem K4.k{k}(e:H a=bj (.dK kvs)):K4 H a (kV k)<|G1 kvs k:=.inl (kvs,k,.inl e,rfl,rfl)
theorem Xa.k{k}(e:H a=bj (.dK kvs))(hl:kvs.length<ky):Xa H a (kV k) v<|rO H a<|.dK<|DP kvs k v:=.inl (kvs,k,e,rfl,hl,rfl)
section
variable {σ:St}
def qt.big(I:qt X ou σ H s):lu<s.heap.objs.size:=by have h:kr<s.heap.objs.size:=(I.mod.glob.keeps I.bk).lt;show Nat.lt_trans ⋯ h
def WW(O:A.units+1<kP)(I:qt X ou σ H s)(g:K4 H a y<|bj v)(M:rS y u)(h:∀x s',qt X ou σ H s'->rS v x->Q x s') :
  kj (kg X.prog X.w) A (mU (.ref a) u) Q E s:=by
 rcases g with⟨B,k,e,G,l⟩|⟨B,k,b,e,G,P,l⟩
 .subst G;have(z,hd,R,n,J):=QM I.hok e;have(x,hw,t):=Du.some_of (v:=v) (o:=nj R k)<|by rw[l];show n.val k
  show wpAny_getItem_of (QK M) J.mapOf hw<|h x _ (I.tok _) t
 .subst G;cases(show u=ah b from M);have(z,hd,S,n,J):=QW I.hok e;have(x,hw,t):=Du.some_of (v:=v) (o:=(nP S k).map (·.2))<|by rw[l];show n.val k
  have(p,T,L):=oMq.mp hw;show wpAny_getItem_heap (mV O) (OQ I.hok P) J T ?_;rw[L];show h x _ (I.tok _) t
def afP(J:A.units+1<kP)(I:qt X ou σ H s)(g:K4 H a y o)(G:rS y u)(h:∀s',qt X ou σ H s'->Q (.bool<|!o.isSome) s') :
  kj (kg X.prog X.w) A (kX .NotIn u<|.ref a) Q E s:=by
 rcases g with⟨t,k,e,x,l⟩|⟨t,k,b,e,x,L,l⟩;.subst x;have(z,hd,M,n,B):=QM I.hok e;show wpAny_notIn_of (QK G) hd B.mapOf ?_;rw[← (n.val k).isSome_eq,←l];show h _<|I.tok _
 .subst x;cases(show u=ah b from G);have(z,hd,O,n,B):=QW I.hok e;show wpAny_notIn_heap (mV J) (OQ I.hok L) hd B ?_;have q:=(n.val k).isSome_eq;rw[gT]at q;rw[←q,←l];show h _<|I.tok _
def OZ(I:qt X ou σ H s)(mu:Mut<|H a)(n:fi a s.heap h')(t:∃q,h'.get? a=bj q)(new:tT X.prog X.w (rO H a l) h' a l) :
  qt X ou σ (rO H a l) { s with heap:=h',toks:=t' }:=I.write (x:=a) (e:=a) mu (.inl rfl) (λb q hb z=>(n.2 b hb).trans z) t new
def acO(z:kvs.length<=ky)(hd:(a == lu)=f_)(l:KV kvs vs)(dd:h'.DictOf (uR P w) a vs) :
  tT P w n h' a<|.dK kvs:=(z,hd,vs,l,dd)
def Xr(hu:A.units+1<kP)(I:qt X ou σ H s)(g:Xa H a y v P)(R:rS y u)(S:rS v r)(h:∀s',qt X ou σ P s'->Q () s') :
  kj (kg X.prog X.w) A (setItem (.ref a) u r) Q E s:=by
 rcases g with⟨n,k,e,G,l,J⟩|⟨n,k,b,e,G,T,l,J⟩
 .subst G J;have(z,hd,vs,t,L):=ahi I.hok e;have M:vs.length<=ky:=by rw[←t.length];show z
  have hl:(DP n k v).length<=ky:=by have:=D7 n k v;lia
  show wpAny_setItem_pairs (hsz:=M) (QK R) L λU x O=>h _ ?_;have he:∃q,U.get? a=bj q:=let ⟨q,_,_,B,_⟩:=x;(q,B);show OZ I (by rw[e];show True.intro) O he<|acO hl hd (t.put k S) x
 .subst G J;cases(show u=ah b from R);have(z,hd,xs,t,L):=ak2 I.hok e;have M:xs.length<=ky:=by rw[←Paired.length t];show z
  have hl:(DP n k v).length<=ky:=by have:=D7 n k v;lia
  show wpAny_setItem_heap (hsz:=M) (mV hu) (OQ I.hok T) L λU x O=>h _ ?_;have(q,es,ep,B,h2,h3,h4,_,h5):=x;show OZ I (by rw[e];show True.intro) O (q,B) (hl,hd,_,(t.put k T S).keeps λc ys Y=>?_,q,es,ep,B,h2,h3,h4,h5);rw[pB<|alT Y e<|λz=>nomatch z];show Y
end
def al4(i:Expr):Prop:=∀ov l,nR i f_ ov l=operate [ov,l] (mU ov l)
def ae9{id}
  (hl:kF (.type T) "__getitem__" = pure (bj<|.builtin id)) (J:al4 l)
  (h:kj (kg prog w) A (eval n env) (λo z=>kj (kg prog w) A (eval l env) (λi t=>t.TypeIs o T/\kj (kg prog w) A (mU o i) Q E t) E z) E s) :
  kj (kg prog w) A (eval (.Subscript n l pos) env) Q E s:=by
 show Subscript_<|kG h (λo z G=>kG G (λi t u=>?_) λZ Z x=>x) λZ Z x=>x;have(I,u):=u;unfold om;show ki ?_;rw[getitemInPython_of_ne I.not_modules];show ki<|nC I hl ?_;have fin:kj (kg prog w) A (nR l f_ o i) (λr B=>kj (kg prog w) A (letTemporaryGo n o r >>= λZ=>pure r) Q E B) E t:=by rw[J o i];show wpAny_operating<|kG u (λr B H=>ki<|wpAny_letTemporaryGo<|kA H) λZ Z x=>x
 first
  |show kA<|ki fin
  |show ki<|kA<|ki fin
  |show ki fin
def QP{σ:St}(I:qt X t σ H s)(g:K4 H a y o):s.TypeIs (.ref a) "dict" := by
 rcases g with⟨l,k,e,_,_⟩|⟨l,k,b,e,_,_,_⟩;.have(_,_,u,_,n):=QM I.hok e;show n.typeIs
 .have(_,_,x,_,n):=QW I.hok e;show n.typeIs
def aaX(n ty:TE):TE:=λσ H Q=>n σ H λx s=>ty σ s λy l=>∃a v,x = .ref a/\K4 l a y (bj v)/\Q v l
def PK(ty n:TE):TE:=λσ H Q=>ty σ H λy s=>n σ s λx l=>∃a o,x = .ref a/\K4 l a y o/\Q (.bl<|!o.isSome) l
def Zq(l ty n:TE):TS:=λD σ H=>n σ H λv s=>l σ s λx t=>ty σ t λy u=>∃a H4,x = .ref a/\Xa u a y v H4/\D.nx σ H4
def VJ(z:X.A.units+1<kP)(B:PE X o td)(hi:PE X i ty)(E:al4 i):PE X (.Subscript o i pos)<|aaX td ty:=by
 intro n s σ H Q I h;show ae9 PySem.F.slot_dict_getitem.lookup E<|uQ (B n s σ H _ I h) λu s1 o_=>?_;have(x,G,J,L,q1):=o_;show uQ (hi n s1 σ G _ J q1) λS s2 o_=>?_;have(y,M,t,O,a,v,ex,g,P):=o_;subst ex;obtain rfl:u=ah a:=L;show(QP t g,WW z t g O λT U R l=>(v,M,R,l,P))
def II(n:X.A.units+1<kP)(hi:PE X i ty)(t:PE X o td):PC X .NotIn i o<|PK ty td:=by
 intro l s σ H Q I h;show uQ (hi l s σ H _ I h) λP s1 o_=>?_;have(y,z,B,E,q1):=o_;show uQ (t l s1 σ z _ B q1) λu s2 o_=>?_;have(x,G,J,L,a,ov,ex,g,M):=o_;subst ex;obtain rfl:u=ah a:=L;show afP n J g E λR O=>(.bl<|!ov.isSome,G,O,rfl,M)
def OL(n:X.A.units+1<kP)(t:PE X o td)(hi:PE X i ty)(z:PE X value tv)(B:lS value (bj<|.Subscript o i pos') pos.line X.env=pure f_) :
  PS X (.Assign [.Subscript o i pos'] value pos)<|Zq td ty tv:=by
 intro l s σ H D I h;show wpAny_Assign_Subscript (uQ (z l s σ H _ I h) λr s1 o_=>?_) B;have(v,E,G,J,q1):=o_;show uQ (t l s1 σ E _ G q1) λu s2 o_=>?_;have(x,L,M,O,P):=o_;show uQ (hi l s2 σ L _ M P) λU Y o_=>?_;have(y,H3,Q,R,a,H4,ex,g,S):=o_;subst ex;obtain rfl:u=ah a:=O;show Xr n Q g R J λs4 T=>(σ,H4,T,S)
def Q1(h:Heap)(hb:lu<h.objs.size):tT P w H (h.push { cls:=.type "dict", data:=.dict #[] }) h.objs.size<|.dK []:=(aY _,beq_eq_false_iff_ne.mpr<|Ne.symm<|aB hb,[],.nil,Heap.DictOf.new h)
def abx:TE:=λZ H Q=>∀p,H p=n_->Q (.ref p) (rO H p<|.dK [])
def LM:PE X (.Dict [] [] pos) abx:=λl s σ H Q I h=>wpAny_Dict_empty (.ref s.heap.objs.size,_,I.laid (a:=s.heap.objs.size) (o:=.dK []) (t':=s.toks) (λZ Z q=>aa _ q) (ae _)<|Q1 s.heap I.big,rfl,h _<|I.hok.fresh<|ae _)
def P3:List (TE×TE)->St->Hp->(List (V×V)->Hp->Prop)->Prop
 | [],_,H,Q=>Q [] H
 | %[l|n]::r,σ,H,Q=>l σ H λx s=>n σ s λy t=>P3 r σ t λps u=>Q (%[x|y]::ps) u
abbrev VV:List (V×V)->List (Value×Value)->Prop:=Paired λp q=>rS p.1 q.1/\rS p.2 q.2
def PPs(X:Cx)(pos:Pos)(n:List<|Option Expr)(l:List Expr)(t:List<|TE×TE):Prop:=∀u s (σ:St) H Q,qt X u σ H s->P3 t σ H Q ->
  kj (kg X.prog X.w) X.A (evalPairs<|pairTrees n l X.env pos) (λvs s'=>∃ps x,qt X u σ x s'/\VV ps vs/\Q ps x) X.xe s
def afU:PPs X pos [] [] []:=λl s σ H Q I h=>pairTrees_nil_walk ([],H,I,.nil,h)
def YZ(hk:PE X k B)(G:PE X v E)(hr:PPs X pos z vs l) :
  PPs X pos (bj k::z) (v::vs)<|%[B|E]::l:=λn s σ H Q I h=>pairTrees_cons_walk (uQ (hk n s σ H _ I h) λu s1 ⟨x,J,L,M,q1⟩=>uQ (G n s1 σ J _ L q1) λw2 s2 ⟨y,O,P,R,S⟩=>uQ (hr n s2 σ O _ P S) λws s3 ⟨ps,T,U,t,Y⟩=>(%[x|y]::ps,T,U,.cons (M,R) t,Y))
def Io(kvs more:List<|rD×V):List<|rD×V:=more.foldl (λl n=>DP l n.1 n.2) kvs
def KV.merge:∀{more}{rs}{kvs}{vs},KV more rs->KV kvs vs->KV (Io kvs more) (merged vs rs):=by
 intro more rs kvs vs r;unfold KV at r;induction r generalizing kvs vs with
 |nil=>intro q;show q
 | @cons p q ps s h t l=>
  intro n;have e:KV (DP kvs p.1 p.2)<|stored vs q.1 q.2:=by have:=n.put p.1 h.2;rw[←h.1];show this
  show l e
theorem Fz:∀more kvs,(Io kvs more).length<=kvs.length+more.length
 | [],kvs=>by change kvs.length<=kvs.length+0;rfl'
 |p::r,kvs=>by have l:=Fz r<|DP kvs p.1 p.2;have n:=D7 kvs p.1 p.2;change(Io (DP kvs p.1 p.2) r).length<=_;simp only[lCq];lia
theorem Lb:∀{kvs}{l},VV (kvs.map λn=>%[kV n.1|n.2]) l->∃rs,Carries (uR P w) l rs/\KV kvs rs
 | [],_,r=>by rw[cL]at r;cases r;show([],True.intro,.nil)
 |p::kvs,_,r=>by rw[aq]at r;cases r with
  | @cons a b s bs h t=>have(rs,c,q):=Lb (P:=P) (w:=w) t;have(b1,b2):=b;show(%[p.1|b2]::rs,(QK h.1,rfl,c),.cons (rfl,h.2) q)
def ag5(l:List<|TE×TE):TE:=λσ H Q=>∀p,H p=n_->P3 l σ (rO H p<|.dK []) λps n=>n p=bj (.dK [])/\∃kvs:List (rD×V),ps=kvs.map (λs=>%[kV s.1|s.2])/\kvs.length<=15/\Q (.ref p) (rO n p<|.dK<|Io [] kvs)
def aeX(h:PPs X pos l n t)(u:l.all (·.isSome)=t_)(hl:l.length=n.length)(L:l≠[])
  (E:l.length<=15):PE X (.Dict l n pos)<|ag5 t:=by
 intro M s σ H Q I q;have hn:=I.hok.fresh<|ae s.heap.objs.size;have O:=I.laid (a:=s.heap.objs.size) (o:=.dK []) (h':=s.heap.push { cls:=.type "dict", data:=.dict #[] }) (t':=s.toks) (λZ Z q=>aa _ q) (ae _)<|Q1 s.heap I.big;show wpAny_Dict_walk (knd:=uR X.prog X.w) u hl L E<|uQ (h M _ σ _ _ O<|q _ hn) λws s2 o_=>?_;have(ps,H2,J,G,e,x,R,lk,S):=o_;subst R;have(T,c,U):=Lb (P:=X.prog) (w:=X.w) G;have(z,hd,Y,r0,dd):=ahi J.hok e;cases r0;show(T,c,dd,λh' B hs=>(.ref s.heap.objs.size,_,?_,rfl,S));have hz:(Io [] x).length<=ky:=by have h1:=Fz x [];rw[dJ]at h1;rw[kO];lia
 have he:∃q,h'.get? s.heap.objs.size=bj q:=let ⟨q,_,_,hq,_⟩:=B;(q,hq);show OZ J (by rw[e];show True.intro) hs he<|acO hz hd (U.merge .nil) B
def IsD(H:Hp)(a:Addr):Prop:=(∃kvs,Rd H a<|.dK kvs)∨∃kvs,Rd H a<|.dT kvs
def aiC{σ:St}(I:qt X z σ H s)(d:IsD H a) :
  s.TypeIs (.ref a) "dict" /\ (∀b,ah a = .ref b->∃l,s.heap.get? b=bj l/\l.dict=n_)/\(a == lu)=f_:=by
 rcases d with⟨t,e⟩|⟨t,e⟩
 .have(_,hd,B,_,n):=QM I.hok e;show(n.typeIs,λb q=>?_,hd);cases q;have(l,_,_,u,x,_):=n;show(l,u,x.2.1)
 .have(_,hd,E,_,n):=QW I.hok e;show(n.typeIs,λb q=>?_,hd);cases q;have(l,_,_,u,x,_):=n;show(l,u,x.2.1)
end L2
namespace Att
open PySem PySem.W PySem.Calls PyProof.Rows
def JA:∀(ns:Ϝ) (vs:Ξ),WellAll P h vs (ns.map WData.int)->lj vs ns:=by
 intro ns;induction ns with
 |nil=>intro vs w;rw[cL]at w;cases w;show .nil
 |cons n ns l=>intro vs w;rw[aq]at w;cases w with
  |cons a b=>cases a;show .cons _ _<|l _ b
def Ym{l:OpenLaw}(hn:l.most=bj n){s:Ξ}
  (t:l.row.toRowW.claim.pre args=t_) (E:WellAll P h s args) :
  ∃a vs ns,s=[ah a]/\args=[WData.list<|ns.map WData.int]/\h.get? a=bj { cls:=.type "list", data:=.seq vs.toArray }/\lj vs ns/\ns.length<=n:=by
 have G:WShape.hasAll [] args [.list .int]=t_:=(pre_splitW t).1;have H:l.pre.holds [] { args:=args }=t_:=(pre_splitW t).2;have(d,r,rfl,I,J):=hasAllW_cons G;obtain rfl:=hasAllW_nil J;have(S,rfl,L):=hasW_list I;have(ns,rfl):=items_int L;have u:ns.length<=n:=by
  unfold OpenLaw.pre at H;have z:(WTm.not<|.lt (.lit<|.int (n:Int))<|.len<|.arg 0).holds [] { args:=[.list<|ns.map .int] }=t_:=by have z:=(holds_andW H).1;rw[hn]at z;show z
  have B:=condW_of z<|w_not<|w_lt w_lit<|w_len_list<|w_arg rfl;rw[lMq]at B;show jy λq=>?_;have M:(n:Int)<((ns.length:Nat):Int):=by omega
  first
   | (rw[d0 M]at B;show absurd B ⋯)
   | (rfl;lia)
 cases E with
 |cons O Q=>cases Q;cases O with
  |list R x=>show(_,_,ns,rfl,rfl,R,JA ns _ x,u)
def W5(l:OpenLaw)args:l.row.toRowW.claim.post args (.bool t_) args=t_:=postW_of (r:=l.row.toRowW) (X:=(t_ == t_))
  (show WShape.has [] (.bool t_) .bool=t_ by first|rfl|rfl|rfl)
  (show(WTm.eq .res<|.lit<|.bool t_).value [] { args:=args,res:=bj (.bool t_),after:=args }=bj (.bool<|t_ == t_)from w_eq_bool (w_res rfl) w_lit) rfl
def Qm{l:OpenLaw}{P:(Str->Υ)->Heap->Prop}
  (hn:l.most=bj n) (I:d.params.defaults=[])
  (call:∀w s₀ s (mg J:Str->Υ) fa o pm H u a (vs:Ξ) (ns:Ϝ),
   Ground q t [] P w s₀ mg J s.heap->Q w s.heap ->
   s.heap.get? fa=bj o->o.data = .func (docDef d.name d.params d.body d.scope pm H u)->s.heap.CodeRec H d.name->mg d.name=bj (.ref fa) ->
   s.heap.get? a=bj { cls:=.type "list", data:=.seq vs.toArray }->lj vs ns->ns.length<=n->s.gens=#[] ->
   lH (kg l.prog w) nq (.call (.ref fa) ([.ref a],[])) (λr s'=>r = .ok (.ret<|.bool t_)/\OldK s.heap s'.heap/\s'.os=s.os/\mz s'.gens) s) :
  WalkO q t P Q l.row.toRowW d []<|λf vs=>PySem.call f vs:=by
 intro w s₀ s mg J G Y fa o pm H u X kV ho hd L R M hg S T as z U hrd O hlo;obtain rfl:X = .none:=Dflts.none R I;obtain rfl:kV = .none:=Dflts.noKw R;have(a,vs,ns,rfl,rfl,B,x,E):=Ym hn z O;show enter_call<|lK (call w s₀ s mg J fa o pm H u a vs ns G Y ho (fd_plain hd) L M B x E hg) λr s' hq=>?_;have(rfl,h2,h3,h4):=hq;show(.inl (.bool t_,.bool t_,[],rfl,λZ=>rfl,.bool t_,W5 l _,λZ=>(bD.nil,λZ hm=>(nomatch hm))),h2,h3,h4)
end Att
namespace L2
open PySem PySem.Spec PyProof.Rows
theorem vals_ints:∀{vs:Ξ}{ns:Ϝ},lj vs ns->qS (ns.map V.int) vs
 |_,_,.nil=>.nil
 |_,_,.cons n t h=>.cons (t,rfl)<|vals_ints h
def ajo(H:Hp):Prop:=∀b,H b=n_∨∃o xs,H b=bj (.frz o<|.lst xs)
def aci{K}{mg T:Str->Υ}{vs:Ξ}{ns:Ϝ}
  (KX:K.In l.heap) (I:l.heap.Ns kr mg) (hb:l.heap.Ns builtinsNs T) (U:∀x:Str,x ≠ "__name__" -> T x=lO x) (J:l.heap.NoLimit) (hg:l.gens=#[])
  (ha:l.heap.get? a=bj { cls:=.type "list", data:=.seq vs.toArray }) (hi:lj vs ns) (hl:ns.length<=ky) (hr:um k nq)
  (F:∀base:Heap,K.In base->base.Ns kr mg->zD P w K mg base CX k fa fd [x] sp) (G:∀s u,nr s fd ([u],[]) [%[x|u]])
  (X:∀H:Hp,ajo H->vk K H a (ns.map V.int)->sp [.ref a] H (λv Z=>v = .bl t_) λZ Z Z=>False)
  (Y:∀H e s',CX [] H l (λZ Z Z=>False) e s'->False) :
  lH (kg P w) nq (.call (.ref fa) ([.ref a],[])) (λr s'=>r = .ok (.ret<|.bool t_)/\OldK l.heap s'.heap/\s'.os=l.os/\mz s'.gens) l:=by
 have rv:=vals_ints hi;have L:=hi.length;have E:∀H:Hp,ajo H->vk K H a (ns.map V.int)->Dw P w H l.heap->(∀b,H b≠n_->b=a)->(H a≠n_->K.lookup a=n_) ->
   lH (kg P w) nq (.call (.ref fa) ([.ref a],[])) (λr s'=>r = .ok (.ret<|.bool t_)/\OldK l.heap s'.heap/\s'.os=l.os/\mz s'.gens) l:=by
  intro H hO hS hok hA hK;have t:∀{b:Addr}{o:Obj},l.heap.get? b=bj o->H b=n_->(O2 l.heap H).get? b=bj o:=λe n=>Y3 e n;have noA:∀{b:Addr}{o:Obj}{M:Array DictEntry}{O:Nat},l.heap.get? b=bj o->o.data = .dict M O->H b=n_:=λ{b o M O} e d=>by cases q:H b with
   |none=>rfl
   |some u=>
    have e':b=a:=hA b<|by rw[q];simp
    subst e';rw[ha]at e;cases e;have d':Data.seq vs.toArray _=Data.dict M O:=d;cases d'
  have B:∀{b:Addr}{m:Str->Υ},l.heap.Ns b m->(O2 l.heap H).Ns b m:=λ{b m} ⟨o,M,O,e,d,r⟩=>(o,M,O,t e<|noA e d,d,r);have Q:K.In<|O2 l.heap H:=λb o e=>t (KX b o e) (by cases q:H b with
   |none=>rfl
   |some u=>
    have e':b=a:=hA b<|by rw[q];simp
    subst e';rw[hK<|by rw[q];simp]at e;cases e);have hM:Mod K mg<|O2 l.heap H:=(Q,B I,(T,B hb,U),let ⟨mc,h1,h2⟩:=J;(mc,B h1,h2));have e0:Oi P w K mg (O2 l.heap H) nq [] l H:=(rfl,hM,λb o e=>ael e,fj<|Yh _ _,trivial,λb hb=>absurd (show b∈([]:Δ)from hb) ⋯,hok,.of_eq hg);show lK ((F _ Q<|B I).run nq [] l H ([.ref a],[]) [.ref a] [.ref a] _ _ hr e0 (G l<|.ref a) (.cons rfl .nil)<|X H hO hS) λr s' h=>?_;cases r with
  |error e=>show(Y H e s' h).elim
  |ok fl=>cases fl with
   |next=>show False.elim h
   |brk=>show False.elim h
   |cont=>show False.elim h
   |ret u=>
    have(v,H',os,bare,un,R,r',q):=h;have q':v = .bl t_:=q;subst q';obtain rfl:u=iX t_:=r';show(rfl,OldK.of_keep λb o e=>?_,os,bare);cases q:H b with
    |none=>show un.keep b o e q (by intro z;show absurd (show b∈([]:Δ)from z) ⋯) ⋯
    |some u=>
     rcases hO b with z|⟨ob,xs,z⟩;.rw[q]at z;cases z
     .have z2:=un.frzs b ob _ z;have(e1,_):=hok b _ z;have(e2,_):=R b _ z2;rw[e]at e1;cases e1;show e2
 cases hk:K.lookup a with
 |some o=>have e:=KX a o hk;rw[ha]at e;cases e;show E (λZ=>n_) (λZ=>.inl rfl) (.inr (_,vs.toArray,_,hk,rfl,rfl,rfl,by rw[ao,L];show hl,by show rv)) (λb u z=>by have S:(n_:Option HO)=bj u:=z;cases S) (λb z=>absurd rfl z) λz=>absurd rfl z
 |none=>
  show E (λb=>if b=a then bj (.frz { cls:=.type "list", data:=.seq vs.toArray }<|.lst<|ns.map V.int)else n_) (λb=>?_) (.inl<|.inr ({ cls:=.type "list", data:=.seq vs.toArray },qF rfl)) (λb u z=>?_) (λb z=>?_) λZ=>hk
  .by_cases hb:b=a;.show .inr (_,_,qF hb)
   .show .inl<|qL hb
  .by_cases hb:b=a;.have S:=(qF hb).symm.trans z;cases S;cases hb;show(ha,by rw[lMq];show hl,vs,_,rv,ha)
   .have S:=(qL hb).symm.trans z;cases S
  .by_cases hb:b=a;.show hb
   .show absurd (qL hb) z
def adF{l:W.OpenLaw}{S:(Str->Υ)->Heap->Prop}{K:Params->Ζ}{CX:kB->QX}{sp:kB->Sp}
  (hn:l.most=bj n) (J:n<=ky) (L:d.params.defaults=[]) (hr:um k nq)
  (T:∀w h,Q w h->(K w.params).In h)
  (F:∀w (mg:Str->Υ) fa h,(K w.params).In h->h.Ns kr mg->mg d.name=bj (.ref fa) ->
   ∃fd:kz,(∀s u,nr s fd ([u],[]) [%[x|u]]) /\
    ∀base:Heap,(K w.params).In base->base.Ns kr mg->zD l.prog w (K w.params) mg base (CX w) k fa fd [x] (sp w))
  (M:∀w H a (ns:Ϝ),ns.length<=n->ajo H->vk (K w.params) H a (ns.map V.int)->sp w [.ref a] H (λv Z=>v = .bl t_) λZ Z Z=>False)
  (O:∀w H s e s',CX w [] H s (λZ Z Z=>False) e s'->False) :
  W.WalkO q z S Q l.row.toRowW d []<|λf vs=>PySem.call f vs:=by
 show Att.Qm hn L λw s₀ E mg mb fa o pm cd U a vs ns G Y ho hd X P I B t hg=>?_;have R:=T w _ Y;have(fd,hb,hF):=F w mg fa _ R G.T.g P;show aci R G.T.g G.T.b G.T.builtins G.T.nolimit hg I B (bh t J) hr hF hb (λH hO hS=>M w H a ns t hO hS) λH e s'=>O w H E e s'
noncomputable def vg(s:Stmt):Arguments:=match s with
 | .FunctionDef _ a _ _ _ _ _ _ _ _=>a
 |_=>{ posonlyargs:=[],args:=[],vararg:=n_,kwonlyargs:=[],kw_defaults:=[],kwarg:=n_,defaults:=[] }
noncomputable def tH(s:Stmt):List Stmt:=match s with
 | .FunctionDef _ _ b _ _ _ _ _ _ _=>b
 |_=>[]
noncomputable def oI(s:Stmt):lz:=match s with
 | .FunctionDef _ _ _ _ _ _ sc _ _ _=>sc
 |_=>{ kind:=.function,names:=[],isGenerator:=f_,isCoroutine:=f_ }
abbrev Rl:QX:=λQ Q Q Q Q Q=>False
abbrev E0:XK:=λQ Q Q=>False
def Vp:yX Rl X E0:=λQ Q Q Q Q Q Q h=>h.elim
structure Bg (K:Ζ)(x qual:Str)(st:Stmt)(f:Addr)(fd:kz):Prop where
 ex:∃(oc:Value) (od:Option Addr) (kV doc pm:Value) (an:Option Addr) (vx ct:Value) (osl:Array Υ),
  fd=W.fnOf x qual (vg st) (tH st) (oI st) .none kV doc pm an vx ct/\K.lookup f=bj (oc,od,.func fd,osl)/\W.codeIn K vx qual=t_
 kp:W.keepIn K (.ref f)=t_
section
variable {K:Ζ}
def Bg.ok{st}(F:Bg K x l st f fd)(S:oU N ps<|oI st)(len:∀vs H Q E,sp vs H Q E->vs.length=ps.length)
  (n:∀u A outer s H vs Q E,um k (A.deeper<|kJ l (oI st) s.heap.objs.size f u)->sp vs H Q E ->
   ∃t,LY (Ie Rl P w K mg base N l (oI st) f u A outer s H E).nox (tH st) t/\t { nx:=λZ G=>Q .non G,rt:=Q } (wc N vs) H):zD P w K mg base Rl (k+1) f fd ps sp:=by
 have(L,M,kV,I,pm,O,u,ct,J,rfl,lk,z):=F.ex;show ahg lk z S len λA outer s H vs Q E hr B=>?_;have(t,h,q):=n u A outer s H vs Q E hr B;show(t,h.nox,q)
def Bg.binds{st}(F:Bg K x l st f fd)
  (h:∀kV n pm s t ct (us:Ξ),us.length=ps.length->bindArgs (W.fnOf x l (vg st) (tH st) (oI st) .none kV n pm s t ct) (us,[])=pure (ps.zip us)):rF K fd ps []:=by have(B,E,kV,n,pm,s,t,ct,u,rfl,lk,z):=F.ex;show .all<|h kV n pm s t ct
def xg{st}{t:Array Υ}{kV}(l:K.lookup f=bj (B,od,.func<|W.fnOf x n (vg st) (tH st) (oI st) .none kV s pm z u ct,t))
  (c:W.codeIn K u n=t_) (k:W.keepIn K (.ref f)=t_):Bg K x n st f<|W.fnOf x n (vg st) (tH st) (oI st) .none kV s pm z u ct:=((B,od,kV,s,pm,z,u,ct,t,rfl,l,c),k)
end
def M3(hr:um k A):A.units+1<kP:=Nat.lt_of_le_of_lt (iY (by decide:1<=64) _) hr.units
def pv i(n:↑(X.N[i]?=bj x))(s:↥(Vis X.env.scope x))(hd:⇑((x == ("__debug__" : Str))=f_))
  (l:⇑((x == ("__classdict__" : Str))=f_)):PE X (.Name x pos)<|xF i:=ahM n s hd l
def Rv{A:Prop}(h:B):if f_=t_ then A else B:=by rw[qL aE];show h
def UC{A:Prop}(h:A):if t_=t_ then A else B:=by rw[qF rfl];show h
def rB(H l:Hp):Prop:=∀b o,H b=bj o->l b=bj o
def rB.refl H:rB H H:=λQ Q h=>h
def rB.trans(a:rB H l)(b:rB l n):rB H n:=λc o h=>b c o<|a c o h
def rB.free(e:rB H n)(h:n l=jW):H l=jW:=by cases q:H l with
 |none=>rfl
 |some o=>rw[e l o q]at h;cases h
def rB.seq{K}(e:rB H l)(h:vk K H a xs):vk K l a xs:=by
 rcases h with(h|⟨o,h⟩)|h;.show .inl<|.inl<|e _ _ h
 .show .inl<|.inr (o,e _ _ h)
 .show .inr h
end L2
namespace Mr
noncomputable def cell(ns:Ϝ)(k:Nat):Int:=ns.getD k 0
noncomputable def sD(ns:Ϝ):Nat->Nat
 |0=>0
 |k+1=>if ns.getD k 0<ns.getD (sD ns k) 0 then k else sD ns k
noncomputable def rot(ns:Ϝ)(i:Nat):Ϝ:=ns.drop i++ns.take i
def good(ns:Ϝ):Ϝ:=rot ns<|sD ns ns.length
theorem zO ns:∀n,(0<n->sD ns n<n)/\(∀j,j<n->ns.getD (sD ns n) 0<=ns.getD j 0)/\(∀j,j<sD ns n->ns.getD (sD ns n) 0<ns.getD j 0)
 |0=>(λh=>absurd h<|du _,λj h=>absurd h<|dN _,λj h=>absurd h<|dN _)
 |n+1=>by
  have(t,s,u):=zO ns n;simp only[sD];by_cases c:ns.getD n 0<ns.getD (sD ns n) 0
  .rw[qF c];show(λQ=>dA n,λj l=>?_,λj l=>?_)
   .rcases eZ (jq l)with q|q;.have:=s j q;lia
    .subst q;show gO _
   .have:=s j l;rfl'
  .rw[qL c];show(λQ=>?_,λj l=>?_,u)
   .by_cases hn:0<n;.show dk<|t hn
    .have:n=0:=by lia
     subst this;show dA 0
   .rcases eZ (jq l)with q|q;.show s j q
    .subst q;rfl'
def Kx ns:sD ns ns.length<=ns.length:=by
 by_cases h:0<ns.length;.show bZ<|(zO ns ns.length).1 h
 .have:ns.length=0:=by lia
  rw[this];show ae 0
def A8{ns:Ϝ}h:ns.getD j 0=ns[j]:=by rw[gDq,gEg h];rfl
def D1(hm:M∈ns)(hl:∀a,a∈ns->M<=a):ns.idxOf M=sD ns ns.length:=by
 have s:=iB hm;have(l,t,u):=zO ns ns.length;have l:=l s;have hi:=dc.mpr hm;have e:ns.getD (ns.idxOf M) 0=M:=by rw[A8 hi];show ff hi
 have n:ns.getD (sD ns ns.length) 0=M:=by
  have q1:=t _ hi;have x:=hl _ (by rw[A8 l];show gRq l:ns.getD (sD ns ns.length) 0∈ns);lia
 rcases jr (ns.idxOf M) (sD ns ns.length)with q|q|q;.have:=u _ q;lia
 .show q
 .have:=iC (p:=(· == M))<|by show q
  rw[A8 l]at n;simp[n]at this
def good_nil:good []=[]:=rfl
def S9(ns)i:(rot ns i).length=ns.length:=by unfold rot;rw[lAq,au,lTq];lia
def IT ns:(good ns).length=ns.length:=S9 _ _
def step(ns:Ϝ):Int:=if 0<cell ns 0 % 3 then cell ns 0 % 10 ^ 40+1 else 1
def alH(ns:Ϝ):Int:=if 0<cell ns 1 % 3 then cell ns 1 % 10 ^ 40 else 0
def ahl(ns:Ϝ)(k:Int):Int:=step ns*(((1+cell ns 1 / 3 % 66)*k+cell ns 0 / 3 % 67) % 67+1)+alH ns
def api(ns:Ϝ)(k:Int):Int:=if cell ns 1 % 5=4 then 10 ^ 60-ahl ns k else ahl ns k
def FR{B:Ϝ}(h:∀x,x∈A->m<x)(l:∀x,x∈B->m<=x):good (A++m::B)=m::B++A:=by
 have hm:m∈A++m::B:=by simp
 have hl:∀a,a∈A++m::B->m<=a:=λa ha=>by
  rcases mAq.mp ha with q|q;.show gv<|h a q
  .rcases ag.mp q with rfl|q;.show gO _
   .show l a q
 have e:=D1 hm hl;have n:(A++m::B).idxOf m=A.length:=by rw[gU,qL<|λq=>absurd (h m q)<|Int.lt_irrefl m,fZ,cO]
 unfold good rot;rw[←e,n,List.drop_left,jH]
def Qt{t:Ϝ}(s:t≠[])(hn:t.Nodup):∃A m B,t=A++m::B/\(∀x,x∈A->m<x)/\∀x,x∈B->m<x:=by
 have hl:=eW.mpr s;have(l,u,z):=zO t t.length;have l:=l hl;show(t.take<|sD t t.length,t[sD t t.length],t.drop<|sD t t.length+1,?_,?_,?_);.rw[←aS l,aZ]
 .intro x n;have(j,E,rfl):=List.mem_take_iff_getElem.mp n;have:=z j ∅;rw[A8 l,A8 ∅]at this;show this
 .intro x n;have(j,E,rfl):=List.mem_drop_iff_getElem.mp n;have a:=u (sD t t.length+1+j) ∅;rw[A8 l,A8 ∅]at a;have ne:t[sD t t.length]≠t[sD t t.length+1+j]:=cT.mp hn _ _ l ∅<|by rfl'
  lia
def Qp(hn:t.Nodup)i:good (rot t i)=good t:=by
 by_cases s:t=[];.subst s;simp[rot]
 .have(A,m,B,rfl,l,n):=Qt s hn;rw[FR l<|λx q=>gv<|n x q];by_cases c:i<=A.length
  .have e:rot (A++m::B) i=A.drop i++m::(B++A.take i):=by unfold rot;rw[gf c,gh c];simp
   rw[e,FR (λx q=>l x<|bC q)<|λx q=>?_];.simp
   .rcases mAq.mp q with q|q;.show gv<|n x q
    .show gv<|l x<|bg q
  .obtain⟨j,rfl⟩:∃j,i=A.length+(j+1):=(i-A.length-1,by omega);have e:rot (A++m::B) (A.length+(j+1))=(B.drop j++A)++m::B.take j:=by unfold rot;rw[List.take_append];simp[cJ,bJ]
   rw[e,FR (λx q=>?_)<|λx q=>gv<|n x<|bg q];.rw[hW,hW,←ak,aZ]
   .rcases mAq.mp q with q|q;.show n x<|bC q
    .show l x q
def rot_perm(t)i:(rot t i).Perm t:=by show cu.trans<|by rw[aZ]
def BC t:(good t).Perm t:=rot_perm t _
def HP{rs n:Λ}(h:rs.Perm n):rs.flatten.Perm n.flatten:=by induction h with
 |nil=>show .refl _
 |cons x _ s=>show bS.append (.refl x) s
 |swap x y l=>rw[fCq,fCq,fCq,fCq,←ak,←ak];show bS.append cu<|.refl _
 |trans _ _ a b=>show a.trans b
theorem yR{f:Ϝ->Ϝ}(l:∀r,(f r).Perm r):∀rs:Λ,(rs.map f).flatten.Perm rs.flatten
 | []=>.refl _
 |r::rs=>by show bS.append (l r)<|yR l rs
def YT{rs:Λ}{r:Ϝ}(h:rs.flatten.Nodup)(hr:r∈rs):r.Nodup:=bD.sublist (aN hr) h
def Ck{rs:Λ}{r:Ϝ}(hr:r∈rs):r.length<=rs.flatten.length:=(aN hr).length_le
def VM:∀t:Fin 66,∀d:Fin 67,0<d.val->(t.val+1)*d.val % 67≠0:=by trivial
end Mr
namespace MrS
open PySem PyProof.Rows
noncomputable def Bc:Bool->kf->Array kf->Nat->Nat->Nat->StateT SortSt Sem (Option Nat):=sortPriv% PySem.Builtin.gallop
structure Ff (prog:kx)(w:kB)(A:Around)(s:ke)(κ:lg)(P:kf->Prop)(lt:kf->kf->Bool):Prop where
 ask:∀x y,P x->P y->∀(E:Value->ke->Prop) (Q:Bool->ke->Prop),Q (lt x y) s->kj (kg prog w) A (keyLt' κ x.1 y.1) Q E s
 asym:∀x y,P x->P y->lt x y=t_->lt y x=f_
 trans:∀x y z,P x->P y->P z->lt y x=f_->lt z y=f_->lt z x=f_
def Ff.refl(C:Ff prog w A s κ P lt)(l:P x):lt x x=f_:=by cases e:lt x x with
 |false=>rfl
 |true=>rw[←C.asym x x l l e,e]
def Ff.cmp(C:Ff prog w A s κ P lt){st}(l:P x)(n:P y)(hk:kindOf st=κ)(h:Q (bj<|lt x y) st) :
  wpS (kg prog w) A E s (lt' x y) Q st:=by rw[lt'_eq];show km<|mq ?_;rw[hk];show km<|wpS_lift<|wpAny_attempt<|C.ask x y l n _ _ (rfl,?_);show ko h
def si{st}(l:arr[i]?=bj x)(h:Q x st):wpS (kg prog w) A E s (ly arr i) Q st:=by rw[elem'_eq,l];show ko h
def Ff.at(C:Ff prog w A s κ P lt){st}(hi:(kE st)[i]?=bj x)(l:(kE st)[j]?=bj y)(n:P x)(t:P y)(hk:kindOf st=κ)(h:Q (bj<|lt x y) st) :
  wpS (kg prog w) A E s (ltAt' i j) Q st:=by show km<|mq ?_;show km<|si hi<|km<|si l<|C.cmp n t hk h
noncomputable def CJ(lt:kf->kf->Bool)(left:Bool)(key:kf)(arr:Array kf)(base i:Nat):Bool:=if left then lt (arr.getD (base+i) key) key else !lt key (arr.getD (base+i) key)
def Tb(left)key arr base n l:Bc left key arr base n l=(do
 let B i:StateT SortSt Sem<|Option Bool:=do
  let x ←ly arr (base+i)
  if left then lt' x key else return (←lt' key x).map (!·)
 let mut t:=0
 let mut z:=1
 let mut lo:=0
 let mut hi:=0
 let bj right ←B l|return n_
 if right then
  let u:=n-l
  for _ in [0:n]do
   if z ≥ u then break
   let bj more ←B (l+z)|return n_
   if !more then break
   t:=z
   z:=2*z+1
  lo:=l+t+1
  hi:=l+min z u
 else
  let u:=l+1
  for _ in [0:n]do
   if z ≥ u then break
   let bj found ←B (l-z)|return n_
   if found then break
   t:=z
   z:=2*z+1
  lo:=l+1-min z u
  hi:=l-t
 for _ in [0:n]do
  if lo ≥ hi then break
  let m:=lo+(hi-lo) / 2
  let bj more ←B m|return n_
  if more then lo:=m+1 else hi:=m
 return bj hi):=rfl
def As(C:Ff prog w A s κ P lt){st}(hi:base+i<arr.size)(ha:∀x,x∈arr->P x)(l:P key)(hk:kindOf st=κ)
  (h:Q (bj<|CJ lt left key arr base i) st):wpS (kg prog w) A E s (do
   let x ←ly arr (base+i)
   if left=t_ then lt' x key else do
    let n ←lt' key x
    pure (n.map (!·))) Q st:=by
 have e:=af hi;have e2:arr.getD (base+i) key=arr[base+i]:=by simp[iZ,hi]
 show km<|si e ?_;have t:=ha _<|bu hi;unfold CJ at h;rw[e2]at h;cases left with
 |true=>show C.cmp t l hk h
 |false=>show km<|C.cmp l t hk<|ko h
def Jc{lo}{st:SortSt}
  (mono:∀i j,i<=j->j<n->CJ lt left key arr base j=t_->CJ lt left key arr base i=t_)
  (x:∀i j,i<=j->j<n->CJ lt left key arr base i=f_->CJ lt left key arr base j=f_)
  (M:∀i l u B,u<=n->(u<=l->B (.done %[n_|%[l|u]]) st)->(l<u->CJ lt left key arr base (l+(u-l) / 2)=t_->B (.yield %[n_|%[l+(u-l) / 2+1|u]]) st) ->
   (l<u->CJ lt left key arr base (l+(u-l) / 2)=f_->B (.yield %[n_|%[l|l+(u-l) / 2]]) st)->wpS (kg prog w) A E s (f i %[n_|%[l|u]]) B st)
  (O:lo<=hi) (Q:hi<=n) (R:∀j,j<lo->CJ lt left key arr base j=t_) (S:∀j,hi<=j->j<n->CJ lt left key arr base j=f_) :
  wpS (kg prog w) A E s (forIn [:n] (%[n_|%[lo|hi]]:Option (Option Nat)×Nat×Nat) f)
   (λc t=>∃k,c=%[n_|%[k|k]]/\t=st/\k<=n/\(∀j,j<k->CJ lt left key arr base j=t_)/\(∀j,k<=j->j<n->CJ lt left key arr base j=f_)) st:=by
 show kS
  (I:=λi c t=>∃l u,c=%[n_|%[l|u]]/\t=st/\l<=u/\u<=n/\(∀j,j<l->CJ lt left key arr base j=t_)/\(∀j,u<=j->j<n->CJ lt left key arr base j=f_)/\(u-l)+i<=n)
  ?step ?fin (lo,hi,rfl,rfl,O,Q,R,S,by lia);case step=>
  rintro i c t _ T ⟨l,u,rfl,rfl,U,z,G,H,X⟩;show M i l u _ z (λJ=>?_) (λJ e=>?_)<|λJ e=>?_
  .have e:l=u:=by rfl'
   subst e;show(l,rfl,rfl,z,G,H)
  .show(_,u,rfl,rfl,by lia,z,λj L=>mono j _ (by rfl') ∅ e,H,by lia)
  .show(l,_,rfl,rfl,by rfl',by lia,G,λj L hn=>x _ j L hn e,by lia)
 case fin=>
  rintro c t ⟨l,u,rfl,rfl,U,z,G,H,X⟩;have e:l=u:=by lia
  subst e;show(l,rfl,rfl,z,G,H)
def yV(C:Ff prog w A s κ P lt){st}(hh:t<n)(hb:base+n<=arr.size)(ha:∀x,x∈arr->P x)(z:P key)(hk:kindOf st=κ)
  (mono:∀i j,i<=j->j<n->CJ lt left key arr base j=t_->CJ lt left key arr base i=t_)
  (h:∀k,k<=n->(∀j,j<k->CJ lt left key arr base j=t_)->(∀j,k<=j->j<n->CJ lt left key arr base j=f_)->Q (bj k) st) :
  wpS (kg prog w) A E s (Bc left key arr base n t) Q st:=by
 have G:∀i j,i<=j->j<n->CJ lt left key arr base i=f_->CJ lt left key arr base j=f_:=λi j T R e=>by cases q:CJ lt left key arr base j with
  |false=>rfl
  |true=>rw[mono i j T R q]at e;cases e
 rw[Tb];dsimp only;show km<|As C (base:=base) (i:=t) ∅ ha z hk ?_;cases er:CJ lt left key arr base t with
 |true=>
  dsimp only;rw[qF rfl];show km (kT (kS
   (I:=λi c u=>∃l o,c=%[n_|%[l|o]]/\u=st/\l<o/\i+1<=o/\t+l<n/\CJ lt left key arr base (t+l)=t_)
   (Q:=λc u=>∃l o,c=%[n_|%[l|o]]/\u=st/\l<o/\t+l<n/\CJ lt left key arr base (t+l)=t_/\(n-t<=o∨(t+o<n/\CJ lt left key arr base (t+o)=f_)))
   ?step ?fin (0,1,rfl,rfl,by lia,by lia,by rfl',er)) ?post);case step=>
   rintro i c u _ U ⟨l,o,rfl,rfl,L,X,J,H⟩;dsimp only;by_cases B:o ≥ n-t;.rw[qF B];show ko (l,o,rfl,rfl,L,J,H,.inl B)
   .rw[qL B];show km<|As C (base:=base) (i:=t+o) ∅ ha z hk ?_;cases e:CJ lt left key arr base (t+o)with
    |true=>
     dsimp only;rw[qL ⋯];show ko (o,_,rfl,rfl,by lia,by lia,by lia,e)
    |false=>
     dsimp only;rw[qF<|by rfl];show ko (l,o,rfl,rfl,L,J,H,.inr (by lia,e))
  case fin=>rintro c u ⟨l,o,rfl,rfl,L,X,J,H⟩;show(l,o,rfl,rfl,L,J,H,.inl ∅)
  case post=>
   rintro c u ⟨l,o,rfl,rfl,L,J,H,O⟩;dsimp only;show km<|kT (Jc (lt:=lt) (left:=left) (key:=key) (arr:=arr) (base:=base) mono G (λi M S Q' hu q1 Y q3=>?_) (by omega) (by omega) (λj R=>mono j _ (by rfl') J H) ?_) ?_
   .dsimp only;by_cases B:M ≥ S;.rw[qF B];show ko<|q1 B
    .rw[qL B];show km<|As C (base:=base) (i:=M+(S-M) / 2) ∅ ha z hk ?_;cases e:CJ lt left key arr base<|M+(S-M) / 2with
     |true=>dsimp only;rw[qF rfl];show ko<|Y ∅ e
     |false=>
      dsimp only;rw[qL ⋯];show ko<|q3 ∅ e
   .intro j R hn;rcases O with O|⟨O,a6⟩;.lia
    .show G (t+o) j ∅ hn a6
   .rintro c u ⟨k,rfl,rfl,k1,k2,k3⟩;show ko<|h k k1 k2 k3
 |false=>
  dsimp only;rw[qL ⋯];show km (kT (kS
   (I:=λi c u=>∃l o,c=%[n_|%[l|o]]/\u=st/\l<o/\i+1<=o/\l<=t/\CJ lt left key arr base (t-l)=f_)
   (Q:=λc u=>∃l o,c=%[n_|%[l|o]]/\u=st/\l<o/\l<=t/\CJ lt left key arr base (t-l)=f_/\(t+1<=o∨(o<=t/\CJ lt left key arr base (t-o)=t_)))
   ?step ?fin (0,1,rfl,rfl,by lia,by lia,by rfl',er)) ?post);case step=>
   rintro i c u _ U ⟨l,o,rfl,rfl,L,X,J,H⟩;dsimp only;by_cases B:o ≥ t+1;.rw[qF B];show ko (l,o,rfl,rfl,L,J,H,.inl B)
   .rw[qL B];show km<|As C (base:=base) (i:=t-o) ∅ ha z hk ?_;cases e:CJ lt left key arr base (t-o)with
    |true=>dsimp only;rw[qF rfl];show ko (l,o,rfl,rfl,L,J,H,.inr (by lia,e))
    |false=>
     dsimp only;rw[qL ⋯];show ko (o,_,rfl,rfl,by lia,by lia,by lia,e)
  case fin=>rintro c u ⟨l,o,rfl,rfl,L,X,J,H⟩;show(l,o,rfl,rfl,L,J,H,.inl ∅)
  case post=>
   rintro c u ⟨l,o,rfl,rfl,L,J,H,O⟩;dsimp only;show km<|kT (Jc (lt:=lt) (left:=left) (key:=key) (arr:=arr) (base:=base) mono G (λi M S Q' hu q1 Y q3=>?_) (by omega) ∅ ?_<|λj R hn=>G _ j R hn H) ?_
   .dsimp only;by_cases B:M ≥ S;.rw[qF B];show ko<|q1 B
    .rw[qL B];show km<|As C (base:=base) ∅ ha z hk ?_;cases e:CJ lt left key arr base<|M+(S-M) / 2with
     |true=>show ko<|Y ∅ e
     |false=>show ko<|q3 ∅ e
   .intro j R;rcases O with O|⟨O,a6⟩;.lia
    .show mono j (t-o) ∅ ∅ a6
   .rintro c u ⟨k,rfl,rfl,k1,k2,k3⟩;show ko<|h k k1 k2 k3
abbrev Da(lt:kf->kf->Bool)(l:List kf):Prop:=l.Pairwise λx y=>lt y x=f_
structure MI (lt:kf->kf->Bool)(a b out:Array kf)(ia ib:Nat):Prop where
 la:ia<=a.size
 lb:ib<=b.size
 pm:(out.toList++(a.toList.drop ia++b.toList.drop ib)).Perm<|a.toList++b.toList
 so:Da lt out.toList
 ua:∀x∈out.toList,∀y∈a.toList.drop ia,lt y x=f_
 ub:∀x∈out.toList,∀y∈b.toList.drop ib,lt y x=f_
def MI.congr(m:MI lt a b out ia ib)(e:out'.toList=out.toList):MI lt a b out' ia ib:=(m.la,m.lb,by rw[e];show m.pm,by rw[e];show m.so,by rw[e];show m.ua,by rw[e];show m.ub)
def R6(l:List kf)i k:l.drop i=(l.drop i).take k++l.drop (i+k):=by rw[←List.drop_drop,aZ]
def CO(a:Array kf)i k:(a.extract i<|i+k).toList=(a.toList.drop i).take k:=by rw[gb,List.extract_eq_take_drop,ip]
def MI.moreA(m:MI lt a b out ia ib)(sa:Da lt a.toList)(hk:ia+k<=a.size)(h:∀x∈(a.toList.drop ia).take k,∀y∈b.toList.drop ib,lt y x=f_):MI lt a b (out++a.extract ia (ia+k)) (ia+k) ib:=by
 have e:(out++a.extract ia (ia+k)).toList=out.toList++(a.toList.drop ia).take k:=by rw[aT,CO]
 have t:Da lt<|a.toList.drop ia:=sa.sublist<|bY _ _;have c:=R6 a.toList ia k;have s:=t;rw[c]at s;have(q1,z,u):=aU.mp s;show(hk,m.lb,?_,?_,?_,?_);.rw[e,ak];show(bS.append_left _ ?_).trans m.pm;rw[←ak,←c]
 .rw[e];show aU.mpr (m.so,q1,λx l y n=>m.ua x l y<|bg n)
 .rw[e];intro x l y n;rcases mAq.mp l with l|l;.show m.ua x l y<|by rw[c];show aH _ n
  .show u x l y n
 .rw[e];intro x l y n;rcases mAq.mp l with l|l;.show m.ub x l y n
  .show h x l y n
def MI.moreB(m:MI lt a b out ia ib)(sb:Da lt b.toList)(hk:ib+k<=b.size)(h:∀x∈(b.toList.drop ib).take k,∀y∈a.toList.drop ia,lt y x=f_):MI lt a b (out++b.extract ib (ib+k)) ia<|ib+k:=by
 have e:(out++b.extract ib (ib+k)).toList=out.toList++(b.toList.drop ib).take k:=by rw[aT,CO]
 have t:Da lt<|b.toList.drop ib:=sb.sublist<|bY _ _;have c:=R6 b.toList ib k;have s:=t;rw[c]at s;have(q1,z,u):=aU.mp s;show(m.la,hk,?_,?_,?_,?_);.rw[e,ak];show(bS.append_left _ ?_).trans m.pm;show((List.perm_append_comm_assoc _ _ _).trans ?_);rw[←c]
 .rw[e];show aU.mpr (m.so,q1,λx l y n=>m.ub x l y<|bg n)
 .rw[e];intro x l y n;rcases mAq.mp l with l|l;.show m.ua x l y n
  .show h x l y n
 .rw[e];intro x l y n;rcases mAq.mp l with l|l;.show m.ub x l y<|by rw[c];show aH _ n
  .show u x l y n
def Cu{l:List kf}(h:l[i]?=bj x):(l.drop i).take 1=[x]:=by have(hi,e):=gSq.mp h;rw[aS hi,e];rfl
def MI.pushA(m:MI lt a b out ia ib)(sa:Da lt a.toList)(n:a[ia]?=bj x)(h:∀y∈b.toList.drop ib,lt y x=f_):MI lt a b (out.push x) (ia+1) ib:=by
 have hi:=(aR.mp n).1;have l:a.toList[ia]?=bj x:=by rw[aO];show n
 show(m.moreA sa hi λz s y t=>?_).congr ?_;.rw[Cu l,mSq]at s;rw[s];show h y t
 .rw[eJ,aT,CO,Cu l]
def MI.pushB(m:MI lt a b out ia ib)(sb:Da lt b.toList)(n:b[ib]?=bj x)(h:∀y∈a.toList.drop ia,lt y x=f_):MI lt a b (out.push x) ia<|ib+1:=by
 have hi:=(aR.mp n).1;have l:b.toList[ib]?=bj x:=by rw[aO];show n
 show(m.moreB sb hi λz s y t=>?_).congr ?_;.rw[Cu l,mSq]at s;rw[s];show h y t
 .rw[eJ,aT,CO,Cu l]
structure Mrg (lt:kf->kf->Bool)(a b r:Array kf):Prop where
 pm:r.toList.Perm<|a.toList++b.toList
 so:Da lt r.toList
def BX(a:Array kf)i:(a.extract i a.size).toList=a.toList.drop i:=by rw[gb];show bJ<|by rw[au];show ae _
def MI.endB(m:MI lt a b out ia ib)(sa:Da lt a.toList)(e:ib=b.size):Mrg lt a b<|out++a.extract ia a.size++b.extract ib b.size:=by
 have l:b.toList.drop ib=[]:=by rw[e,←aD,cU]
 have n:(out++a.extract ia a.size++b.extract ib b.size).toList=out.toList++a.toList.drop ia:=by rw[aT,aT,BX,BX,l,aNq]
 have pm:=m.pm;rw[l,aNq]at pm;show(by rw[n];show pm,by rw[n];show aU.mpr (m.so,sa.sublist<|bY _ _,m.ua))
def MI.endA(m:MI lt a b out ia ib)(sb:Da lt b.toList)(e:ia=a.size):Mrg lt a b<|out++a.extract ia a.size++b.extract ib b.size:=by
 have l:a.toList.drop ia=[]:=by rw[e,←aD,cU]
 have n:(out++a.extract ia a.size++b.extract ib b.size).toList=out.toList++b.toList.drop ib:=by simp only[aT,aT,BX,BX,l,aNq]
 have pm:=m.pm;rw[l]at pm;show(by rw[n];show pm,by rw[n];show aU.mpr (m.so,sb.sublist<|bY _ _,m.ub))
def MI.lastA(m:MI lt a b out ia ib)(sa:Da lt a.toList)(sb:Da lt b.toList)(h:∀x∈b.toList.drop ib,∀y∈a.toList.drop ia,lt y x=f_):Mrg lt a b<|out++b.extract ib b.size++a.extract ia a.size:=by
 have n:(out++b.extract ib b.size++a.extract ia a.size).toList=out.toList++(b.toList.drop ib++a.toList.drop ia):=by rw[aT,aT,BX,BX,ak]
 show(?_,?_);.rw[n];show(bS.append_left _ cu).trans m.pm
 .rw[n];show aU.mpr (m.so,aU.mpr (sb.sublist<|bY _ _,sa.sublist<|bY _ _,h),λx s y l=>?_);rcases mAq.mp l with l|l;.show m.ub x s y l
  .show m.ua x s y l
def RP:Array kf->Array kf->StateT SortSt Sem (Array kf):=sortPriv% PySem.Builtin.mergeLo
def xn:Nat->StateT SortSt Sem Unit:=sortPriv% PySem.Builtin.setMinGallop
noncomputable abbrev sg(st:SortSt)(g:Nat):SortSt:=SortSt.mk' (kindOf st) (kE st) (lI st) g<|failedOf st
section
variable (a b:Array kf)
noncomputable abbrev dn(o:Array kf)(i j:Nat):=o++a.extract i a.size++b.extract j b.size
noncomputable abbrev lA(o:Array kf)(i j:Nat):=o++b.extract j b.size++a.extract i a.size
abbrev SF(α:Type):=ForInStep<|Option (Array kf)×Array kf×Nat×Nat×α
noncomputable def loC(o:Array kf)(i j m k l:Nat):StateT SortSt Sem<|SF<|Nat×Nat×Nat:=do
 let x ←ly a i
 if i+1+1 == a.size then pure (.done %[bj<|lA a b (o.push x) (i+1) j|%[o.push x|%[i+1|%[j|%[m|%[k|l]]]]]])
 else if decide (k<7) && decide (l<7)then pure (.done %[n_|%[o.push x|%[i+1|%[j|%[m|%[k|l]]]]]])
 else pure (.yield %[n_|%[o.push x|%[i+1|%[j|%[m|%[k|l]]]]]])
def loB(o:Array kf)(i j m k q:Nat):StateT SortSt Sem<|SF<|Nat×Nat×Nat:=do
 let x ←ly b j
 if j+1 == b.size then pure (.done %[bj<|dn a b (o.push x) i<|j+1|%[o.push x|%[i|%[j+1|%[m|%[k|q]]]]]])
 else do
  let y ←ly a i
  match ←Bc t_ y b (j+1) (b.size-(j+1)) 0 with
  |bj l=>
   if l>0 then
    if j+1+l == b.size then pure (.done %[bj<|dn a b (o.push x++b.extract (j+1) (j+1+l)) i<|j+1+l|%[o.push x++b.extract (j+1) (j+1+l)|%[i|%[j+1+l|%[m|%[k|l]]]]]])
    else loC a b (o.push x++b.extract (j+1) (j+1+l)) i (j+1+l) m k l
   else loC a b (o.push x) i (j+1) m k l
  |_=>pure (.done %[bj<|dn a b (o.push x) i<|j+1|%[o.push x|%[i|%[j+1|%[m|%[k|q]]]]]])
def loA(o:Array kf)(i j m p q:Nat):StateT SortSt Sem<|SF<|Nat×Nat×Nat:=do
 xn m
 let x ←ly b j
 match ←Bc f_ x a i (a.size-i) 0 with
 |bj k=>
  if k>0 then
   if i+k+1 == a.size then pure (.done %[bj<|lA a b (o++a.extract i (i+k)) (i+k) j|%[o++a.extract i (i+k)|%[i+k|%[j|%[m|%[k|q]]]]]])
   else if i+k == a.size then pure (.done %[bj<|dn a b (o++a.extract i (i+k)) (i+k) j|%[o++a.extract i (i+k)|%[i+k|%[j|%[m|%[k|q]]]]]])
   else loB a b (o++a.extract i (i+k)) (i+k) j m k q
  else loB a b o i j m k q
 |_=>pure (.done %[bj<|dn a b o i j|%[o|%[i|%[j|%[m|%[p|q]]]]]])
noncomputable def lo1(m:Nat)(o:Array kf)(i j p q:Nat):StateT SortSt Sem<|SF<|Nat×Nat:=do
 let y ←ly b j
 let x ←ly a i
 match ←lt' y x with
 |bj c=>
  if c then do
   let z ←ly b j
   if j+1 == b.size then pure (.done %[bj<|dn a b (o.push z) i<|j+1|%[o.push z|%[i|%[j+1|%[0|q+1]]]]])
   else if q+1 ≥ m then pure (.done %[n_|%[o.push z|%[i|%[j+1|%[0|q+1]]]]])
   else pure (.yield %[n_|%[o.push z|%[i|%[j+1|%[0|q+1]]]]])
  else do
   let z ←ly a i
   if i+1+1 == a.size then pure (.done %[bj<|lA a b (o.push z) (i+1) j|%[o.push z|%[i+1|%[j|%[p+1|0]]]]])
   else if p+1 ≥ m then pure (.done %[n_|%[o.push z|%[i+1|%[j|%[p+1|0]]]]])
   else pure (.yield %[n_|%[o.push z|%[i+1|%[j|%[p+1|0]]]]])
 |_=>pure (.done %[bj<|dn a b o i j|%[o|%[i|%[j|%[p|q]]]]])
noncomputable def lo0(o:Array kf)(i j m:Nat):StateT SortSt Sem<|SF Nat:=do
 let r ←forIn [0:a.size+b.size] %[n_|%[o|%[i|%[j|%[0|0]]]]] λQ s=>lo1 a b m s.2.1 s.2.2.1 s.2.2.2.1 s.2.2.2.2.1 s.2.2.2.2.2
 Break.runK.match_1 (λQ=>StateT SortSt Sem<|SF Nat) r.1 (λv=>pure<|.done %[bj v|%[r.2.1|%[r.2.2.1|%[r.2.2.2.1|m]]]]) λQ=>do
  rule "list.sort.gallop"
  let r ←forIn [0:a.size+b.size] %[n_|%[r.2.1|%[r.2.2.1|%[r.2.2.2.1|%[m+1|%[r.2.2.2.2.1|r.2.2.2.2.2]]]]]] λQ s=>if s.2.2.2.2.1>1 then loA a b s.2.1 s.2.2.1 s.2.2.2.1 (s.2.2.2.2.1-1) s.2.2.2.2.2.1 s.2.2.2.2.2.2 else loA a b s.2.1 s.2.2.1 s.2.2.2.1 s.2.2.2.2.1 s.2.2.2.2.2.1 s.2.2.2.2.2.2
  Break.runK.match_1 (λQ=>StateT SortSt Sem<|SF Nat) r.1 (λv=>pure<|.done %[bj v|%[r.2.1|%[r.2.2.1|%[r.2.2.2.1|r.2.2.2.2.1]]]]) λQ=>do
   xn (r.2.2.2.2.1+1)
   pure (.yield %[n_|%[r.2.1|%[r.2.2.1|%[r.2.2.2.1|r.2.2.2.2.1+1]]]])
end
section
def Cb{st}(h:Q ()<|sg st g):wpS (kg prog w) A E s (xn g) Q st:=by show lW h
def BZ{st}(h:Q () st):wpS (kg prog w) A E s (liftM<|rule x:StateT SortSt Sem Unit) Q st:=wpS_lift<|wpAny_rule (rfl,h)
def JV(C:Ff prog w A s κ P lt){a:Array kf}(ha:∀x,x∈a->P x)(sa:Da lt a.toList)(u:a[i]?=bj x):∀y∈a.toList.drop i,lt y x=f_:=by
 have(hi,e):=aR.mp u;have l:=by show hi
 have z:a.toList[i]=x:=by show e
 have t:Da lt<|a.toList.drop i:=sa.sublist<|bY _ _;rw[aS l,z]at t ⊢;intro y n;rcases ag.mp n with rfl|n;.show C.refl<|ha _<|by rw[←e];show bu hi
 .show(bV.mp t).1 y n
def Az{a:Array kf}(h:y∈a.toList.drop i):y∈a:=by simpa using bC h
def He(C:Ff prog w A s κ P lt)(hb:base+n<=arr.size)(ha:∀x,x∈arr->P x)(l:P key)(so:Da lt<|arr.toList.drop base) :
  ∀i j,i<=j->j<n->CJ lt left key arr base j=t_->CJ lt left key arr base i=t_:=by
 intro i j z L h;have t:base+i<arr.size:=by lia
 have u:base+j<arr.size:=by lia
 have H:arr.getD (base+i) key=arr[base+i]:=by simp[iZ,t]
 have I:arr.getD (base+j) key=arr[base+j]:=by simp[iZ,u]
 have B:=ha _<|bu t;have G:=ha _<|bu u;have le:lt arr[base+j] arr[base+i]=f_:=by
  rcases eZ z with q|q
  .have:=cT.mp so i j (by simp;lia) (by simp;lia) q;simpa using this
  .subst q;show C.refl B
 unfold CJ at h ⊢;rw[H];rw[I]at h;cases left with
 |true=>rw[qF rfl]at h ⊢;cases q:lt arr[base+i] key with
  |true=>rfl
  |false=>have:=C.trans key arr[base+i] arr[base+j] l B G q le;rw[h]at this;cases this
 |false=>
  have J:=by simpa using h
  have:=C.trans arr[base+i] arr[base+j] key B G l le J;simp[this]
def yc(l:arr[base+i]?=bj x):CJ lt left key arr base i=if left then lt x key else !lt key x:=by
 have(hi,e):=aR.mp l;unfold CJ;have n:arr.getD (base+i) key=x:=by simp[iZ,hi,e]
 rw[n]
def Bs{a:Array kf}(h:x∈(a.toList.drop i).take k):∃j,j<k/\a[i+j]?=bj x:=by
 have(j,l,e):=df.mp h;rw[lTq]at l;show(j,by lia,?_);rw[aR];have n:i+j<a.size:=by rw[au,aD]at l;lia
 show(n,by simpa using e)
def DL{a:Array kf}(h:x∈a.toList.drop i):∃j,i+j<a.size/\a[i+j]?=bj x:=by
 have(j,n,e):=df.mp h;rw[au,aD]at n;have l:i+j<a.size:=by lia
 show(j,l,?_);rw[aR];show(l,by simpa using e)
inductive Lp {ρ τ ι σ:Type}(t:ι->τ)(v:ι->σ)(J K:ι->Prop)(R:ρ->σ->Prop):ForInStep (Option ρ×τ)->σ->Prop
 |y (x):J x->Lp t v J K R (.yield %[n_|t x]) (v x)
 |d (x):K x->Lp t v J K R (.done %[n_|t x]) (v x)
 |r (a y st):R a st->Lp t v J K R (.done %[bj a|y]) st
def BR{M}t v(J:Nat->ι->Prop)K R{f}{k:Option ρ×τ->StateT σ Sem β}{Q}
  x (h:J 0 x) (step:∀i x,J i x->wpS M A E s (f i %[n_|t x]) (Lp t v (J<|i+1) K R) (v x)) (fin:∀x,J n x->K x) (pn:∀x,K x->wpS M A E s (k %[n_|t x]) Q (v x)) (ps:∀r y st,R r st->wpS M A E s (k %[bj r|y]) Q st) :
  wpS M A E s (forIn [0:n] %[n_|t x] f >>= k) Q<|v x:=by
 show km<|kT (kS (I:=λi c st=>∃x,c=%[n_|t x]/\st=v x/\J i x) (Q:=λc st=>Lp t v K K R (.done c) st) ?_ ?_ (x,rfl,rfl,h)) ?_
 .rintro i c st _ _ ⟨x,rfl,rfl,h⟩;show kT (step i x h) λr l hr=>?_;cases hr with
  |y x h=>show(x,rfl,rfl,h)
  |d x h=>show .d x h
  |r a y st h=>show .r a y _ h
 .rintro c st ⟨x,rfl,rfl,h⟩;show .d x<|fin x h
 .rintro c st h;cases h with
  |d x h=>show pn x h
  |r a y st h=>show ps a y _ h
structure Ls where
 o:Array kf
 (i j m p q g:Nat)
structure ML (lt:kf->kf->Bool)(a b:Array kf)(n:Nat)(x:Ls):Prop where
 m:MI lt a b x.o x.i x.j
 p:x.i+1<a.size
 q:x.j<b.size
 r:n<=x.i+x.j
structure Lo (prog:kx)(w:kB)(A:Around)(s:ke)(κ:lg)(P:kf->Prop)(lt:kf->kf->Bool)(a b:Array kf)(st:SortSt)(Q:Array kf->SortSt->Prop):Prop where
 C:Ff prog w A s κ P lt
 ha:∀x,x∈a->P x
 hb:∀x,x∈b->P x
 hk:kindOf st=κ
 sa:Da lt a.toList
 sb:Da lt b.toList
 h:∀r g,Mrg lt a b r->Q r (sg st g)
noncomputable abbrev L6(x:Ls):=%[x.o|%[x.i|%[x.j|%[x.m|%[x.p|x.q]]]]]
noncomputable abbrev L5(x:Ls):=%[x.o|%[x.i|%[x.j|%[x.p|x.q]]]]
noncomputable abbrev L4(x:Ls):=%[x.o|%[x.i|%[x.j|x.m]]]
variable {st:SortSt}
abbrev Hl(lt:kf->kf->Bool)(a b:Array kf):=∀i,i+1=a.size->∀x∈b.toList,∀y∈a.toList.drop i,lt y x=f_
def Z3(H:Lo prog w A s κ P lt a b st Q)(hl:Hl lt a b)(q:ML lt a b n x)(hi:∀z,a[x.i]?=bj z->∀y∈b.toList.drop x.j,lt y z=f_) :
  wpS (kg prog w) A E s (loC a b x.o x.i x.j x.m x.p x.q) (Lp L6 (λx=>sg st x.g) (ML lt a b n) (ML lt a b n) Q)<|sg st x.g:=by
 have G:=q.p;have l:a[x.i]?=bj a[x.i]:=af<|by rfl'
 show km<|si l ?_;have u:=q.m.pushA H.sa l<|hi _ l;by_cases t:x.i+1+1=a.size
 .rw[qF<|by simp[t]];show ko<|.r _ _ _<|H.h _ _<|u.lastA H.sa H.sb λy B=>hl _ t y<|bC B
 rw[qL<|by simpa using t];have R:ML lt a b n (_,_,_,x.m,x.p,x.q,x.g):=(u,by lia,q.q,by have:=q.r;dsimp only;lia);split;.show ko<|.d _ R
 .show ko<|.y _ R
def ab2(H:Lo prog w A s κ P lt a b st Q)(hl:Hl lt a b)(q:ML lt a b n x)(hi:∀z,b[x.j]?=bj z->∀y∈a.toList.drop x.i,lt y z=f_) :
  wpS (kg prog w) A E s (loB a b x.o x.i x.j x.m x.p x.q) (Lp L6 (λx=>sg st x.g) (ML lt a b n) (ML lt a b n) Q)<|sg st x.g:=by
 have R:=q.p;have p2:=q.q;have p3:=q.r;have G:b[x.j]?=bj b[x.j]:=af p2;show km<|si G ?_;have I:=q.m.pushB H.sb G<|hi _ G;by_cases J:x.j+1=b.size
 .rw[qF<|by simp[J]];show ko<|.r _ _ _<|H.h _ _<|I.endB H.sa J
 rw[qL<|by simpa using J];have L:a[x.i]?=bj a[x.i]:=af ∅;have u:=H.ha _<|bu<|show x.i<a.size by lia
 show km<|si L<|km<|yV H.C (base:=x.j+1) (n:=b.size-(x.j+1)) ∅ ∅ H.hb u H.hk (He H.C ∅ H.hb u<|H.sb.sublist<|bY _ _) λl l1 l2 l3=>?_;have S:∀z,a[x.i]?=bj z->∀y∈b.toList.drop (x.j+1+l),lt y z=f_:=λz T y B=>by
  have(M,t,ey):=DL B;have q:=l3 (l+M) (by rfl') ∅;rw[yc<|by rw[←fO];show ey,qF rfl]at q;rw[L]at T;cases T;show q
 dsimp only;by_cases cl:l>0
 .rw[qF cl];have U:=I.moreB H.sb (k:=l) ∅ λx X y B=>by have(M,t,ex):=Bs X;have q:=l2 M t;rw[yc ex,qF rfl]at q;have Y:=H.hb x<|bg X |> Az;show H.C.trans _ _ _ Y u (H.ha _<|Az B) (H.C.asym _ _ Y u q)<|JV H.C H.ha H.sa L y B
  by_cases O:x.j+1+l=b.size
  .rw[qF<|by simp[O]];show ko<|.r _ _ _<|H.h _ _<|U.endB H.sa O
  rw[qL<|by simpa using O];show Z3 H hl (x:=(_,_,_,_,_,_,x.g)) (U,R,by dsimp only;lia,by dsimp only;lia) S
 .rw[qL cl];show Z3 H hl (x:=(_,_,_,_,_,_,x.g)) (I,R,by lia,by rfl')<|by rw[show x.j+1=x.j+1+l by lia];show S
def acY(H:Lo prog w A s κ P lt a b st Q)(hl:Hl lt a b)(q:ML lt a b n x) :
  wpS (kg prog w) A E s (loA a b x.o x.i x.j x.m x.p x.q) (Lp L6 (λx=>sg st x.g) (ML lt a b n) (ML lt a b n) Q)<|sg st x.g:=by
 have U:=q.p;have u:=q.q;have X:=q.r;have I:b[x.j]?=bj b[x.j]:=af u;have B:=H.hb _<|bu u;show km<|Cb<|km<|si I<|km<|yV H.C (base:=x.i) (n:=a.size-x.i) ∅ ∅ H.ha B H.hk (He H.C ∅ H.ha B<|H.sa.sublist<|bY _ _) λk k1 Y k3=>?_;have R:∀z,b[x.j]?=bj z->∀y∈a.toList.drop (x.i+k),lt y z=f_:=λz S y l=>by
  have(J,t,ey):=DL l;have q:=k3 (k+J) (by rfl') ∅;rw[yc<|by rw[←fO];show ey,qL ⋯]at q;rw[I]at S;cases S;show H.C.asym _ _ B (H.ha _<|Az l)<|by simpa using q
 dsimp only;by_cases T:k>0
 .rw[qF T];have L:=q.m.moreA H.sa (k:=k) ∅ λx G y l=>by
   have(J,t,ex):=Bs G;have q:=Y J t;rw[yc ex,qL ⋯]at q;show H.C.trans _ _ _ (H.ha x<|bg G |> Az) B (H.hb _<|Az l) (by simpa using q)<|JV H.C H.hb H.sb I y l
  by_cases M:x.i+k+1=a.size
  .rw[qF<|by simp[M]];show ko<|.r _ _ _<|H.h _ x.m<|L.lastA H.sa H.sb λx G=>hl _ M x<|bC G
  rw[qL<|by simpa using M];by_cases O:x.i+k=a.size
  .rw[qF<|by simp[O]];show ko<|.r _ _ _<|H.h _ x.m<|L.endA H.sb O
  rw[qL<|by simpa using O];show ab2 H hl (x:=(_,_,_,_,_,_,x.m)) (L,by dsimp only;lia,u,by dsimp only;lia) R
 .rw[qL T];show ab2 H hl (x:=(_,_,_,_,_,_,x.m)) (q.m,U,u,X)<|by rw[show x.i=x.i+k by lia];show R
def aia(H:Lo prog w A s κ P lt a b st Q)(hl:Hl lt a b)(q:ML lt a b (n+j) x) :
  wpS (kg prog w) A E s (lo1 a b m x.o x.i x.j x.p x.q) (Lp L5 (λx=>sg st x.g) (ML lt a b<|n+(j+1)) (ML lt a b<|n+1) Q)<|sg st x.g:=by
 have M:=q.p;have L:=q.q;have S:=q.r;have B:a[x.i]?=bj a[x.i]:=af ∅;have G:b[x.j]?=bj b[x.j]:=af L;have I:=H.ha _<|bu<|show x.i<a.size by lia
 have J:=H.hb _<|bu L;show km<|si G<|km<|si B<|km<|H.C.cmp J I H.hk ?_;cases e:lt b[x.j] a[x.i]with
 |true=>
  dsimp only;rw[qF rfl];show km<|si G ?_;have t:=q.m.pushB H.sb G λz u=>H.C.trans _ _ _ J I (H.ha _<|Az u) (H.C.asym _ _ J I e)<|JV H.C H.ha H.sa B z u;by_cases l:x.j+1=b.size
  .rw[qF<|by simp[l]];show ko<|.r _ _ _<|H.h _ _<|t.endB H.sa l
  rw[qL<|by simpa using l];have R:∀n,n<=x.i+(x.j+1)->ML lt a b n (_,_,_,0,0,x.q+1,x.g):=λn hn=>(t,M,by lia,hn);split;.show ko<|.d _<|R _ ∅
  .show ko<|.y _<|R _<|by rfl'
 |false=>
  show km<|si B ?_;have t:=q.m.pushA H.sa B λz u=>H.C.trans _ _ _ I J (H.hb _<|Az u) e<|JV H.C H.hb H.sb G z u;by_cases l:x.i+1+1=a.size
  .rw[qF<|by simp[l]];show ko<|.r _ _ _<|H.h _ _<|t.lastA H.sa H.sb λx O=>hl _ l x<|bC O
  rw[qL<|by simpa using l];have R:∀n,n<=x.i+1+x.j->ML lt a b n (_,_,_,0,x.p+1,0,x.g):=λn hn=>(t,by lia,L,hn);split;.show ko<|.d _<|R _ ∅
  .show ko<|.y _<|R _<|by ac_nf
def ajR(H:Lo prog w A s κ P lt a b st Q)(hl:Hl lt a b)(q:ML lt a b n x) :
  wpS (kg prog w) A E s (lo0 a b x.o x.i x.j x.m) (Lp L4 (λx=>sg st x.g) (ML lt a b<|n+1) (λZ=>False) Q)<|sg st x.g:=by
 show BR L5 (λx=>sg st x.g) (λj=>ML lt a b<|n+j) (ML lt a b<|n+1) Q (x.o,x.i,x.j,0,0,0,x.g) (q.m,q.p,q.q,q.r) (λj x q=>aia H hl q) (λy h=>(h.m,h.p,h.q,by have:=h.r;have:=h.p;have:=h.q;lia)) (λy q=>?_) λr y l hr=>ko<|.r _ _ _ hr;show km<|BZ ?_;show BR L6 (λx=>sg st x.g) (λZ=>ML lt a b<|n+1) (ML lt a b<|n+1) Q (y.o,y.i,y.j,x.m+1,y.p,y.q,y.g) (q.m,q.p,q.q,q.r) (λj z q=>?_) (λZ h=>h) (λz q=>?_) λr y l hr=>ko<|.r _ _ _ hr
 .dsimp only;split;.show acY H hl (x:=(_,_,_,z.m-1,_,_,z.g)) (q.m,q.p,q.q,q.r)
  .show acY H hl q
 .show km<|Cb<|ko ?_;show Lp.y (t:=L4) (_,_,_,z.m+1,0,0,z.m+1) (q.m,q.p,q.q,q.r)
def Rk(C:Ff prog w A s κ P lt)(ha:∀x,x∈a->P x)(hb:∀x,x∈b->P x)(hk:kindOf st=κ)(sa:Da lt a.toList)(sb:Da lt b.toList)
  (M:0<a.size) (B:0<b.size) (G:∀x,b[0]?=bj x->∀y∈a.toList,lt y x=f_) (hl:∀i,i+1=a.size->∀x∈b.toList,∀y∈a.toList.drop i,lt y x=f_)
  (h:∀r g,Mrg lt a b r->Q r (sg st g)):wpS (kg prog w) A E s (RP a b) Q st:=by
 show km<|BZ ?_;have l:=af B;show km<|si l ?_;have H:MI lt a b #[] 0 0:=(aY _,aY _,by rfl,by simp[Da],by simp,by simp);have t:=H.pushB sb l λy I=>G _ l y<|by show I
 by_cases u:1=b.size
 .rw[qF<|by simp[←u]];show ko<|h _ (nv st)<|t.endB sa u
 rw[qL<|by simpa using u];by_cases z:0+1=a.size
 .rw[qF<|by simp[←z]];show ko<|h _ (nv st)<|t.lastA sa sb λx J=>hl 0 z x<|bC J
 rw[qL<|by simpa using z];show km<|mq ?_;show BR L4 (λx=>sg st x.g) (λi=>ML lt a b<|i+1) (λZ=>False) Q (_,0,1,_,0,0,nv st) (t,by lia,by lia,by rfl') (λi x q=>ajR (C,ha,hb,hk,sa,sb,h) hl q) (λx h=>by have:=h.p;have:=h.q;have:=h.r;lia) (λx h=>h.elim) λr y L hr=>ko hr
end
structure MH (lt:kf->kf->Bool)(a b out:Array kf)(na nb:Nat):Prop where
 la:na<=a.size
 lb:nb<=b.size
 pm:((a.toList.take na++b.toList.take nb)++out.toList.reverse).Perm<|a.toList++b.toList
 so:Da lt out.toList.reverse
 ua:∀x∈a.toList.take na,∀y∈out.toList,lt y x=f_
 ub:∀x∈b.toList.take nb,∀y∈out.toList,lt y x=f_
def MH.congr(m:MH lt a b out na nb)(e:out'.toList=out.toList):MH lt a b out' na nb:=(m.la,m.lb,by rw[e];show m.pm,by rw[e];show m.so,by rw[e];show m.ua,by rw[e];show m.ub)
def HU(l:List kf)k n(h:k<=n):l.take n=l.take k++(l.take n).drop k:=by
 have e:(l.take n).take k=l.take k:=by rw[List.take_take,eF h]
 rw[←e,aZ]
def ve(a:Array kf)k n:(a.extract k n).toList=(a.toList.take n).drop k:=by rw[gb,List.drop_take]
def HM(a:Array kf)n:(a.extract 0 n).toList=a.toList.take n:=by rw[ve,fA]
def MH.moreA(m:MH lt a b out na nb)(sa:Da lt a.toList)(hk:k<=na)(h:∀x∈b.toList.take nb,∀y∈(a.toList.take na).drop k,lt y x=f_):MH lt a b (out++(a.extract k na).reverse) k nb:=by
 have e:(out++(a.extract k na).reverse).toList=out.toList++((a.toList.take na).drop k).reverse:=by rw[aT,dg,ve]
 have t:(out++(a.extract k na).reverse).toList.reverse=(a.toList.take na).drop k++out.toList.reverse:=by rw[e,ja,iS]
 have c:=HU a.toList k na hk;have u:Da lt<|a.toList.take na:=sa.sublist<|bq _ _;have s:=u;rw[c]at s;have(q1,z,B):=aU.mp s;have sub:∀y,y∈(a.toList.take na).drop k->y∈a.toList.take na:=λy l=>bC l;show(bh hk m.la,m.lb,?_,?_,?_,?_)
 .rw[t];show bS.trans ?_ m.pm;rw[←ak];show bS.append_right _ ?_;conv=>rhs;rw[c]
  rw[ak,ak];show bS.append_left _ cu
 .rw[t];show aU.mpr (z,m.so,λx n y l=>m.ua x (sub x n) y<|bX.mp l)
 .rw[e];intro x n y l;rcases mAq.mp l with l|l;.show m.ua x (by rw[c];show cx _ n) y l
  .show B x n y<|bX.mp l
 .rw[e];intro x n y l;rcases mAq.mp l with l|l;.show m.ub x n y l
  .show h x n y<|bX.mp l
def MH.moreB(m:MH lt a b out na nb)(sb:Da lt b.toList)(hk:k<=nb)(h:∀x∈a.toList.take na,∀y∈(b.toList.take nb).drop k,lt y x=f_):MH lt a b (out++(b.extract k nb).reverse) na k:=by
 have e:(out++(b.extract k nb).reverse).toList=out.toList++((b.toList.take nb).drop k).reverse:=by rw[aT,dg,ve]
 have t:(out++(b.extract k nb).reverse).toList.reverse=(b.toList.take nb).drop k++out.toList.reverse:=by rw[e,ja,iS]
 have c:=HU b.toList k nb hk;have u:Da lt<|b.toList.take nb:=sb.sublist<|bq _ _;have s:=u;rw[c]at s;have(q1,z,B):=aU.mp s;have sub:∀y,y∈(b.toList.take nb).drop k->y∈b.toList.take nb:=λy l=>bC l;show(m.la,bh hk m.lb,?_,?_,?_,?_)
 .rw[t];show bS.trans ?_ m.pm;rw[←ak];show bS.append_right _ ?_;conv=>rhs;rw[c]
  rw[ak]
 .rw[t];show aU.mpr (z,m.so,λx n y l=>m.ub x (sub x n) y<|bX.mp l)
 .rw[e];intro x n y l;rcases mAq.mp l with l|l;.show m.ua x n y l
  .show h x n y<|bX.mp l
 .rw[e];intro x n y l;rcases mAq.mp l with l|l;.show m.ub x (by rw[c];show cx _ n) y l
  .show B x n y<|bX.mp l
def De{l:List kf}(h:l[i]?=bj x):(l.take<|i+1).drop i=[x]:=by
 rw[dR,h,List.drop_append];have hl:(l.take i).length=i:=by have:=(gSq.mp h).1;rw[lTq];lia
 rw[dB<|by rfl',hl,cA];rfl
def MH.pushA(m:MH lt a b out (na+1) nb)(sa:Da lt a.toList)(s:a[na]?=bj x)(h:∀y∈b.toList.take nb,lt x y=f_):MH lt a b (out.push x) na nb:=by
 have l:a.toList[na]?=bj x:=by rw[aO];show s
 show(m.moreA sa (bR _) λz t y n=>?_).congr ?_;.rw[De l,mSq]at n;rw[n];show h z t
 .simp only[eJ,aT,dg,ve,De l];rfl
def MH.pushB(m:MH lt a b out na<|nb+1)(sb:Da lt b.toList)(s:b[nb]?=bj x)(h:∀y∈a.toList.take na,lt x y=f_):MH lt a b (out.push x) na nb:=by
 have l:b.toList[nb]?=bj x:=by rw[aO];show s
 show(m.moreB sb (bR _) λz t y n=>?_).congr ?_;.rw[De l,mSq]at n;rw[n];show h z t
 .simp only[eJ,aT,dg,ve,De l];rfl
def MH.end(m:MH lt a b out na nb)(sa:Da lt a.toList)(sb:Da lt b.toList)(e:na=0∨nb=0):Mrg lt a b<|a.extract 0 na++b.extract 0 nb++out.reverse:=by
 have n:(a.extract 0 na++b.extract 0 nb++out.reverse).toList=(a.toList.take na++b.toList.take nb)++out.toList.reverse:=by simp only[aT,aT,HM,HM,dg]
 show(by rw[n];show m.pm,?_);rw[n];show aU.mpr (?_,m.so,λx l y s=>?_)
 .rcases e with rfl|rfl;.show sb.sublist<|bq _ _
  .rw[List.take_zero,aNq];show sa.sublist<|bq _ _
 .rcases mAq.mp l with l|l;.show m.ua x l y<|bX.mp s
  .show m.ub x l y<|bX.mp s
def MH.firstB(m:MH lt a b out na nb)(sa:Da lt a.toList)(sb:Da lt b.toList)(h:∀x∈b.toList.take nb,∀y∈a.toList.take na,lt y x=f_):Mrg lt a b<|b.extract 0 nb++a.extract 0 na++out.reverse:=by
 have n:(b.extract 0 nb++a.extract 0 na++out.reverse).toList=(b.toList.take nb++a.toList.take na)++out.toList.reverse:=by simp only[aT,aT,HM,HM,dg]
 show(?_,?_);.rw[n];show(bS.append_right _ cu).trans m.pm
 .rw[n];show aU.mpr (aU.mpr (sb.sublist<|bq _ _,sa.sublist<|bq _ _,h),m.so,λx l y s=>?_);rcases mAq.mp l with l|l;.show m.ub x l y<|bX.mp s
  .show m.ua x l y<|bX.mp s
def Kt:Array kf->Array kf->StateT SortSt Sem (Array kf):=sortPriv% PySem.Builtin.mergeHi
section
variable (a b:Array kf)
noncomputable abbrev dH(o:Array kf)(i j:Nat):=a.extract 0 i++b.extract 0 j++o.reverse
noncomputable abbrev fH(o:Array kf)(i j:Nat):=b.extract 0 j++a.extract 0 i++o.reverse
abbrev SH(α:Type):=ForInStep<|Option (Array kf)×Nat×Nat×Array kf×α
noncomputable def hiC(o:Array kf)(i j m k l:Nat):StateT SortSt Sem<|SH<|Nat×Nat×Nat:=do
 let x ←ly a (i-1)
 if i-1 == 0 then pure (.done %[bj<|dH a b (o.push x) (i-1) j|%[i-1|%[j|%[o.push x|%[m|%[k|l]]]]]])
 else if decide (k<7) && decide (l<7)then pure (.done %[n_|%[i-1|%[j|%[o.push x|%[m|%[k|l]]]]]])
 else pure (.yield %[n_|%[i-1|%[j|%[o.push x|%[m|%[k|l]]]]]])
def hiB(o:Array kf)(i j m k q:Nat):StateT SortSt Sem<|SH<|Nat×Nat×Nat:=do
 let x ←ly b (j-1)
 if j-1 == 1 then pure (.done %[bj<|fH a b (o.push x) i<|j-1|%[i|%[j-1|%[o.push x|%[m|%[k|q]]]]]])
 else do
  let y ←ly a (i-1)
  match ←Bc t_ y b 0 (j-1) (j-1-1)with
  |bj l=>
   if j-1-l>0 then
    if l == 1 then pure (.done %[bj<|fH a b (o.push x++(b.extract l<|j-1).reverse) i l|%[i|%[l|%[o.push x++(b.extract l<|j-1).reverse|%[m|%[k|j-1-l]]]]]])
    else if l == 0 then pure (.done %[bj<|dH a b (o.push x++(b.extract l<|j-1).reverse) i l|%[i|%[l|%[o.push x++(b.extract l<|j-1).reverse|%[m|%[k|j-1-l]]]]]])
    else hiC a b (o.push x++(b.extract l<|j-1).reverse) i l m k (j-1-l)
   else hiC a b (o.push x) i (j-1) m k (j-1-l)
  |_=>pure (.done %[bj<|dH a b (o.push x) i<|j-1|%[i|%[j-1|%[o.push x|%[m|%[k|q]]]]]])
def hiA(o:Array kf)(i j m p q:Nat):StateT SortSt Sem<|SH<|Nat×Nat×Nat:=do
 xn m
 let x ←ly b (j-1)
 match ←Bc f_ x a 0 i (i-1)with
 |bj k=>
  if i-k>0 then
   if k == 0 then pure (.done %[bj<|dH a b (o++(a.extract k i).reverse) k j|%[k|%[j|%[o++(a.extract k i).reverse|%[m|%[i-k|q]]]]]])
   else hiB a b (o++(a.extract k i).reverse) k j m (i-k) q
  else hiB a b o i j m (i-k) q
 |_=>pure (.done %[bj<|dH a b o i j|%[i|%[j|%[o|%[m|%[p|q]]]]]])
noncomputable def hi1(m:Nat)(o:Array kf)(i j p q:Nat):StateT SortSt Sem<|SH<|Nat×Nat:=do
 let y ←ly b (j-1)
 let x ←ly a (i-1)
 match ←lt' y x with
 |bj c=>
  if c then do
   let z ←ly a (i-1)
   if i-1 == 0 then pure (.done %[bj<|dH a b (o.push z) (i-1) j|%[i-1|%[j|%[o.push z|%[p+1|0]]]]])
   else if p+1 ≥ m then pure (.done %[n_|%[i-1|%[j|%[o.push z|%[p+1|0]]]]])
   else pure (.yield %[n_|%[i-1|%[j|%[o.push z|%[p+1|0]]]]])
  else do
   let z ←ly b (j-1)
   if j-1 == 1 then pure (.done %[bj<|fH a b (o.push z) i<|j-1|%[i|%[j-1|%[o.push z|%[0|q+1]]]]])
   else if q+1 ≥ m then pure (.done %[n_|%[i|%[j-1|%[o.push z|%[0|q+1]]]]])
   else pure (.yield %[n_|%[i|%[j-1|%[o.push z|%[0|q+1]]]]])
 |_=>pure (.done %[bj<|dH a b o i j|%[i|%[j|%[o|%[p|q]]]]])
def hi0(o:Array kf)(i j m:Nat):StateT SortSt Sem<|SH Nat:=do
 let r ←forIn [0:a.size+b.size] %[n_|%[i|%[j|%[o|%[0|0]]]]] λQ s=>hi1 a b m s.2.2.2.1 s.2.1 s.2.2.1 s.2.2.2.2.1 s.2.2.2.2.2
 Break.runK.match_1 (λQ=>StateT SortSt Sem<|SH Nat) r.1 (λv=>pure<|.done %[bj v|%[r.2.1|%[r.2.2.1|%[r.2.2.2.1|m]]]]) λQ=>do
  rule "list.sort.gallop"
  let r ←forIn [0:a.size+b.size] %[n_|%[r.2.1|%[r.2.2.1|%[r.2.2.2.1|%[m+1|%[r.2.2.2.2.1|r.2.2.2.2.2]]]]]] λQ s=>if s.2.2.2.2.1>1 then hiA a b s.2.2.2.1 s.2.1 s.2.2.1 (s.2.2.2.2.1-1) s.2.2.2.2.2.1 s.2.2.2.2.2.2 else hiA a b s.2.2.2.1 s.2.1 s.2.2.1 s.2.2.2.2.1 s.2.2.2.2.2.1 s.2.2.2.2.2.2
  Break.runK.match_1 (λQ=>StateT SortSt Sem<|SH Nat) r.1 (λv=>pure<|.done %[bj v|%[r.2.1|%[r.2.2.1|%[r.2.2.2.1|r.2.2.2.2.1]]]]) λQ=>do
   xn (r.2.2.2.2.1+1)
   pure (.yield %[n_|%[r.2.1|%[r.2.2.1|%[r.2.2.2.1|r.2.2.2.2.1+1]]]])
def QG:Kt a b=(do
 rule "list.sort.merge-hi"
 let x ←ly a (a.size-1)
 if a.size-1 == 0 then pure (dH a b #[x] (a.size-1) b.size)
 else if b.size == 1 then pure (fH a b #[x] (a.size-1) b.size)
 else do
  let st ←get
  let r ←forIn [0:a.size+b.size] %[n_|%[a.size-1|%[b.size|%[#[x]|nv st]]]] λQ s=>hi0 a b s.2.2.2.1 s.2.1 s.2.2.1 s.2.2.2.2
  Break.runK.match_1 (λQ=>StateT SortSt Sem<|Array kf) r.1 (λv=>pure v) λQ=>unsupported "internal:list.sort.merge-bound"):=rfl
end
section
def JK(C:Ff prog w A s κ P lt){a:Array kf}(ha:∀x,x∈a->P x)(sa:Da lt a.toList)(t:a[i]?=bj x):∀y∈a.toList.take (i+1),lt x y=f_:=by
 have(hi,e):=aR.mp t;have n:a.toList[i]?=bj x:=by rw[aO];show t
 have u:Da lt<|a.toList.take<|i+1:=sa.sublist<|bq _ _;rw[dR,n]at u ⊢;intro y l;rcases mAq.mp l with l|l;.show(aU.mp u).2.2 y l x ⋯
 .have:y=x:=by simpa using l
  rw[this];show C.refl<|ha _<|by rw[←e];show bu hi
def AD{a:Array kf}(h:y∈a.toList.take i):y∈a:=by simpa using bg h
def Ex{a:Array kf}(h:x∈a.toList.take n):∃j,j<n/\a[0+j]?=bj x:=by
 have l:=by show h
 show Bs l
def AC{a:Array kf}(h:x∈(a.toList.take n).drop k):∃j,k<=j/\j<n/\a[0+j]?=bj x:=by
 have(j,l,e):=df.mp h;rw[au,lTq,aD]at l;show(k+j,by rfl',by lia,?_);rw[aR];show(by lia,by simpa using e)
structure MG (lt:kf->kf->Bool)(a b:Array kf)(n:Nat)(x:Ls):Prop where
 m:MH lt a b x.o x.i x.j
 p:0<x.i
 q:1<x.j
 r:x.i+x.j+n<=a.size+b.size
noncomputable abbrev H6(x:Ls):=%[x.i|%[x.j|%[x.o|%[x.m|%[x.p|x.q]]]]]
noncomputable abbrev H5(x:Ls):=%[x.i|%[x.j|%[x.o|%[x.p|x.q]]]]
noncomputable abbrev H4(x:Ls):=%[x.i|%[x.j|%[x.o|x.m]]]
variable {st:SortSt}
abbrev Hf(lt:kf->kf->Bool)(a b:Array kf):=∀x∈b.toList.take 1,∀y∈a.toList,lt y x=f_
def hiF(H:Lo prog w A s κ P lt a b st Q)(t:Hf lt a b)(m:MH lt a b o i 1):Q (b.extract 0 1++a.extract 0 i++o.reverse)<|sg st g:=H.h _ _<|m.firstB H.sa H.sb λx z y B=>t x z y<|bg B
def abE(H:Lo prog w A s κ P lt a b st Q)(q:MG lt a b n (o,u+1,j,m,k,l,g))(hi:∀z,a[u]?=bj z->∀y∈b.toList.take j,lt z y=f_) :
  wpS (kg prog w) A E s (hiC a b o (u+1) j m k l) (Lp H6 (λx=>sg st x.g) (MG lt a b n) (MG lt a b n) Q)<|sg st g:=by
 have B:=af q.m.la;show km<|si B ?_;have G:=q.m.pushA H.sa B<|hi _ B;by_cases t:u=0
 .rw[qF<|by simp[t]];show ko<|.r _ _ _<|H.h _ _<|G.end H.sa H.sb<|.inl t
 rw[qL<|by simpa using t];have R:MG lt a b n (_,_,_,m,k,l,g):=(G,gF t,q.q,by have:=q.r;dsimp only at *;lia);split;.show ko<|.d _ R
 .show ko<|.y _ R
def abD(H:Lo prog w A s κ P lt a b st Q)(Y:Hf lt a b)(q:MG lt a b n (o,u+1,v+1,m,k,l,g))(hi:∀z,b[v]?=bj z->∀y∈a.toList.take (u+1),lt z y=f_) :
  wpS (kg prog w) A E s (hiB a b o (u+1) (v+1) m k l) (Lp H6 (λx=>sg st x.g) (MG lt a b n) (MG lt a b n) Q)<|sg st g:=by
 dsimp only[hiB,gB];have la:u<a.size:=q.m.la;have lb:v<b.size:=q.m.lb;have p2:1<v+1:=q.q;have p3:u+1+(v+1)+n<=a.size+b.size:=q.r;have I:b[v]?=bj b[v]:=af lb;show km<|si I ?_;have J:=q.m.pushB H.sb I<|hi _ I;by_cases L:v=1
 .rw[qF<|by simp[L]];subst L;show ko<|.r _ _ _<|hiF H Y J
 rw[qL<|by simpa using L];have M:a[u]?=bj a[u]:=af la;have G:=H.ha _<|bu la;show km<|si M<|km<|yV H.C (base:=0) (n:=v) ∅ ∅ H.hb G H.hk (He H.C ∅ H.hb G<|by rw[fA];show H.sb) λl l1 l2 l3=>?_;have hB:∀z,a[u]?=bj z->∀y∈b.toList.take l,lt z y=f_:=λz hz y B=>by have(O,t,R):=Ex B;have q:=l2 O t;rw[yc R,qF rfl]at q;rw[M]at hz;cases hz;show H.C.asym _ _ (H.hb _<|AD B) G q
 dsimp only;by_cases cl:v-l>0
 .rw[qF cl];have S:=J.moreB H.sb (k:=l) l1 λx hx y B=>by have(O,T,t,R):=AC B;have q:=l3 O T t;rw[yc R,qF rfl]at q;show H.C.trans _ _ _ (H.ha _<|AD hx) G (H.hb y<|bC B |> AD) (JK H.C H.ha H.sa M x hx) q
  by_cases U:l=1
  .rw[qF<|by simp[U]];subst U;show ko<|.r _ _ _<|hiF H Y S
  rw[qL<|by simpa using U];by_cases X:l=0
  .rw[qF<|by simp[X]];show ko<|.r _ _ _<|H.h _ _<|S.end H.sa H.sb<|.inr X
  rw[qL<|by simpa using X];show abE H (S,q.p,by lia,by lia) hB
 .rw[qL cl];have:l=v:=by lia
  cases this;show abE H (J,q.p,by lia,by lia) hB
def abM(H:Lo prog w A s κ P lt a b st Q)(R:Hf lt a b)(q:MG lt a b n x) :
  wpS (kg prog w) A E s (hiA a b x.o x.i x.j x.m x.p x.q) (Lp H6 (λx=>sg st x.g) (MG lt a b n) (MG lt a b n) Q)<|sg st x.g:=by
 have(o,i,j,m,p,q',g):=x;have la:i<=a.size:=q.m.la;have p1:0<i:=q.p;have S:1<j:=q.q;have p3:i+j+n<=a.size+b.size:=q.r;obtain⟨v,rfl⟩:∃v,j=v+1:=(j-1,by lia);have lb:v<b.size:=q.m.lb;dsimp only[hiA,gB];have I:b[v]?=bj b[v]:=af lb;have B:=H.hb _<|bu lb;show km<|Cb<|km<|si I<|km<|yV H.C (base:=0) (n:=i) ∅ ∅ H.ha B H.hk (He H.C ∅ H.ha B<|by rw[fA];show H.sa) λk k1 k2 k3=>?_;have T:∀z,b[v]?=bj z->∀y∈a.toList.take k,lt z y=f_:=λz U y G=>by
  have(J,t,L):=Ex G;have q:=k2 J t;rw[yc L,qL ⋯]at q;rw[I]at U;cases U;simpa using q
 dsimp only;by_cases X:i-k>0
 .rw[qF X];have Y:=q.m.moreA H.sa (k:=k) k1 λx hx y G=>by
   have(J,M,t,L):=AC G;have q:=k3 J M t;rw[yc L,qL ⋯]at q;have py:=H.ha y<|bC G |> AD;show H.C.trans _ _ _ (H.hb _<|AD hx) B py (JK H.C H.hb H.sb I x hx)<|H.C.asym _ _ B py<|by simpa using q
  by_cases O:k=0
  .rw[qF<|by simp[O]];show ko<|.r _ _ _<|H.h _ m<|Y.end H.sa H.sb<|.inl O
  rw[qL<|by simpa using O];obtain⟨u,rfl⟩:∃u,k=u+1:=(k-1,by lia);show abD H R (g:=m) (Y,Nat.succ_pos _,S,by dsimp only;lia) T
 .rw[qL X];have:k=i:=by lia
  subst this;obtain⟨u,rfl⟩:∃u,k=u+1:=(k-1,by lia);show abD H R (q.m,p1,S,p3) T
def aiO(H:Lo prog w A s κ P lt a b st Q)(M:Hf lt a b)(q:MG lt a b (n+j) x) :
  wpS (kg prog w) A E s (hi1 a b m x.o x.i x.j x.p x.q) (Lp H5 (λx=>sg st x.g) (MG lt a b<|n+(j+1)) (MG lt a b<|n+1) Q)<|sg st x.g:=by
 have(o,i,k,U,p,O,g):=x;have S:0<i:=q.p;have T:1<k:=q.q;have X:i+k+(n+j)<=a.size+b.size:=q.r;obtain⟨u,rfl⟩:∃u,i=u+1:=(i-1,by lia);obtain⟨v,rfl⟩:∃v,k=v+1:=(k-1,by lia);have la:u<a.size:=q.m.la;have lb:v<b.size:=q.m.lb;dsimp only[hi1,gB];have G:a[u]?=bj a[u]:=af la;have I:b[v]?=bj b[v]:=af lb;have J:=H.ha _<|bu la;have L:=H.hb _<|bu lb;show km<|si I<|km<|si G<|km<|H.C.cmp L J H.hk ?_;cases e:lt b[v] a[u]with
 |true=>
  dsimp only;rw[qF rfl];show km<|si G ?_;have z:=q.m.pushA H.sa G λy B=>H.C.trans _ _ _ (H.hb _<|AD B) L J (JK H.C H.hb H.sb I y B)<|H.C.asym _ _ L J e;by_cases t:u=0
  .rw[qF<|by simp[t]];show ko<|.r _ _ _<|H.h _ _<|z.end H.sa H.sb<|.inl t
  rw[qL<|by simpa using t];have R:∀n,u+(v+1)+n<=a.size+b.size->MG lt a b n (_,_,_,0,p+1,0,g):=λn hn=>(z,gF t,T,hn);split;.show ko<|.d _<|R _ ∅
  .show ko<|.y _<|R _ ∅
 |false=>
  show km<|si I ?_;have z:=q.m.pushB H.sb I λy B=>H.C.trans _ _ _ (H.ha _<|AD B) J L (JK H.C H.ha H.sa G y B) e;by_cases t:v=1;.subst t;show ko<|.r _ _ _<|hiF H M z
  rw[qL<|by simpa using t];have R:∀n,u+1+v+n<=a.size+b.size->MG lt a b n (_,_,_,0,0,O+1,g):=λn hn=>(z,S,by lia,hn);split;.show ko<|.d _<|R _ ∅
  .show ko<|.y _<|R _ ∅
def aks(H:Lo prog w A s κ P lt a b st Q)(B:Hf lt a b)(q:MG lt a b n x) :
  wpS (kg prog w) A E s (hi0 a b x.o x.i x.j x.m) (Lp H4 (λx=>sg st x.g) (MG lt a b<|n+1) (λZ=>False) Q)<|sg st x.g:=by
 show BR H5 (λx=>sg st x.g) (λj=>MG lt a b<|n+j) (MG lt a b<|n+1) Q (x.o,x.i,x.j,0,0,0,x.g) (q.m,q.p,q.q,q.r) (λj x q=>aiO H B q) (λy h=>(h.m,h.p,h.q,by have:=h.r;have:=h.p;have:=h.q;lia)) (λy q=>?_) λr y G hr=>ko<|.r _ _ _ hr;show km<|BZ ?_;show BR H6 (λx=>sg st x.g) (λZ=>MG lt a b<|n+1) (MG lt a b<|n+1) Q (y.o,y.i,y.j,x.m+1,y.p,y.q,y.g) (q.m,q.p,q.q,q.r) (λj z q=>?_) (λZ h=>h) (λz q=>?_) λr y G hr=>ko<|.r _ _ _ hr
 .dsimp only;split;.show abM H B (x:=(_,_,_,z.m-1,_,_,z.g)) (q.m,q.p,q.q,q.r)
  .show abM H B q
 .show km<|Cb<|ko ?_;show Lp.y (t:=H4) (_,_,_,z.m+1,0,0,z.m+1) (q.m,q.p,q.q,q.r)
def QJ(C:Ff prog w A s κ P lt)(ha:∀x,x∈a->P x)(hb:∀x,x∈b->P x)(hk:kindOf st=κ)(sa:Da lt a.toList)(sb:Da lt b.toList)
  (L:0<a.size) (M:0<b.size) (J:∀x∈b.toList.take 1,∀y∈a.toList,lt y x=f_) (hl:∀x,a[a.size-1]?=bj x->∀y∈b.toList,lt x y=f_)
  (h:∀r g,Mrg lt a b r->Q r (sg st g)):wpS (kg prog w) A E s (Kt a b) Q st:=by
 have H:Lo prog w A s κ P lt a b st Q:=(C,ha,hb,hk,sa,sb,h);rw[QG];show km<|BZ ?_;have t:a[a.size-1]?=bj (a[a.size-1]'∅):=af ∅;show km<|si t ?_;have O:MH lt a b #[] (a.size-1+1) b.size:=(by lia,ae _,by rw[show a.size-1+1=a.toList.length by simp;rfl',bw,←aD,bw];simp,by simp[Da],by simp,by simp);have G:MH lt a b #[a[a.size-1]'∅] (a.size-1) b.size:=O.pushA sa t λy R=>hl _ t y<|bg R;by_cases B:a.size-1=0
 .rw[qF<|by simp[B]];show ko<|h _ (nv st)<|G.end sa sb<|.inl B
 rw[qL<|by simpa using B];by_cases I:b.size=1
 .rw[qF<|by simp[I]];have z:=G;rw[I]at z ⊢;show ko<|hiF H J z
 rw[qL<|by simpa using I];show km<|mq ?_;show BR H4 (λx=>sg st x.g) (λi=>MG lt a b<|i+1) (λZ=>False) Q (_,a.size-1,b.size,_,0,0,nv st) (G,gF B,by lia,by lia) (λi x q=>aks H J q) (λx h=>by have:=h.q;have:=h.r;lia) (λx h=>h.elim) λr y S hr=>ko hr
end
def FG(lt:kf->kf->Bool)(xs:Array kf)(i j:Nat):Prop:=∀p q x y,i<=p->p<=q->q<j->xs[p]?=bj x->xs[q]?=bj y->lt y x=f_
def Des(lt:kf->kf->Bool)(xs:Array kf)(i j:Nat):Prop:=∀p q x y,i<=p->p<=q->q<j->xs[p]?=bj x->xs[q]?=bj y->lt x y=f_
def Eqv(lt:kf->kf->Bool)(xs:Array kf)(i j:Nat):Prop:=∀p q x y,i<=p->p<j->i<=q->q<j->xs[p]?=bj x->xs[q]?=bj y->lt x y=f_
section
variable {lo:Nat}
def U3(l:j<=xs.size)(h:Des lt xs i j):FG lt (mirror xs i j<|(j-i) / 2) i j:=by
 intro p q x y t z u ex s;rw[mv l,qF (t,by lia)]at ex;rw[mv l,qF (by lia,u)]at s;show h _ _ _ _ ∅ ∅ ∅ s ex
def Gu(B:j<=xs.size)(hi:lo<=i)(hn:j<=n)(e:Eqv lt xs i j)(h:Des lt xs lo n):Des lt (mirror xs i j<|(j-i) / 2) lo n:=by
 intro p q x y t E u ex l;rw[mv B]at ex l;by_cases z:i<=p/\p<j
 .rw[qF z]at ex;by_cases s:i<=q/\q<j;.rw[qF s]at l;show e _ _ _ _ ∅ ∅ ∅ ∅ ex l
  .rw[qL s]at l;show h _ _ _ _ ∅ ∅ u ex l
 .rw[qL z]at ex;by_cases s:i<=q/\q<j;.simp only[qF s]at l;show h _ _ _ _ t ∅ ∅ ex l
  .rw[qL s]at l;show h _ _ _ _ t E u ex l
end
section
variable (lo:Nat)
noncomputable def crA(n:Nat):StateT SortSt Sem<|ForInStep<|Option (Option Nat)×Nat:=do
 match ←ltAt' (lo+n) (lo+n-1)with
 |bj c=>if c then pure (.done %[n_|n])else pure (.yield %[n_|n+1])
 |_=>pure (.done %[bj n_|n])
noncomputable def crB(n q:Nat):StateT SortSt Sem<|ForInStep<|Option (Option Nat)×Nat×Nat:=do
 match ←ltAt' (lo+n) (lo+n-1)with
 |bj c=>
  if c then
   if q>0 then do
    let _ ←mB (lo+n-(q+1)) (lo+n)
    pure (.yield %[n_|%[n+1|0]])
   else pure (.yield %[n_|%[n+1|0]])
  else do
   match ←ltAt' (lo+n-1) (lo+n)with
   |bj c=>if c then pure (.done %[n_|%[n|q]])else pure (.yield %[n_|%[n+1|q+1]])
   |_=>pure (.done %[bj n_|%[n|q]])
 |_=>pure (.done %[bj n_|%[n|q]])
noncomputable def crZ(l n:Nat):StateT SortSt Sem<|Option Nat:=do
 mB lo (lo+n)
 let r ←forIn [n:l] %[n_|n] λQ s=>crA lo s.2
 Break.runK.match_1 (λQ=>StateT SortSt Sem<|Option Nat) r.1 (λv=>pure v) λQ=>pure<|bj r.2
def crD(l n:Nat):StateT SortSt Sem<|Option Nat:=do
 rule "list.sort.descending-run"
 let r ←forIn [n+1:l] %[n_|%[n+1|0]] λQ s=>crB lo s.2.1 s.2.2
 Break.runK.match_1 (λQ=>StateT SortSt Sem<|Option Nat) r.1 (λv=>pure v) λQ=>if r.2.2>0 then do
   let _ ←mB (lo+r.2.1-(r.2.2+1)) (lo+r.2.1)
   crZ lo l r.2.1
  else crZ lo l r.2.1
def ak4 l:countRun' lo l=(do
 let r ←forIn [1:l] %[n_|1] λQ s=>crA lo s.2
 Break.runK.match_1 (λQ=>StateT SortSt Sem<|Option Nat) r.1 (λv=>pure v) λQ=>if r.2 == l then pure<|bj r.2
  else if r.2>1 then do
   match ←ltAt' lo (lo+r.2-1)with
   |bj c=>
    if c then pure (bj r.2)
    else do
     let _ ←mB lo (lo+r.2)
     crD lo l r.2
   |_=>pure n_
  else crD lo l r.2):=countRun'_eq lo l
end
section
variable {P:kf->Prop}
def ae1(C:Ff prog w A s κ P lt)(n:∀x,x∈xs->P x)lo:FG lt xs lo<|lo+1:=by
 intro p q x y t u z ex l;have e:p=q:=by lia
 subst e;rw[ex]at l;cases l;show C.refl<|n _<|aQq ex
def ZW(C:Ff prog w A s κ P lt)(t:∀x,x∈xs->P x){lo}(h:FG lt xs lo<|lo+(n+1))(B:∀x y,xs[lo+(n+1)]?=bj x->xs[lo+n]?=bj y->lt x y=f_)(J:lo+(n+1)<xs.size):FG lt xs lo<|lo+(n+2):=by
 intro p q x y z G L ex l;by_cases c:q<lo+(n+1);.show h p q x y z G c ex l
 .have H:q=lo+(n+1):=by lia
  subst H;by_cases I:p=lo+(n+1);.subst I;rw[ex]at l;cases l;show C.refl<|t _<|aQq ex
  .have u:xs[lo+n]?=bj (xs[lo+n]'∅):=af ∅;show C.trans _ _ _ (t _<|aQq ex) (t _<|aQq u) (t _<|aQq l) (h p (lo+n) _ _ z ∅ (by rfl') ex u)<|B _ _ l u
def RE(C:Ff prog w A s κ P lt)(t:∀x,x∈xs->P x){lo}(h:Des lt xs lo<|lo+(n+1))(B:∀x y,xs[lo+(n+1)]?=bj x->xs[lo+n]?=bj y->lt y x=f_)(J:lo+(n+1)<xs.size):Des lt xs lo<|lo+(n+2):=by
 intro p q x y z G L ex l;by_cases c:q<lo+(n+1);.show h p q x y z G c ex l
 .have H:q=lo+(n+1):=by lia
  subst H;by_cases I:p=lo+(n+1);.subst I;rw[ex]at l;cases l;show C.refl<|t _<|aQq ex
  .have u:xs[lo+n]?=bj (xs[lo+n]'∅):=af ∅;show C.trans _ _ _ (t _<|aQq l) (t _<|aQq u) (t _<|aQq ex) (B _ _ l u)<|h p (lo+n) _ _ z ∅ (by rfl') ex u
def Sl(C:Ff prog w A s κ P lt){lo}{st}(J:∀x,x∈kE st->P x)(hk:kindOf st=κ)(ha:1<=a)(u:a<=t)(S:lo+t<=(kE st).size)(O:FG lt (kE st) lo<|lo+a) :
  wpS (kg prog w) A E s (forIn [a:t] (%[n_|a]:Option (Option Nat)×Nat) λZ s=>crA lo s.2)
   (λc l=>∃n,c=%[n_|n]/\l=st/\a<=n/\n<=t/\FG lt (kE st) lo (lo+n)/\(n=t∨∃x y,(kE st)[lo+n]?=bj x/\(kE st)[lo+n-1]?=bj y/\lt x y=t_)) st:=by
 show kS (I:=λi c l=>c=%[n_|i]/\l=st/\a<=i/\i<=t/\FG lt (kE st) lo (lo+i)) ?step ?fin (rfl,rfl,ae _,u,O);case step=>
  rintro i c l T Q ⟨rfl,rfl,G,L,z⟩;obtain⟨k,rfl⟩:∃k,i=k+1:=(i-1,by lia);have ex:(kE l)[lo+(k+1)]?=bj ((kE l)[lo+(k+1)]'∅):=af ∅;have H:(kE l)[lo+(k+1)-1]?=bj ((kE l)[lo+k]'∅):=af ∅;show km<|C.at ex H (J _<|aQq ex) (J _<|aQq H) hk ?_;cases e:lt ((kE l)[lo+(k+1)]'∅)<|(kE l)[lo+k]'∅with
  |true=>show ko (_,rfl,rfl,G,L,z,.inr (_,_,ex,H,e))
  |false=>
   show ko (rfl,rfl,by rfl',Q,ZW C J z (λx y M R=>?_) ∅);have B:(kE l)[lo+(k+1)-1]?=bj y:=R;rw[ex]at M;rw[H]at B;cases M;cases B;show e
 case fin=>rintro c l ⟨rfl,rfl,G,L,z⟩;have e:=Nat.max_eq_right u;rw[e]at G L z ⊢;show(t,rfl,rfl,G,ae _,z,.inl rfl)
def JX{st}(h:Q ()<|kY st<|mirror (kE st) i j<|(j-i) / 2):wpS (kg prog w) A E s (mB i j) Q st:=by show lW h
structure Dv (xs ys:Array kf)(lo hi:Nat):Prop where
 pm:ys.Perm xs
 out:∀k,(k<lo∨hi<=k)->ys[k]?=xs[k]?
theorem Dv.refl(xs)lo hi:Dv xs xs lo hi:=(jF.refl _,λQ Q=>rfl)
theorem Dv.trans{lo}(a:Dv xs l lo hi)(b:Dv l n lo hi):Dv xs n lo hi:=(b.pm.trans a.pm,λk h=>(b.out k h).trans<|a.out k h)
def Dv.mono{lo}(a:Dv xs n lo hi)(h:hi<=l):Dv xs n lo l:=(a.pm,λk q=>a.out k ∅)
theorem Dv.size{lo}(a:Dv xs l lo hi):l.size=xs.size:=a.pm.size_eq
def Dv.mem{lo}(a:Dv xs l lo hi)(h:∀x,x∈xs->P x):∀x,x∈l->P x:=λx n=>h x<|a.pm.mem_iff.mp n
def Dc{lo}(l:j<=xs.size)(n:lo<=i)(t:j<=hi):Dv xs (mirror xs i j<|(j-i) / 2) lo hi:=(mirror_perm _ _ _ _,λk hk=>by rw[mv l,qL ∅])
structure CR (lt:kf->kf->Bool)(as:Array kf)(lo i q:Nat)(ys:Array kf):Prop where
 b:Dv as ys lo<|lo+i
 d:Des lt ys lo<|lo+i
 e:Eqv lt ys (lo+i-(q+1))<|lo+i
 p:q+1<=i
def JO(C:Ff prog w A s κ P lt)(u:∀x,x∈l->P x)(h:j<=i+1):Eqv lt l i j:=by
 intro p q x y z g2 B G n t;have e:p=q:=by lia
 subst e;rw[n]at t;cases t;show C.refl<|u _<|aQq n
def ajf(C:Ff prog w A s κ P lt){lo}{st}(R:∀x,x∈kE st->P x)(hk:kindOf st=κ)(hz:lo+u<=(kE st).size)(hi:k+1<u)(g:CR lt (kE st) lo (k+1) n l) :
  wpS (kg prog w) A E s (crB lo (k+1) n) (λr Qj=>∃m q S,Qj=kY st S/\m<=u/\CR lt (kE st) lo m q S/\(r = .done %[n_|%[m|q]]∨r = .yield %[n_|%[m|q]]/\m=k+1+1))<|kY st l:=by
 have H:=g.b;have g2:=g.d;have O:=g.e;have g4:=g.p;have t:=H.mem R;have hsz:=H.size;have ex:l[lo+(k+1)]?=bj (l[lo+(k+1)]'∅):=af ∅;have B:l[lo+(k+1)-1]?=bj (l[lo+k]'∅):=af ∅;have G:=t _<|aQq ex;have py:=t _<|aQq B;have I:lt (l[lo+k]'∅) (l[lo+(k+1)]'∅)=f_->Des lt l lo (lo+(k+1+1)):=λe=>RE C t g2 (λx y T hy=>by have J:l[lo+(k+1)-1]?=bj y:=hy;rw[ex]at T;rw[B]at J;cases T;cases J;show e) ∅;show km<|C.at (st:=kY st l) ex B G py hk ?_;cases e:lt (l[lo+(k+1)]'∅)<|l[lo+k]'∅with
 |true=>
  have L:=I<|C.asym _ _ G py e;dsimp only;rw[qF rfl];by_cases U:n>0
  .rw[qF U];show km<|JX<|ko ?_;have X:Dv (kE st) (mirror l (lo+(k+1)-(n+1)) (lo+(k+1))<|(lo+(k+1)-(lo+(k+1)-(n+1))) / 2) lo<|lo+(k+1):=H.trans<|Dc ∅ ∅<|ae _;show(_,0,_,rfl,hi,(X.mono ∅,Gu ∅ ∅ ∅ O L,JO C (X.mem R) ∅,by lia),.inr (rfl,rfl))
  .rw[qL U];show ko (_,0,l,rfl,hi,(H.mono ∅,L,JO C t ∅,by lia),.inr (rfl,rfl))
 |false=>
  dsimp only;rw[qL ⋯];show km<|C.at (st:=kY st l) B ex py G hk ?_;cases Y:lt (l[lo+k]'∅)<|l[lo+(k+1)]'∅with
  |true=>show ko (_,n,l,rfl,bZ hi,g,.inl rfl)
  |false=>
   show ko (_,n+1,l,rfl,hi,(H.mono ∅,I Y,?_,by rfl'),.inr (rfl,rfl));intro p q x y h1 h2 h3 h4 M z;have qx:=t _<|aQq M;have qy:=t _<|aQq z;by_cases cp:p=lo+(k+1)
   .subst cp;rw[ex]at M;cases M;by_cases Q:q=lo+(k+1);.subst Q;rw[ex]at z;cases z;show C.refl G
    .show C.trans _ _ _ qy py G (O (lo+(k+1)-1) q _ _ (by ac_nf) ∅ ∅ ∅ B z) e
   .by_cases Q:q=lo+(k+1);.subst Q;rw[ex]at z;cases z;show C.trans _ _ _ G py qx Y<|O p (lo+(k+1)-1) _ _ ∅ ∅ (by ac_nf) ∅ M B
    .show O p q x y ∅ ∅ ∅ ∅ M z
abbrev amD(lt:kf->kf->Bool)(st:SortSt)(lo l:Nat)(Q:Option Nat->SortSt->Prop):=∀n xs,1<=n->n<=l->Dv (kE st) xs lo (lo+n)->FG lt xs lo (lo+n)->Q (bj n) (kY st xs)
def acX(C:Ff prog w A s κ P lt){lo}{st}(B:∀x,x∈kE st->P x)(hk:kindOf st=κ)(G:lo+l<=(kE st).size)(h:amD lt st lo l Q)
  (H:1<=m) (I:m<=l) (b:Dv (kE st) n lo<|lo+m) (d:Des lt n lo<|lo+m):wpS (kg prog w) A E s (crZ lo l m) Q<|kY st n:=by
 show km<|JX ?_;have J:=b.size;have L:=U3 ∅ d;have t:=b.trans<|Dc ∅ (ae _)<|ae _;show km<|kT (Sl C (t.mem B) hk H I (bh G<|fj t.size.symm) L) ?_;rintro c Qj ⟨M,rfl,rfl,O,u,z,_⟩;show ko<|h M _ ∅ u (t.mono<|by ac_nf) z
def aaD(C:Ff prog w A s κ P lt){lo}{st}(u:∀x,x∈kE st->P x)(hk:kindOf st=κ)(z:lo+l<=(kE st).size)(h:amD lt st lo l Q)
  (hn:n<l) (b:Dv (kE st) xs lo<|lo+n) (d:Des lt xs lo<|lo+(n+1)):wpS (kg prog w) A E s (crD lo l n) Q<|kY st xs:=by
 show km (BZ (km (kT (kS
  (I:=λi c Qj=>∃q t,c=%[n_|%[i|q]]/\Qj=kY st t/\i<=l/\CR lt (kE st) lo i q t)
  (Q:=λc Qj=>∃m q t,c=%[n_|%[m|q]]/\Qj=kY st t/\m<=l/\CR lt (kE st) lo m q t)
  ?_ ?_ (0,xs,rfl,rfl,hn,b.mono<|by rfl',d,JO C (b.mem u)<|by rfl',by rfl')) ?_)))
 .rintro i c Qj _ hi ⟨q,t,rfl,rfl,_,g⟩;obtain⟨k,rfl⟩:∃k,i=k+1:=(i-1,by lia);show kT (ajf C u hk z hi g) λr Qj hr=>?_;obtain⟨m,q,B,rfl,hm,G,rfl|⟨rfl,rfl⟩⟩:=hr;.show(m,q,B,rfl,rfl,hm,G)
  .show(q,B,rfl,rfl,hm,G)
 .rintro c Qj ⟨q,t,rfl,rfl,hm,g⟩;show(_,q,t,rfl,rfl,hm,g)
 .rintro c Qj ⟨m,q,t,rfl,rfl,hm,g⟩;have J:=g.b.size;have L:=g.p;by_cases H:q>0;.simp only[qF H];show km<|JX<|acX (st:=st) C u hk z h ∅ hm (g.b.trans<|Dc ∅ ∅<|ae _)<|Gu ∅ ∅ (ae _) g.e g.d
  .rw[qL H];show acX C u hk z h ∅ hm g.b g.d
def PN(C:Ff prog w A s κ P lt){lo}{st}(u:∀x,x∈kE st->P x)(hk:kindOf st=κ)(h1:1<=t)(O:lo+t<=(kE st).size)
  (h:∀n xs,1<=n->n<=t->Dv (kE st) xs lo (lo+n)->FG lt xs lo (lo+n)->Q (bj n) (kY st xs)):wpS (kg prog w) A E s (countRun' lo t) Q st:=by
 rw[ak4];show km<|kT (Sl C u hk (ae 1) h1 O<|ae1 C u lo) ?_;rintro c l ⟨n,rfl,rfl,n1,n2,G,R⟩;dsimp only;have B:Q (bj n) l:=h n (kE l) n1 n2 (Dv.refl _ _ _) G;by_cases S:n=t
 .rw[qF<|by simp[S]];show ko B
 rw[qL<|by simpa using S];have(xb,yb,J,z,eb):=R.resolve_left S;obtain⟨m,rfl⟩:∃m,n=m+1:=(n-1,by ac_nf);have T:=u _<|aQq J;have H:=u _<|aQq z;have go:Eqv lt (kE l) lo (lo+(m+1))->Des lt (kE l) lo (lo+(m+1+1)):=λe1=>RE C u (λp q x y U g2 X ex ey=>e1 p q x y U ∅ ∅ X ex ey) (λx y Y hy=>by have L:(kE l)[lo+(m+1)-1]?=bj y:=hy;rw[J]at Y;rw[z]at L;cases Y;cases L;show C.asym _ _ T H eb) ∅;by_cases c2:m+1>1
 .rw[qF c2];have ex:(kE l)[lo]?=bj ((kE l)[lo]'∅):=af ∅;have I:=u _<|aQq ex;show km<|C.at ex z I H hk ?_;cases e:lt ((kE l)[lo]'∅) yb with
  |true=>show ko B
  |false=>
   have M:Eqv lt (kE l) lo<|lo+(m+1):=by
    intro p q x y U g2 X g4 gx gy;have px:=u _<|aQq gx;have py:=u _<|aQq gy;have q1:=G q (lo+(m+1)-1) _ _ X (by rfl') (by rfl') gy z;have q2:=G lo p _ _ (ae _) U g2 ex gx;show C.trans _ _ _ py I px (C.trans _ _ _ py H I q1 e) q2
   show km<|JX<|aaD C u hk O h ∅ (Dc ∅ (ae _)<|ae _)<|Gu ∅ (ae _) (by rfl') M<|go M
 .rw[qL c2];show aaD C u hk O h ∅ (Dv.refl _ _ _)<|go<|JO C u ∅
end
def ae8(C:Ff prog w A s κ P lt)(I:∀x,x∈xs->P x){lo}(Q:lo+k<xs.size)(hl:l<=k)(H:FG lt xs lo<|lo+k)(J:xs[lo+k]?=bj x)
  (R:∀j y,j<l->xs[lo+j]?=bj y->lt x y=f_) (S:∀j y,l<=j->j<k->xs[lo+j]?=bj y->lt x y=t_):FG lt (bubble xs (lo+k)<|k-l) lo<|lo+(k+1):=by
 have L:=I _<|aQq J;have g:∀p,(bubble xs (lo+k)<|k-l)[p]?=if p=lo+l then bj x else if lo+l<p/\p<=lo+k then xs[p-1]? else xs[p]?:=λp=>by rw[getElem?_bubble Q (k-l) (by ac_nf) p,show lo+k-(k-l)=lo+l by lia,J]
 intro p q u v M T U t n;rw[g]at t n;by_cases O:p=lo+l
 .rw[qF O]at t;cases t;by_cases z:q=lo+l;.rw[qF z]at n;cases n;show C.refl L
  .rw[qL z,qF (by lia,by lia)]at n;have pv:=I _<|aQq n;show C.asym _ _ L pv<|S (q-1-lo) v ∅ ∅<|by rw[show lo+(q-1-lo)=q-1 by lia];show n
 .rw[qL O]at t;by_cases B:lo+l<p/\p<=lo+k
  .rw[qF B]at t;rw[qL ∅,qF (by lia,by lia)]at n;show H (p-1) (q-1) _ _ ∅ ∅ ∅ t n
  .rw[qL B]at t;by_cases z:q=lo+l;.rw[qF z]at n;cases n;show R (p-lo) u ∅<|by rw[show lo+(p-lo)=p by rfl'];show t
   .rw[qL z]at n;by_cases G:lo+l<q/\q<=lo+k;.rw[qF G]at n;show H p (q-1) _ _ M ∅ ∅ t n
    .rw[qL G]at n;show H p q _ _ M T ∅ t n
def Ti{lo}(t:lo+k<xs.size)(hl:l<=k)(hn:k<n):Dv xs (bubble xs (lo+k)<|k-l) lo<|lo+n:=(bubble_perm _ _ _,λp u=>by rw[getElem?_bubble t (k-l) (by ac_nf) p,qL ∅,qL ∅])
def ab7{st}(h:Q ()<|kY st<|bubble (kE st) l<|l-n):wpS (kg prog w) A E s (moveDown' l n) Q st:=by show lW h
def UZ(C:Ff prog w A s κ P lt){lo}{st}(U:∀x,x∈kE st->P x)(hk:kindOf st=κ)(X:1<=ok)(Y:ok<=n)(hz:lo+n<=(kE st).size)(hs:FG lt (kE st) lo<|lo+ok)
  (h:∀xs,Dv (kE st) xs lo (lo+n)->FG lt xs lo (lo+n)->Q t_ (kY st xs)):wpS (kg prog w) A E s (binarySort' lo n ok) Q st:=by
 rw[binarySort'_eq];dsimp only;rw[Nat.max_eq_left X];show km (kT (kS (I:=λk c u=>∃t,c=%[n_|()]/\u=kY st t/\Dv (kE st) t lo (lo+n)/\FG lt t lo (lo+k)/\k<=n)
  (Q:=λc u=>∃t,c=%[n_|()]/\u=kY st t/\Dv (kE st) t lo (lo+n)/\FG lt t lo (lo+n)) ?step ?fin (kE st,rfl,rfl,Dv.refl _ _ _,hs,Y)) ?post);case fin=>
  rintro c u ⟨t,rfl,rfl,b1,s1,q⟩;have e:max ok n=n:=by ac_nf
  rw[e]at s1;show(t,rfl,rfl,b1,s1)
 case post=>rintro c u ⟨t,rfl,rfl,b1,s1⟩;show ko<|h t b1 s1
 case step=>
  rintro k c u hk1 J ⟨t,rfl,rfl,b1,s1,q⟩;have z:=b1.mem U;have hsz:=b1.size;have ex:t[lo+k]?=bj (t[lo+k]'∅):=af ∅;have O:=z _<|aQq ex;show km (kT (kS (I:=λi c u=>∃l r,c=%[n_|%[l|r]]/\u=kY st t/\l<=r/\r<=k/\(∀j y,j<l->t[lo+j]?=bj y->lt (t[lo+k]'∅) y=f_)/\(∀j y,r<=j->j<k->t[lo+j]?=bj y->lt (t[lo+k]'∅) y=t_)/\(r-l)+i<=k)
   (Q:=λc u=>∃l r,c=%[n_|%[l|r]]/\u=kY st t/\l=r/\r<=k/\(∀j y,j<l->t[lo+j]?=bj y->lt (t[lo+k]'∅) y=f_)/\(∀j y,r<=j->j<k->t[lo+j]?=bj y->lt (t[lo+k]'∅) y=t_))
   ?step1 ?fin1 (0,k,rfl,rfl,aY _,ae _,λj y hj=>absurd hj<|dN _,λj y R g2=>absurd g2 ∅,by rfl')) ?post1);case fin1=>rintro c u ⟨l,r,rfl,rfl,a1,B,G,H,a5⟩;show(l,r,rfl,rfl,by lia,B,G,H)
  case step1=>
   rintro i c u _ hi ⟨l,r,rfl,rfl,a1,B,G,H,a5⟩;dsimp only;by_cases S:l ≥ r;.rw[qF S];show ko (l,r,rfl,rfl,by rfl',B,G,H)
   rw[qL S];have M:t[lo+(l+r) / 2]?=bj (t[lo+(l+r) / 2]'∅):=af ∅;have pm:=z _<|aQq M;show km<|C.at (st:=kY st t) ex M O pm hk ?_;cases e:lt (t[lo+k]'∅)<|t[lo+(l+r) / 2]'∅with
   |true=>
    dsimp only;rw[qF rfl];show ko (l,_,rfl,rfl,by lia,by lia,G,λj y R g2 L=>?_,by lia);have py:=z _<|aQq L;cases e':lt (t[lo+k]'∅) y with
    |true=>rfl
    |false=>
     have q1:=s1 (lo+(l+r) / 2) (lo+j) _ _ (by rfl') (by ac_nf) (by ac_nf) M L;have T:=C.trans _ _ _ pm py O q1 e';rw[e]at T;cases T
   |false=>
    dsimp only;rw[qL ⋯];show ko (_,r,rfl,rfl,by lia,B,λj y R L=>?_,H,by lia);have py:=z _<|aQq L;show C.trans _ _ _ py pm O (s1 (lo+j) (lo+(l+r) / 2) _ _ (by rfl') ∅ ∅ L M) e
  case post1=>
   rintro c u ⟨l,r,rfl,rfl,rfl,B,G,H⟩;show km<|ab7<|ko ?_;have e:lo+k-(lo+l)=k-l:=by lia
   rw[e];show(_,rfl,rfl,b1.trans<|Ti ∅ B J,ae8 C z ∅ B s1 ex G H,J)
def wL(lt:kf->kf->Bool)(xs:Array kf):Nat->List (Nat×Nat×Nat)->Nat->Prop
 |s,[],e=>s=e
 |s,p::r,e=>p.1=s/\0<p.2.1/\FG lt xs s (s+p.2.1)/\wL lt xs (s+p.2.1) r e
theorem yA:∀{q r}{s e},wL lt xs s (q++r) e↔∃m,wL lt xs s q m/\wL lt xs m r e
 | [],r,s,e=>by
  constructor;.intro h;show(s,rfl,h)
  .rintro⟨m,rfl,h⟩;show h
 |p::q,r,s,e=>by
  constructor;.rintro⟨l,n,t,u⟩;have(m,a,b):=yA.mp u;show(m,(l,n,t,a),b)
  .rintro⟨m,⟨l,n,t,a⟩,b⟩;show(l,n,t,yA.mpr (m,a,b))
theorem DT:∀{q}{s e},wL lt xs s q e->s+q.length<=e
 | [],s,e,h=>by have:s=e:=h;simp[this]
 |p::q,s,e,hz=>by have(_,n,_,l):=hz;have:=DT l;rw[lCq];lia
theorem Bh:∀{q}{s e},(∀k,s<=k->k<e->n[k]?=xs[k]?)->wL lt xs s q e->wL lt n s q e
 | [],s,e,_,h=>h
 |p::q,s,e,g,hz=>by
  have(z,B,E,t):=hz;have l:=DT t;show(z,B,λa b x y u G H ex I=>E a b x y u G H ?_ ?_,Bh (λk L J=>g k ∅ J) t);.rw[←g a u ∅];show ex
  .rw[←g b ∅ ∅];show I
theorem G8:∀{q l}{s e},l.map (λp=>%[p.1|p.2.1])=q.map (λp=>%[p.1|p.2.1])->wL lt xs s q e->wL lt xs s l e
 | [],l,s,e,g,h=>by
  have:l=[]:=by simpa using g
  subst this;show h
 |p::q,[],s,e,g,h=>by simp at g
 |p::q,p'::l,s,e,g,hz=>by have(x,n,t,u):=hz;simp only[aq,List.cons.injEq,Prod.mk.injEq]at g;have((z,g2),B):=g;rw[←g2]at n t u;show(z.trans x,n,t,G8 B u)
theorem NZ o:∀M n (xs:Array kf),o+n+M.length<=xs.size ->
  ((M.zipIdx n).foldl (λa x=>a.setIfInBounds (o+x.2) x.1) xs).toList=xs.toList.take (o+n)++M++xs.toList.drop (o+n+M.length)
 | [],n,xs,h=>by simp
 |y::r,n,xs,h=>by
  simp only[List.zipIdx_cons,gi];rw[lCq]at h;rw[NZ o r (n+1) _<|by rw[Array.size_setIfInBounds];lia,gP];have hl:o+n<xs.toList.length:=by rw[aD];lia
  have e1:(xs.toList.set (o+n) y).take (o+(n+1))=xs.toList.take (o+n)++[y]:=by rw[←fO,dR,aV hl,List.take_set_of_le<|ae _];rfl
  have e2:(xs.toList.set (o+n) y).drop (o+(n+1)+r.length)=xs.toList.drop (o+n+(r.length+1)):=by
   rw[List.drop_set_of_lt<|by rfl'];rfl'
  simp only[e1,e2,ak,ak,ak];rfl
def VL(C:Ff prog w A s κ P lt)(hb:base+n<=arr.size)(ha:∀x,x∈arr->P x)(l:P key)(so:FG lt arr base<|base+n) :
  ∀i j,i<=j->j<n->CJ lt left key arr base j=t_->CJ lt left key arr base i=t_:=by
 intro i j G I h;have t:arr[base+i]?=bj (arr[base+i]'∅):=af ∅;have u:arr[base+j]?=bj (arr[base+j]'∅):=af ∅;have z:=ha _<|aQq t;have B:=ha _<|aQq u;have le:=so (base+i) (base+j) _ _ (by rfl') (by ac_nf) (by ac_nf) t u;rw[yc u]at h;rw[yc t];cases left with
 |true=>rw[qF rfl]at h ⊢;cases q:lt (arr[base+i]'∅) key with
  |true=>rfl
  |false=>have:=C.trans _ _ _ l z B q le;rw[h]at this;cases this
 |false=>
  have H:=by simpa using h
  have:=C.trans _ _ _ z B l le H;simp[this]
def xV{a:Array kf}(h:x∈(a.extract i j).toList):∃k,i<=k/\k<j/\a[k]?=bj x:=by rw[ve]at h;have(k,l,n,e):=AC h;rw[cO]at e;show(k,l,n,e)
def Ja(h:FG lt a i j):Da lt (a.extract i j).toList:=by
 rw[ve];show cT.mpr λp q l n t=>?_;simp only[au,lTq]at l n;have e:∀k hk,a[i+k]?=bj ((a.toList.take j).drop i)[k]:=λk hk=>by rw[au,lTq,aD]at hk;rw[aR];show(by lia,by simp)
 show h (i+p) (i+q) _ _ (by rfl') ∅ ∅ (e p _)<|e q _
def RJ i:mergeAt' i=(do
 let s ←get
 let %[bj %[sa|%[l|n]]|bj %[sb|%[t|_]]]:=%[(lI s)[i]?|(lI s)[i+1]?]|unsupported "internal:list.sort.pending"
 set (setPending s<|((lI s).setIfInBounds i %[sa|%[l+t|n]]).eraseIdxIfInBounds<|i+1)
 let bj k ←Bc f_ (←ly (kE s) sb) (kE s) sa l 0|return f_
 let %[sa|l]:=%[sa+k|l-k]
 if l == 0 then return t_
 let bj t ←Bc t_ (←ly (kE s) (sa+l-1)) (kE s) sb t (t-1)|return f_
 if t == 0 then return t_
 let x:=(kE s).extract sa sb
 let y:=(kE s).extract sb<|sb+t
 let merged ←if l<=t then RP x y else Kt x y
 modify λs=>kY s<|merged.toList.zipIdx.foldl (λa %[p|j]=>a.setIfInBounds (sa+j) p)<|kE s
 return (failedOf<|←get).isNone):=rfl
def YN{st}(h:Q ⟨⟩ l):wpS (kg prog w) A E s (set l:StateT SortSt Sem PUnit) Q st:=by show kA (rfl,h)
def aaH(C:Ff prog w A s κ P lt)(B:∀x,x∈xs->P x)(hz:sa+n+G<=xs.size)(hk:k<=n)(hl:l<=G)(X:FG lt xs sa<|sa+n)(S:FG lt xs (sa+n)<|sa+n+G)
  (Y:xs[sa+n]?=bj key) (el:xs[sa+n-1]?=bj last)
  (k2:∀j y,j<k->xs[sa+j]?=bj y->lt key y=f_) (l3:∀j y,l<=j->j<G->xs[sa+n+j]?=bj y->lt y last=f_) (hna:0<n) (hnb:0<G)
  (m:Mrg lt (xs.extract (sa+k)<|sa+n) (xs.extract (sa+n)<|sa+n+l) M)
  (J:R.toList=xs.toList.take (sa+k)++M.toList++xs.toList.drop (sa+k+M.toList.length)):Dv xs R sa (sa+n+G)/\FG lt R sa (sa+n+G):=by
 have lM:M.toList.length=(n-k)+l:=by have:=m.pm.length_eq;simp only[lAq,aD,fg]at this ⊢;lia
 have hlx:xs.toList.length=xs.size:=aD;have gz:∀p,R[p]?=if p<sa+k then xs[p]? else if p<sa+n+l then M[p-(sa+k)]? else xs[p]?:=λp=>by
  rw[←aO,J];by_cases I:p<sa+k;.rw[qF I,ak,gZq<|by rw[lTq];lia,cZ I,aO]
  .rw[qL I,ak,gYq<|by rw[lTq];lia,lTq,show min (sa+k) xs.toList.length=sa+k by lia];by_cases c2:p<sa+n+l;.rw[qF c2,gZq ∅,aO]
   .rw[qL c2,gYq ∅,dF,aO];congr 1;lia
 have pk:=B _<|aQq Y;have pl:=B _<|aQq el;have z:∀q v,M[q]?=bj v->(∃j,k<=j/\j<n/\xs[sa+j]?=bj v)∨∃j,j<l/\xs[sa+n+j]?=bj v:=λq v e=>by
  have L:v∈M.toList:=by simpa using aQq e
  rcases mAq.mp (m.pm.mem_iff.mp L)with L|L;.have(j,H,T,u):=xV L;show .inl (j-sa,by lia,by lia,by rw[show sa+(j-sa)=j by lia];show u)
  .have(j,H,T,u):=xV L;show .inr (j-(sa+n),by lia,by rw[show sa+n+(j-(sa+n))=j by rfl'];show u)
 show((?_,λp hp'=>?_),?_)
 .rw[Array.perm_iff_toList_perm,J];have c:xs.toList=xs.toList.take (sa+k)++((xs.extract (sa+k)<|sa+n).toList++(xs.extract (sa+n)<|sa+n+l).toList)++xs.toList.drop (sa+k+M.toList.length):=by
   rw[ve,ve,lM];have U:=HU xs.toList (sa+k) (sa+n)<|by ac_nf
   have O:=HU xs.toList (sa+n) (sa+n+l) ∅;have a3:sa+k+(n-k+l)=sa+n+l:=by ac_nf
   rw[a3,←ak,←U,←O,aZ]
  conv=>rhs;rw[c]
  show bS.append_right _<|bS.append_left _ m.pm
 .rw[gz];by_cases I:p<sa+k;.rw[qF I]
  .rw[qL I,qL ∅]
 .intro p q x y U O a3 ex t;rw[gz]at ex t;by_cases p1:p<sa+k
  .rw[qF p1]at ex;have px:=B _<|aQq ex;have lx:lt key x=f_:=k2 (p-sa) x ∅<|by rw[show sa+(p-sa)=p by rfl'];show ex
   by_cases q1:q<sa+k;.rw[qF q1]at t;show X p q _ _ U O ∅ ex t
   .rw[qL q1]at t;by_cases Q:q<sa+n+l
    .rw[qF Q]at t;rcases z _ _ t with⟨j,H,T,u⟩|⟨j,H,u⟩;.show X p (sa+j) _ _ U ∅ (by ac_nf) ex u
     .show C.trans _ _ _ px pk (B _<|aQq u) lx<|S (sa+n) (sa+n+j) _ _ (ae _) ∅ ∅ Y u
    .rw[qL Q]at t;show C.trans _ _ _ px pk (B _<|aQq t) lx<|S (sa+n) q _ _ (ae _) ∅ ∅ Y t
  .rw[qL p1]at ex;rw[qL ∅]at t;by_cases p2:p<sa+n+l
   .simp only[qF p2]at ex;by_cases Q:q<sa+n+l
    .rw[qF Q]at t;rcases eZ O with c|c
     .have ex':M.toList[p-(sa+k)]?=bj x:=by rw[aO];show ex
      have ey':M.toList[q-(sa+k)]?=bj y:=by rw[aO];show t
      have(hx,e1):=gSq.mp ex';have(hy,e2):=gSq.mp ey';have:=cT.mp m.so (p-(sa+k)) (q-(sa+k)) hx hy ∅;rw[e1,e2]at this;show this
     .subst c;rw[ex]at t;cases t;rcases z _ _ ex with⟨j,H,T,u⟩|⟨j,H,u⟩;.show C.refl<|B _<|aQq u
      .show C.refl<|B _<|aQq u
    .rw[qL Q]at t;have py:=B _<|aQq t;rcases z _ _ ex with⟨j,H,T,u⟩|⟨j,H,u⟩;.show C.trans _ _ _ (B _<|aQq u) pl py (X (sa+j) (sa+n-1) _ _ (by rfl') ∅ ∅ u el)<|l3 (q-(sa+n)) y ∅ ∅<|by rw[show sa+n+(q-(sa+n))=q by lia];show t
     .show S (sa+n+j) q _ _ ∅ ∅ ∅ u t
   .rw[qL p2]at ex;rw[qL ∅]at t;show S p q _ _ ∅ O ∅ ex t
def Y2{α:Type}{l:List α}{a b}(n:l[i]?=bj a)(t:l[i+1]?=bj b):l=l.take i++a::b::l.drop (i+2):=by
 have(u,x):=gSq.mp n;have(z,B):=gSq.mp t;conv=>lhs;rw[←aZ i l]
 simp only[aS u,aS z,x,B]
def W4{α:Type}{q r:List α}{a b c}:((q++a::b::r).set q.length c).eraseIdx (q.length+1)=q++c::r:=by
 rw[iH _ _<|ae _,cA,List.eraseIdx_append_of_length_le<|by rfl',ip];rfl
def Jr(C:Ff prog w A s κ P lt){lo}{st}(G:∀x,x∈kE st->P x)(hk:kindOf st=κ)(hf:failedOf st=n_)(hlo:lo<=(kE st).size)(O:wL lt (kE st) 0 (lI st).toList lo)
  (hi:i+1<(lI st).size) (h:∀xs p g,Dv (kE st) xs 0 lo->p.size+1=(lI st).size->wL lt xs 0 p.toList lo->Q t_ (SortSt.mk' κ xs p g n_)):wpS (kg prog w) A E s (mergeAt' i) Q st:=by
 have(L,n,z,g0,fl):=st;have hk:L=κ:=hk;have hf:fl=n_:=hf;subst hk hf;have G:∀x,x∈n->P x:=G;have hlo:lo<=n.size:=hlo;have O:wL lt n 0 z.toList lo:=O;have hi:i+1<z.size:=hi;have e1:z[i]?=bj (z[i]'∅):=af ∅;have e2:z[i+1]?=bj (z[i+1]'∅):=af ∅;generalize z[i]'∅=a at e1;generalize z[i+1]'∅=b at e2;have(sa,u,pa):=a;have(sb,H,pb):=b;have e1':z.toList[i]?=bj %[sa|%[u|pa]]:=by rw[aO];show e1
 have e2':z.toList[i+1]?=bj %[sb|%[H|pb]]:=by rw[aO];show e2
 have ep:=Y2 e1' e2';have lq:(z.toList.take i).length=i:=by rw[lTq,aD];lia
 generalize z.toList.take i=q at ep lq;generalize z.toList.drop (i+2)=r at ep;rw[ep]at O;have(T,c1,c2):=yA.mp O;have(x1,x2,x3,x4,x5,x6,x7):=c2;have d1:sa=T:=x1;have d2:0<u:=x2;have d3:FG lt n T<|T+u:=x3;have f1:sb=T+u:=x4;have f2:0<H:=x5;have f3:FG lt n (T+u)<|T+u+H:=x6;have f4:wL lt n (T+u+H) r lo:=x7;clear x1 x2 x3 x4 x5 x6 x7;subst d1 f1;have hrl:sa+u+H+r.length<=lo:=DT f4;have hql:0+q.length<=sa:=DT c1;have hz:sa+u+H<=n.size:=by lia
 have np:((z.setIfInBounds i %[sa|%[u+H|pa]]).eraseIdxIfInBounds<|i+1).toList=q++%[sa|%[u+H|pa]]::r:=by rw[Array.toList_eraseIdxIfInBounds,gP,ep,←lq];show W4
 have ns:((z.setIfInBounds i %[sa|%[u+H|pa]]).eraseIdxIfInBounds<|i+1).size+1=z.size:=by rw[←aD,np,←aD,ep];simp only[lAq,lCq];lia
 have fin:∀U g,Dv n U sa (sa+u+H)->FG lt U sa (sa+u+H)->Q t_ (SortSt.mk' L U ((z.setIfInBounds i %[sa|%[u+H|pa]]).eraseIdxIfInBounds<|i+1) g n_):=λU g b1 s1=>by
  show h U _ g (b1.pm,λk hk=>b1.out k ∅) ns ?_;rw[np];show yA.mpr (sa,Bh (λk Z k2=>b1.out k<|.inl k2) c1,rfl,by change 0<u+H;lia,?_,?_);.change FG lt U sa (sa+(u+H));rw[←fO];show s1
  .change wL lt U (sa+(u+H)) r lo;rw[←fO];show Bh (λk k1 Z=>b1.out k<|.inr k1) f4
 rw[RJ];show km<|mq ?_;dsimp only;rw[e1,e2];dsimp only;show km<|YN ?_;have ek:n[sa+u]?=bj (n[sa+u]'∅):=af ∅;have el:n[sa+u-1]?=bj (n[sa+u-1]'∅):=af ∅;have pk:=G _<|aQq ek;have pl:=G _<|aQq el;show km<|si ek ?_;show km<|yV C d2 ∅ G pk rfl (VL C ∅ G pk d3) λk k1 k2 k3=>?_;dsimp only;have kl:∀j y,j<k->n[sa+j]?=bj y->lt (n[sa+u]'∅) y=f_:=λj y hj B=>by
  have:=k2 j hj;rw[yc B,qL ⋯]at this;simpa using this
 have kh:∀j y,k<=j->j<u->n[sa+j]?=bj y->lt (n[sa+u]'∅) y=t_:=λj y h1 h2 B=>by
  have:=k3 j h1 h2;rw[yc B,qL ⋯]at this;simpa using this
 by_cases c1':u-k=0
 .rw[qF<|by simp[c1']];show ko<|fin n g0 (Dv.refl _ _ _) λp q x y X R Y ex B=>?_;have px:=G _<|aQq ex;have py:=G _<|aQq B;by_cases q1:q<sa+u;.show d3 p q _ _ X R q1 ex B
  .by_cases p1:p<sa+u;.show C.trans _ _ _ px pk py (kl (p-sa) x ∅<|by rw[show sa+(p-sa)=p by lia];show ex)<|f3 (sa+u) q _ _ (ae _) ∅ Y ek B
   .show f3 p q _ _ ∅ R Y ex B
 rw[qL<|by simpa using c1'];have ea:sa+k+(u-k)-1=sa+u-1:=by lia
 rw[ea];show km<|si el ?_;show km<|yV C ∅ ∅ G pl rfl (VL C ∅ G pl f3) λl l1 l2 l3=>?_;dsimp only;have ll:∀j y,j<l->n[sa+u+j]?=bj y->lt y (n[sa+u-1]'∅)=t_:=λj y hj B=>by have:=l2 j hj;rw[yc B,qF rfl]at this;show this
 have lh:∀j y,l<=j->j<H->n[sa+u+j]?=bj y->lt y (n[sa+u-1]'∅)=f_:=λj y h1 h2 B=>by have:=l3 j h1 h2;rw[yc B,qF rfl]at this;show this
 by_cases c2':l=0
 .rw[qF<|by simp[c2']];show ko<|fin n g0 (Dv.refl _ _ _) λp q x y X R Y ex B=>?_;have px:=G _<|aQq ex;have py:=G _<|aQq B;by_cases q1:q<sa+u;.show d3 p q _ _ X R q1 ex B
  .by_cases p1:p<sa+u;.show C.trans _ _ _ px pl py (d3 p (sa+u-1) _ _ X ∅ ∅ ex el)<|lh (q-(sa+u)) y ∅ ∅<|by rw[show sa+u+(q-(sa+u))=q by lia];show B
   .show f3 p q _ _ ∅ R Y ex B
 rw[qL<|by simpa using c2'];have sx:Da lt (n.extract (sa+k)<|sa+u).toList:=Ja λp q x y X R Y ex B=>d3 p q x y ∅ R Y ex B;have sy:Da lt (n.extract (sa+u)<|sa+u+l).toList:=Ja λp q x y X R Y ex B=>f3 p q x y X R ∅ ex B;have I:∀x,x∈n.extract (sa+k) (sa+u)->P x:=λx I=>by have(j,_,_,e):=xV<|fY.mpr I;show G _<|aQq e
 have J:∀x,x∈n.extract (sa+u) (sa+u+l)->P x:=λx I=>by have(j,_,_,e):=xV<|fY.mpr I;show G _<|aQq e
 have zx:(n.extract (sa+k)<|sa+u).size=u-k:=by rw[fg];lia
 have zy:(n.extract (sa+u)<|sa+u+l).size=l:=by rw[fg];lia
 have g0':(n.extract (sa+u)<|sa+u+l)[0]?=bj (n[sa+u]'∅):=by
  rw[iD,qF ∅,jO];show ek
 have gl':(n.extract (sa+k)<|sa+u)[u-k-1]?=bj (n[sa+u-1]'∅):=by
  rw[iD,qF ∅,show sa+k+(u-k-1)=sa+u-1 by lia];show el
 have low:∀y∈(n.extract (sa+k)<|sa+u).toList,lt y (n[sa+u]'∅)=f_:=λy J=>by have(j,j1,j2,ej):=xV J;show C.asym _ _ pk (G _<|aQq ej)<|kh (j-sa) y ∅ ∅<|by rw[show sa+(j-sa)=j by lia];show ej
 have S:∀x∈(n.extract (sa+u)<|sa+u+l).toList,lt (n[sa+u-1]'∅) x=f_:=λx I=>by have(j,j1,j2,ej):=xV I;show C.asym _ _ (G _<|aQq ej) pl<|ll (j-(sa+u)) x ∅<|by rw[show sa+u+(j-(sa+u))=j by lia];show ej
 have done:∀M g,Mrg lt (n.extract (sa+k)<|sa+u) (n.extract (sa+u)<|sa+u+l) M ->
   Q t_ (SortSt.mk' L (M.toList.zipIdx.foldl (λa x=>a.setIfInBounds (sa+k+x.snd) x.fst) n) ((z.setIfInBounds i %[sa|%[u+H|pa]]).eraseIdxIfInBounds<|i+1) g n_):=λM g mg=>by
  have lM:M.toList.length=(u-k)+l:=by have:=mg.pm.length_eq;simp only[lAq,aD,fg]at this ⊢;lia
  have wb:=NZ (sa+k) M.toList 0 n ∅;have(b1,s1):=aaH C G hz k1 l1 d3 f3 ek el kl lh d2 f2 mg wb;show fin _ g b1 s1
 by_cases c3:u-k<=l
 .rw[qF c3];show km<|Rk (κ:=L) (a:=n.extract (sa+k)<|sa+u) (b:=n.extract (sa+u)<|sa+u+l) C I J rfl sx sy (by rw[zx];lia) (by rw[zy];lia) (λx ex y J=>?_) (λj hj x I y J=>?_) λM g mg=>?_;.rw[g0']at ex;cases ex;show low y J
  .have hj':j=u-k-1:=by lia
   subst hj';have:y=n[sa+u-1]'∅:=by
    have(t,t1,t2):=DL J;rw[zx]at t1;have t0:t=0:=by lia
    subst t0;rw[jO,gl']at t2;show(bj.inj t2).symm
   rw[this];show S x I
  .show km<|lW ?_;show km<|mq ?_;show ko<|done M g mg
 .rw[qL c3];show km<|QJ (κ:=L) (a:=n.extract (sa+k)<|sa+u) (b:=n.extract (sa+u)<|sa+u+l) C I J rfl sx sy (by rw[zx];lia) (by rw[zy];lia) (λx I y J=>?_) (λx ex y J=>?_) λM g mg=>?_
  .have:x=n[sa+u]'∅:=by
    have(t,t1,t2):=Ex I;have t0:t=0:=by lia
    subst t0;rw[cO,g0']at t2;show(bj.inj t2).symm
   rw[this];show low y J
  .rw[zx,gl']at ex;cases ex;show S y J
  .show km<|lW ?_;show km<|mq ?_;show ko<|done M g mg
noncomputable abbrev Cd(κ:lg)(xs:Array kf)(p:Array<|Nat×Nat×Nat)(g:Nat):SortSt:=SortSt.mk' κ xs p g n_
def LB{p:Array<|Nat×Nat×Nat}{lo}(h:wL lt xs 0 p.toList lo)(hn:0<n)(l:FG lt xs lo<|lo+n):wL lt xs 0 (p.push %[lo|%[n|0]]).toList<|lo+n:=by rw[eJ];show yA.mpr (lo,h,rfl,hn,l,rfl)
def Ml(p:Array<|Nat×Nat×Nat)i l:(p.modify i λx=>%[x.fst|%[x.2.fst|l]]).toList.map (λp=>%[p.1|p.2.1])=p.toList.map (λp=>%[p.1|p.2.1]):=by
 apply eM;intro k;simp only[gMq,gMq,aO,aO,Array.getElem?_modify];split;.cases p[k]? <;> rfl
 .rfl
def O9(C:Ff prog w A s κ P lt)(hp:∀x,x∈arr->P x)(h2:2<=arr.size)
    (h:∀xs p g',xs.Perm arr->FG lt xs 0 arr.size->Q () (Cd κ xs p g')):wpS (kg prog w) A E s sortRuns' Q<|Cd κ arr #[] g:=by
  rw[sortRuns'_eq];show km<|mq ?_;dsimp only;have e0:kE (Cd κ arr #[] g)=arr:=rfl;rw[e0];generalize minRun' arr.size arr.size 0=J;show km (kT (kS
    (I:=λi c l=>∃lo xs p g',c=%[n_|lo]/\l=Cd κ xs p g'/\xs.Perm arr/\lo<=arr.size/\wL lt xs 0 p.toList lo/\i<=lo)
    (Q:=λc l=>∃xs p g',c=%[n_|arr.size]/\l=Cd κ xs p g'/\xs.Perm arr/\wL lt xs 0 p.toList arr.size)
    ?step ?fin (0,arr,#[],g,rfl,rfl,jF.refl _,aY _,rfl,ae _)) ?post);case fin=>
    rintro c l ⟨lo,xs,p,g',rfl,rfl,q1,q2,L,q4⟩;have e:lo=arr.size:=by rfl'
    subst e;show(xs,p,g',rfl,rfl,q1,L)
  case step=>
    rintro i c l _ hi ⟨lo,xs,p,g',rfl,rfl,q1,q2,L,q4⟩;dsimp only;have M:∀x,x∈xs->P x:=λx hx=>hp x<|q1.mem_iff.mp hx;have hzx:xs.size=arr.size:=q1.size_eq;by_cases c1:lo ≥ arr.size
    . rw[qF c1];have e:lo=arr.size:=by rfl'
      subst e;show ko (xs,p,g',rfl,rfl,q1,L)
    rw[qL c1];show km<|PN (st:=Cd κ xs p g') C M rfl ∅ (by change lo+(arr.size-lo)<=xs.size;ac_nf) λn u n1 n2 b1 s1=>?_;dsimp only;have hb:Dv xs u lo<|lo+n:=b1;change wpS _ _ _ _ _ _ (Cd κ u p g');by_cases c2:n<J;all_goals
      first
        | (rw[qF c2];show km<|BZ ?_;show km<|UZ (st:=Cd κ u p g') (n:=min (arr.size-lo) J) C (hb.mem M) rfl n1 ∅ (by change lo+min (arr.size-lo) J<=u.size;have:=hb.size;lia) s1 λH b2 s2=>?_;rw[qL ⋯];have z:Dv xs H lo<|lo+min (arr.size-lo) J:=(hb.mono ∅).trans b2;have U:1<=min (arr.size-lo) J:=by lia
           have X:lo+min (arr.size-lo) J<=arr.size:=by lia
           change wpS _ _ _ _ _ _ (Cd κ H p g');clear b1 s1 hb b2;generalize min (arr.size-lo) J=Y at z U X s2 ⊢)
        | (rw[qL c2];have z:=hb;have s2:=s1;have U:=n1;have X:lo+n<=arr.size:=by lia
           clear b1 s1 hb;generalize hnN:n=Y at z U X s2 ⊢;generalize hzs:u=H at z s2 ⊢)
      have hpz:=z.mem M;have hzz:=z.size;have hcz:wL lt H 0 p.toList lo:=Bh (λk Z k2=>z.out k<|.inl k2) L;have pz:H.Perm arr:=z.pm.trans q1;show km<|mq ?_;have ep:lI (Cd κ H p g')=p:=rfl;rw[ep];cases eb:p.back? with
      |none=>dsimp only;show km<|lW<|ko ?_;show(lo+Y,H,p.push %[lo|%[Y|0]],g',rfl,rfl,pz,X,LB hcz U s2,by lia)
      |some t=>
        have(s1',n1',pw0):=t;dsimp only;show km (kT (kS
          (I:=λi c l=>∃u q g2,c=%[n_|()]/\l=Cd κ u q g2/\Dv H u 0 lo/\wL lt u 0 q.toList lo)
          (Q:=λc l=>∃u q g2,c=%[n_|()]/\l=Cd κ u q g2/\Dv H u 0 lo/\wL lt u 0 q.toList lo)
          ?step1 (λc l hh=>hh) (H,p,g',rfl,rfl,Dv.refl _ _ _,hcz)) ?post1);case step1=>
          rintro j c l _ hj ⟨B,q,g2,rfl,rfl,b3,G⟩;show km<|mq ?_;have S:lI (Cd κ B q g2)=q:=rfl;rw[S];by_cases T:q.size>1
          . rw[qF T];have eo:q[q.size-2]?=bj (q[q.size-2]'∅):=af ∅;rw[eo];generalize q[q.size-2]'∅=o;have(o1,o2,older):=o;dsimp only;split;. show ko (B,q,g2,rfl,rfl,b3,G)
            . show km<|Jr (st:=Cd κ B q g2) C (b3.mem hpz) rfl rfl (by change lo<=B.size;have:=b3.size;ac_nf) G (by change q.size-2+1<q.size;lia) λO p3 g3 b4 Z R=>?_;rw[qL ⋯];show ko (O,p3,g3,rfl,rfl,b3.trans b4,R)
          . rw[qL T];show ko (B,q,g2,rfl,rfl,b3,G)
        case post1=>
          rintro c l ⟨B,q,g2,rfl,rfl,b3,G⟩;dsimp only;show km<|lW<|km<|lW<|ko ?_;have s3:FG lt B lo<|lo+Y:=λa b x y a1 a2 a3 ex ey=>s2 a b x y a1 a2 a3 (by rw[←b3.out a<|.inr a1];show ex)<|by rw[←b3.out b<|.inr ∅];show ey
          show(lo+Y,B,_,g2,rfl,rfl,b3.pm.trans pz,X,LB (G8 (Ml q _ _) G) U s3,by lia)
  case post=>
    rintro c l ⟨xs,p,g',rfl,rfl,q1,L⟩;dsimp only;show km (kT (kS
      (I:=λi c l=>∃u q g2,c=%[n_|()]/\l=Cd κ u q g2/\u.Perm arr/\wL lt u 0 q.toList arr.size/\q.size+i<=arr.size)
      (Q:=λc l=>∃u q g2,c=%[n_|()]/\l=Cd κ u q g2/\u.Perm arr/\wL lt u 0 q.toList arr.size/\q.size<=1)
      ?step2 ?fin2 (xs,p,g',rfl,rfl,q1,L,by have:=DT L;rw[aD]at this;lia)) ?post2);case fin2=>rintro c l ⟨u,q,g2,rfl,rfl,r1,r2,r3⟩;show(u,q,g2,rfl,rfl,r1,r2,by lia)
    case step2=>
      rintro j c l _ hj ⟨u,q,g2,rfl,rfl,r1,r2,r3⟩;show km<|mq ?_;have S:lI (Cd κ u q g2)=q:=rfl;rw[S];by_cases T:q.size<=1
      . rw[qF T];show ko (u,q,g2,rfl,rfl,r1,r2,T)
      rw[qL T];have hi':∀(b:Prop) [Decidable b],(if b then q.size-2-1 else q.size-2)+1<q.size:=λb Z=>by split <;> lia
      show km<|Jr (st:=Cd κ u q g2) C (λx hx=>hp x<|r1.mem_iff.mp hx) rfl rfl (by change arr.size<=u.size;have:=r1.size_eq;ac_nf) r2 (hi' _) λO p3 g3 b4 ns R=>?_;rw[qL ⋯];have ns':p3.size+1=q.size:=ns;show ko (O,p3,g3,rfl,rfl,b4.pm.trans r1,R,by lia)
    case post2=>rintro c l ⟨u,q,g2,rfl,rfl,r1,r2,r3⟩;show ko<|h u q g2 r1 ?_;rw[←aD]at r3;cases S:q.toList with
      |nil=>rw[S]at r2;have r2':0=arr.size:=r2;lia
      |cons a r=>
        rw[S]at r2 r3;have er:r=[]:=by rw[lCq]at r3;show bG.mp ∅
        subst er;have(_,_,s3,e3):=r2;have e3':=e3;rw[e3']at s3;show s3
end MrS
namespace Xe
open PySem
structure NU (fs:Δ)(e:Addr)(oe:Obj)(T:Addr)(h h':Heap):Prop where
 keep:∀b o,b≠e->b∉fs->h.get? b=bj o->h'.get? b=bj o
 slot:∀b o,b≠e->h.get? b=bj o->∃sl,h'.get? b=bj { o with slots:=sl }
 exc:h'.get? e=bj (oe.mapFields (·.setIfInBounds 1<|.ref T))
 fresh:h.get? T=n_
 ent:∃oT ts,h'.get? T=bj oT/\oT.data = .fields ts/\ts[3]?=bj .none
def Nd{vs:Ω}
  (S:A.frames=bj (env::outer)) (hl:s.heap.FunFrames base<|env::outer) (hf:env.frame=bj L)
  (he:s.heap.get? e=bj R) (hd:R.data = .fields vs) (hsz:1<vs.size)
  (h:∀h' T,NU ((env::outer).filterMap (·.frame)) e R T s.heap h'->Q () { s with heap:=h' }) :
  kj M A (do let a ←frameOf env;let pl ←entryPlaceOf L t;let b ←EntryCells.newEntry head a .none (mK L) .none pl;setField (.ref e) 1 b) (λZ s'=>kj M A (mF (.ref e) n_) Q E s') E s:=by
 have J:e∉(env::outer).filterMap (·.frame):=λhm=>by have(_,o,I,U):=hl.mem hm;rw[he]at I;injection I with I;subst I;show U vs hd
 show ki<|wpAny_frameOf_fun S hl hf λl n=>?_;show ki<|wpAny_entryPlaceOf λpl O=>?_;unfold EntryCells.newEntry newFields;show ki<|lD ?_<|O.sizeOk5 _ _ _ _ _;have u:l.get? e=bj R:=(n.2.1 e J).trans he;have z:=aa (h:=l) { cls:=.type "traceback", dict:=n_,data:=.fields ([head,.ref L,.none,mK L,.none]++(if pl.isEmpty then aC 6 dr else pl)).toArray } u;show nX z hd hsz ?_;have P:l.objs.size≠e:=ef<|ai u;have B:=Obj.data_mapFields hd (·.setIfInBounds 1<|ah l.objs.size);have G:=cV (Obj.mapFields (·.setIfInBounds 1<|ah l.objs.size)) z<|Obj.isFreed_of_fields B;have H:=(bI (l.push { cls:=.type "traceback", dict:=n_,data:=.fields ([head,.ref L,.none,mK L,.none]++(if pl.isEmpty then aC 6 dr else pl)).toArray })
  (Obj.mapFields (·.setIfInBounds 1<|ah l.objs.size))<|Ne.symm P).trans<|bp l rfl;unfold mF;show ki<|mi G B (x:=.ref l.objs.size) (by simp[hsz]) ?_;simp only[qF<|show(ah l.objs.size != dr)=t_ from by rfl];show nX H rfl (by simp only[ao,lAq,lCq,dJ] <;> ac_nf)<|h _ l.objs.size ?_;have keep:∀b o,b≠e->l.get? b=bj o ->
   (((l.push { cls:=.type "traceback", dict:=n_,data:=.fields ([head,.ref L,.none,mK L,.none]++(if pl.isEmpty then aC 6 dr else pl)).toArray }).update e (Obj.mapFields (·.setIfInBounds 1<|ah l.objs.size))).update l.objs.size
    (Obj.mapFields (·.setIfInBounds 3<|(n_:Option Addr).elim dr λf=>mK f))).get? b=bj o:=λb o X hb=>by have Y:l.objs.size≠b:=ef<|ai hb;rw[bI _ _ Y,bI _ _<|Ne.symm X];show aa _ hb
 show(λb o hb hbf I=>keep b o hb<|(n.2.1 b hbf).trans I,λb o hb I=>?_,?_,?_,?_);.have(sl,e1):=n.2.2 b o I;show(sl,keep b _ hb e1)
 .rw[bI _ _ P];show G
 .show de<|by rw[n.1];show ae _
 .show(_,_,cV _ H<|Obj.isFreed_of_fields<|Obj.data_mapFields rfl _,Obj.data_mapFields rfl _,by first|(rfl;done)|(rcases O with rfl|⟨_,_,_,_,_,_,_,rfl⟩ <;> simp))
def Nk(h:Heap)(vs:Ω):Prop:=vs[1]?=bj .none∨∃l n t,vs[1]?=bj (.ref l)/\h.get? l=bj n/\n.data = .fields t/\t[3]?=bj .none
def alN{vs:Ω}
  (n:A.frames=bj (env::outer)) (hl:s.heap.FunFrames base<|env::outer) (z:env.frame=bj L)
  (u:s.heap.get? e=bj x) (hd:x.data = .fields vs) (I:Nk s.heap vs)
  (h:∀h' T,NU ((env::outer).filterMap (·.frame)) e x T s.heap h'->Q () { s with heap:=h' }) :
  kj M A (nI (.ref e) env) (λZ s'=>kj M A (mF (.ref e) n_) Q E s') E s:=by
 unfold nI;simp only[z];rcases I with t|⟨H,J,O,t,B,l,G⟩
 .show ki<|mi u hd t ?_;rw[qL ⋯];show Nd n hl z u hd (aR.mp t).1 h
 .show ki<|mi u hd t ?_;rw[qF<|show(ah H != dr)=t_ from by rfl];show ki<|mi B l G ?_;rw[qL<|show ¬ ((dr == mK L)=t_)from by simp[mK]];show ki<|nX B l (aR.mp G).1 ?_;rw[gV s.heap H J O 3 .none B l G];show Nd n hl z u hd (aR.mp t).1 h
def akY{vs:Ω}
  (n:A.frames=bj (env::outer)) (hl:s.heap.FunFrames base<|env::outer) (t:env.frame=bj L)
  (u:s.heap.get? e=bj l) (hd:l.data = .fields vs) (x:Nk s.heap vs)
  (h:∀h' T,NU ((env::outer).filterMap (·.frame)) e l T s.heap h'->Q () { s with heap:=h' }) :
  kj M A (leaving env<|.ref e) Q E s:=by unfold leaving;show ki<|alN n hl t u hd x h
noncomputable abbrev AM:Ξ:=[.type "ValueError", .type "Exception", .type "BaseException", .type "object"]
noncomputable abbrev EA(C t:Addr)(dd:Option Addr):Obj:={ cls:=.ref C,dict:=dd,data:=.fields #[.ref t,.none,.none,.none,.bool f_,.none] }
abbrev Lk{α:Type}(M:lY)(h:Heap)(x:Sem α)(r:α):Prop:=∀(A:Around) (Q:α->ke->Prop) (E:Value->ke->Prop) (s:ke),(∀b o,h.get? b=bj o->s.heap.get? b=bj o)->Q r s->kj M A x Q E s
section
variable {bs bm:Ξ}{sub:Ξ}{k0 k1 k2 k3 k5:Υ}
def T4(n:bm.contains (.type "BaseException")=t_)(hh:A.handled=n_)
  (h:kj M A x (λv l=>∃e t B,v = .ref e/\l.heap.get? C=bj (kK nm q C N bs bm hdct sn sub ab col dd k0 k1 k2 k3 k5 newId) /\
   l.heap.get? e=bj (EA C t B)/\E (.ref e) l) E s) :
  kj M A (raiseStmt env (bj x) n_) Q E s:=by
 have z:(ah C::bm).contains (.type "BaseException")=t_:=by rw[bE,n,eh]
 unfold raiseStmt;show ki<|kG h (λv l u=>?_) λZ Z x=>x;have(e,t,B,rfl,G,H,I):=u;have(J,g,d,L,os):=l;repeat (first|with_reducible show kC H ?_|with_reducible show kC G ?_|(with_reducible show kL G ?_;rw[z])|wp_step)
 show wpAny_raiseNew_none hh I
end
section
variable {os:ac2}
variable {bs bm:Ξ}{sub:Ξ}{k0 k1 k2 k3 k5:Υ}
def LQ(T:kW h AM bm){rest:Ξ}
  (s:h.get? C=bj (kK nm q C N bs bm hdct sn sub ab col dd k0 k1 k2 k3 k5 "ValueError.__new__"))
  (hi:Lk (kg prog w) h (kF (.ref C) "__init__")<|bj<|.ref u) (hb:∀self,Lk (kg prog w) h (bindSpecial (.ref u) self) %[.ref u|[self]])
  (H:∀h' e,gD h h' e (.ref C) rest->h.objs.size<=e ->
   kj (kg prog w) A (call (.ref u)<|.ref e::rest) (λr s'=>r = .none/\Q (.done<|.ret<|.ref e) s') E (h',g,d,t,os)) (hrest:rest.length<=ky) :
  kj (kg prog w) A (Builtin.«type.__call__» (.ref C::rest,[])) Q E (h,g,d,t,os):=by
 have F:=eT;repeat (first|with_reducible show kC s ?_|with_reducible show wpAny_madeBy_exc s ?_|wp_step)
 show nh (Code.quiet_builtin _ F.quiet)<|oa F T s ?_;show oj F T s ?_ hrest;change kj _ _ _ _ _ _;have n:=aa { cls:=.ref C,data:=.fields #[.ref h.objs.size,.none,.none,.none,.bool f_,.none] }
  (aa { cls:=.type "tuple", data:=.seq rest.toArray } s);have l:((h.push { cls:=.type "tuple", data:=.seq rest.toArray }).push
   { cls:=.ref C,data:=.fields #[.ref h.objs.size,.none,.none,.none,.bool f_,.none] }).get? (h.objs.size+1)=bj
   { cls:=.ref C,data:=.fields #[.ref h.objs.size,.none,.none,.none,.bool f_,.none] }:=by heap_get
 have z:(ah C::bm).contains (.ref C)=t_:=by simp
 have B:∀b o,h.get? b=bj o->((h.push { cls:=.type "tuple", data:=.seq rest.toArray }).push { cls:=.ref C,data:=.fields #[.ref h.objs.size,.none,.none,.none,.bool f_,.none] }).get? b=bj o:=λb o e=>aa _<|aa _ e;have G:=T.keeps (h':=(h.push { cls:=.type "tuple", data:=.seq rest.toArray }).push { cls:=.ref C,data:=.fields #[.ref h.objs.size,.none,.none,.none,.bool f_,.none] })
  λb o e=>aa _<|aa _ e;unfold ni;repeat (first|with_reducible show kC l ?_|(with_reducible show kL n ?_;rw[z])|wp_step)
 change kj _ _ (kF (.ref C) _) _ _ _;show hi _ _ _ _ B ?_;show lZ<|ki<|hb _ _ _ _ _ B ?_;show(ki<|kG (H _ (h.objs.size+1) (λb o hb=>aa _<|aa _ hb,de<|bR _,h.objs.size,l,de<|ae _,?_)<|bR _) (λr s' hr=>?_) λZ Z x=>x);.show aa _<|gW rfl rfl
 .have(rfl,I):=hr;wp_walk;show I
def XU(T:kW h AM bm){rest:Ξ}
  (n:h.get? C=bj (kK nm q C N bs bm hdct sn sub ab col dd k0 k1 k2 k3 k5 "ValueError.__new__"))
  (hi:Lk (kg prog w) h (kF (.ref C) "__init__")<|bj<|.ref l) (hb:∀self,Lk (kg prog w) h (bindSpecial (.ref l) self) %[.ref l|[self]])
  (s:∀h' e,gD h h' e (.ref C) rest->h.objs.size<=e ->
   kj (kg prog w) (A.under<|.builtin "type.__call__" (.ref C::rest,[])) (call (.ref l)<|.ref e::rest) (λr s'=>r = .none/\Q (.ref e) s') E (h',g,d,t,os)) (hrest:rest.length<=ky) :
  kj (kg prog w) A (call (.ref C) rest) Q E (h,g,d,t,os):=by
 have x:=tc_lookup;have z:=tc_bind<|.ref C;have B:((h,g,d,t,os):ke).TypeIs (.ref C) "type" := (_,n,rfl);show lF<|codeAny_of_tree ?_;change kj _ _ (callAny (.ref C) _) _ _ _;repeat (any_goals (first|assumption|with_reducible show kC n ?_|wp_step))
 show(rfl,?_);show nB (Code.quiet_builtin _<|by trivial) entry_typeCall<|nc n<|LQ (hrest:=hrest) T n hi hb λh' e hm u=>?_;show s h' e hm u
def Xg(T:kW h AM bm){rest:Ξ}
  (n:h.get? C=bj (kK nm q C N bs bm hdct sn sub ab col dd k0 k1 k2 k3 k5 "ValueError.__new__")) (l:h.get? e=bj (EA C t0 n_))
  (s:∀h' u,(∀b o,b≠e->h.get? b=bj o->h'.get? b=bj o)->h'.get? e=bj (EA C u n_)->Q .none (h',g,d,t,os)) (hrest:rest.length<=ky) :
  kj (kg prog w) A (call (.builtin "ValueError.__init__")<|.ref e::rest) Q E (h,g,d,t,os):=by
 have F:=eT;show lF<|kQ F.init.plain F.initEntry<|nT F T n l rfl ?_;wp_walk;show s _ h.objs.size (λb o hb x=>?_) ?_;.rw[bI _ _<|Ne.symm hb];show aa _ x
 .rw[cV _ (aa _ l) rfl];rfl
def Ry(T:kW h AM bm)self:refuseLoop self "__setattr__" bm=pure ():=by induction T with
 |base=>show PySem.F.store_ValueError.passes self
 |own _ _ _ _ l=>rw[refuseLoop_ref];show l
end
end Xe
namespace Xe
open PySem
open Builtin Builtin.ObjectAttr
section
variable {os:ac2}
variable {bs bm:Ξ}{sub:Ξ}{k0 k1 k2 k3 k5:Υ}
def W7(T:kW h AM bm)
  (hC:h.get? C=bj (kK nm q C N bs bm t_ sn sub ab col dd k0 k1 k2 k3 k5 "ValueError.__new__")) (G:h.get? x=bj o) (hc:o.cls = .ref C) (I:∀c,o.data ≠ .cls c) (J:o.dict=n_)
  (L:Lk (kg prog w) h (kF (.ref C) name) n_)
  (hq:∀h' H M,h.objs.size<=H->H≠x->h'.get? x=bj { cls:=o.cls,dict:=bj H,data:=o.data,slots:=o.slots }->h'.Ns1 H (λy=>if y=name then bj v else n_)->(∀b O,b≠x->h.get? b=bj O->h'.get? b=bj O) ->
   Q (.done<|.ret .none) (h',g,d,M,os)) :
  kj (kg prog w) A (Builtin.«object.__setattr__» ([.ref x,.str name tk,v],[])) Q E (h,g,d,t,os):=by
 have n:=Ry T<|.ref x;unfold Builtin.«object.__setattr__»;repeat (first|rw[refuse_eq]|(rw[refuseLoop_ref,n])|(with_reducible show kC G ?_;rw[hc])|with_reducible show wpAny_mroOf_exc hC ?_|with_reducible show L _ _ _ _ (λZ Z z=>z) ?_|wp_step)
 rw[J,qL<|by simp[typeHasDict]];split;.rename_i s;cases s
 split;.rename_i c s;show absurd s<|I c
 .have l:(h.push { cls:=.type "dict", data:=.dict #[] }).get? x=bj o:=aa _ G;have u:x≠h.objs.size:=aB<|ai G;show ki<|wpAny_alloc' ?_;show ki<|wpAny_update' l ?_;show kA ?_;have P:((h.push { cls:=.type "dict", data:=.dict #[] }).update x λo=>{ cls:=o.cls,dict:=bj h.objs.size,data:=o.data,slots:=o.slots }).get? h.objs.size
    = bj { cls:=.type "dict", data:=.dict #[] }:=(ee _ _ _ _ u.symm).trans<|gW rfl rfl;have R:((h.push { cls:=.type "dict", data:=.dict #[] }).update x λo=>{ cls:=o.cls,dict:=bj h.objs.size,data:=o.data,slots:=o.slots }).Ns h.objs.size<|λZ=>n_:=(_,#[],_,P,rfl,λe he=>absurd he ⋯,λZ=>rfl);change kj _ _ (storeInDict h.objs.size (.str name tk) name v) _ _ _;unfold storeInDict newKeyGuard;show ki<|kA<|ki<|wpAny_nsSet1 (Heap.Ns1.of_empty R) λh' B hs=>?_;have(oD,esD,epD,S,U,X):=B.count<|Within.cons name v Within.nil;show ki<|wpAny_lookBehind S (by rw[U];show pastItsLine_dict<|bh X<|by rw[lCq,dJ,kO];lia) ?_;wp_walk;show hq h' h.objs.size _ (ae _) u.symm ?_ B<|λb O Y hb=>?_;.show(hs.2 x u).trans<|cV _ l ?_;have hfr:=(Heap.get?_some_iff.mp G).2;have(oc,od,odt,osl):=o;cases odt <;> first|rfl|show hfr
  .show(hs.2 b<|aB<|ai hb).trans<|(ee _ _ _ _ Y).trans<|aa _ hb
def acD(T:kW h AM bm)
  (s:h.get? C=bj (kK nm q C N bs bm t_ sn sub ab col dd k0 k1 k2 k3 k5 "ValueError.__new__")) (u:h.get? x=bj o) (z:o.cls = .ref C) (B:Q () (h,g,d,t,os)) :
  kj M A (mD "object.__setattr__" ([.ref x,l,v],[])) Q E (h,g,d,t,os):=by
 have SF:=iT;have n:(ah C::bm).contains (.type "object")=t_:=by rw[bE,T.hasType<|show AM.contains (.type "object")=t_ by decide,eh]
 have ha:=SF.args (.ref x) l v;simp only[mD,SF.kind,SF.split];show ki ?_
 .unfold ni;repeat (first|(with_reducible show kC u ?_;rw[z])|(with_reducible show kL s ?_;rw[n])|wp_step)
  show B
def Xf(T:kW h AM bm)
  (G:h.get? C=bj (kK nm q C N bs bm t_ sn sub ab col dd k0 k1 k2 k3 k5 "ValueError.__new__")) (s:h.get? x=bj (EA C t0 n_))
  (u:Lk (kg prog w) h (kF (.ref C) "__setattr__")<|bj<|.builtin "object.__setattr__") (B:Lk (kg prog w) h (kF (.ref C) name) n_)
  (I:∀h' n l,h.objs.size<=n->n≠x->h'.get? x=bj (EA C t0<|bj n)->h'.Ns1 n (λy=>if y=name then bj v else n_)->(∀b H,b≠x->h.get? b=bj H->h'.get? b=bj H) ->
   Q () (h',g,d,l,os)) :
  kj (kg prog w) A (setAttr (.ref x) name v) Q E (h,g,d,t,os):=by
 have SF:=iT;have S:=SF.slot.bind<|.ref x;have J:(ah C::bm).contains (.type "object")=t_:=by rw[bE,T.hasType<|show AM.contains (.type "object")=t_ by rfl,eh]
 unfold setAttr callSpecial? specialOf;repeat (any_goals (first|assumption|with_reducible show kC s ?_|with_reducible show u _ _ _ _ (λZ Z z=>z) ?_|wp_step))
 show kQ SF.slot.plain SF.entry<|acD T G s rfl<|W7 T G s rfl (λc z=>nomatch z) rfl B λh' n l L M O P R=>?_;repeat (any_goals (first|assumption|wp_step))
 show I h' n l L M O P R
end
section
variable {os:ac2}
variable {bs bm:Ξ}{sub:Ξ}{k0 k1 k2 k3 k5:Υ}{mA:Str->Υ}
set_option tactic.hygienic true in
def aa9(J:h.get? C=bj (kK nm q C N bs bm t_ sn sub ab col dd k0 k1 k2 k3 k5 "ValueError.__new__"))(G:h.get? x=bj o)(H:o.cls = .ref C)(l:∀c,o.data ≠ .cls c)(n:o.dict=bj dx)
  (s:Lk (kg prog w) h (kF (.ref C) name) n_) (u:h.Ns1 dx mA) (L:mA name=bj v) (M:Q (.done<|.ret v) (h,g,d,t,os)) :
  kj (kg prog w) A (Builtin.«object.__getattribute__» ([.ref x,.str name I],[])) Q E (h,g,d,t,os):=by
 unfold Builtin.«object.__getattribute__»;repeat (first|(with_reducible show kC G ?_;rw[H])|with_reducible show s _ _ _ _ (λZ Z z=>z) ?_|wp_step)
 split;.rename_i c B;show absurd B<|l c
 unfold instanceDict;repeat (first|(with_reducible show kC G ?_;rw[H])|with_reducible show kC J ?_|wp_step)
 rw[n];repeat (first|(with_reducible show wpAny_nsGet u.ns ?_;rw[L])|wp_step)
 show M
def Ss(T:kW h AM bm)(u:h.get? C=bj (kK nm q C N bs bm t_ sn sub ab col dd k0 k1 k2 k3 k5 "ValueError.__new__"))
  (z:h.get? x=bj o) (B:o.cls = .ref C) (G:Q () (h,g,d,t,os)):kj M A (mD "BaseException.__getattribute__" ([.ref x,l],[])) Q E (h,g,d,t,os):=by
 have hk:builtinKind "BaseException.__getattribute__" = bj .slot:=by trivial
 have n:splitId "BaseException.__getattribute__" = bj %["BaseException"|"__getattribute__"]:=by trivial
 have s:(ah C::bm).contains (.type "BaseException")=t_:=by rw[bE,T.hasType<|show AM.contains (.type "BaseException")=t_ by decide];rfl
 have ha:=PySem.F.args_bexc_ga (.ref x) l;simp only[mD,hk,n];show ki ?_
 .unfold ni;repeat (first|(with_reducible show kC z ?_;rw[B])|(with_reducible show kL u ?_;rw[s])|wp_step)
  show G
def agv(T:kW h AM bm)(M:h.get? C=bj (kK nm q C N bs bm t_ sn sub ab col dd k0 k1 k2 k3 k5 "ValueError.__new__"))(n:h.get? x=bj o)(s:o.cls = .ref C)
  (u:∀c,o.data ≠ .cls c) (B:o.dict=bj dx) (G:Lk (kg prog w) h (kF (.ref C) name) n_) (H:Lk (kg prog w) h (kF (.ref C) "__getattribute__")<|bj<|.builtin "BaseException.__getattribute__")
  (I:Lk (kg prog w) h (kF (.ref C) "__getattr__") n_) (J:h.Ns1 dx mA) (R:mA name=bj v) (hh:handedOut v=pure v) (X:Q v (h,g,d,t,os)) :
  kj (kg prog w) A (getAttrBy (.ref x) (.str name P) fill l) Q E (h,g,d,t,os):=by
 have O:=gQ;have Y:=O.ga.bind<|.ref x;have S:(l && onTheHeap (dw "BaseException.__getattribute__"))=f_:=by cases l <;> rfl
 have L:(dw "BaseException.__getattribute__" == dw "object.__getattribute__")=f_:=by trivial
 have U:(onTheHeap (ah C) && dw "BaseException.__getattribute__" == dw "object.__getattribute__")=f_:=by rw[L];rfl
 repeat (any_goals (first|assumption|(with_reducible show kC n ?_;rw[s])|with_reducible show H _ _ _ _ (λZ Z z=>z) ?_|with_reducible show I _ _ _ _ (λZ Z z=>z) ?_|wp_step))
 show kQ O.ga.plain iI<|Ss T M n s<|aa9 M n s u B G J R ?_;repeat (any_goals (first|assumption|rw[hh]|wp_step))
def X5(T:kW h AM bm)(H:h.get? C=bj (kK nm q C N bs bm t_ sn sub ab col dd k0 k1 k2 k3 k5 "ValueError.__new__"))(I:h.get? x=bj o)(J:o.cls = .ref C)
  (n:∀c,o.data ≠ .cls c) (s:o.dict=bj dx) (u:Lk (kg prog w) h (kF (.ref C) name) n_) (z:Lk (kg prog w) h (kF (.ref C) "__getattribute__")<|bj<|.builtin "BaseException.__getattribute__")
  (B:Lk (kg prog w) h (kF (.ref C) "__getattr__") n_) (G:h.Ns1 dx mA) (L:mA name=bj v) (hh:handedOut v=pure v) (M:Q v (h,g,d,t+1,os)) :
  kj (kg prog w) A (ac1 (.ref x) name l) Q E (h,g,d,t,os):=by
 unfold ac1;repeat (any_goals (first|assumption|with_reducible apply agv T H I J n s u z B G L hh|wp_step))
def Xw(T:kW h AM bm)(z:h.get? C=bj (kK nm q C N bs bm t_ sn sub ab col dd k0 k1 k2 k3 k5 "ValueError.__new__"))(s:h.get? x=bj o)(u:o.cls = .ref C)
  (B:R (.ok<|.ret<|.ref C) (h,g,d,t,os)) :
  lH (kg prog w) A (.call (.builtin "getset_descriptor.__get__") ([.builtin "object.__class__", .ref x,.ref C],[])) R (h,g,d,t,os):=by
 have l:((h,g,d,t,os):ke).TypeIs (.builtin "object.__class__") "getset_descriptor" := eQ;have n:(ah C::bm).contains (.type<|".".intercalate ("object.__class__".cutAt '.').dropLast)=t_:=by rw[PySem.F.owner_object_class,bE,T.hasType<|show AM.contains (.type "object")=t_ by decide];rfl
 show kQ gC.plain PySem.F.entry_gs_get<|gC.check _ _ _ _ _ _ _ _ l (PySem.F.args_gs_get _ _ _) ?_;repeat (any_goals (first|assumption|(with_reducible show kC s ?_;rw[u])|(with_reducible show kL z ?_;rw[n])|wp_step))
 show(Code.quiet_builtin _<|by trivial,nF PySem.F.entry_object_class ?_);repeat (any_goals (first|assumption|(with_reducible show kC s ?_;rw[u])|wp_step))
def Ye(T:kW h AM bm)(B:h.get? C=bj (kK nm q C N bs bm t_ sn sub ab col dd k0 k1 k2 k3 k5 "ValueError.__new__"))(n:h.get? x=bj o)(s:o.cls = .ref C)
  (l:Lk (kg prog w) h (kF (.ref C) "__class__")<|bj<|.builtin "object.__class__") (H:Q (.done<|.ret<|.ref C) (h,g,d,t,os)) :
  kj (kg prog w) A (Builtin.«object.__getattribute__» ([.ref x,.str "__class__" u],[])) Q E (h,g,d,t,os):=by
 have G:((h,g,d,t,os):ke).TypeIs (.builtin "object.__class__") "getset_descriptor" := eQ;have I:=eQ;have J:=gC.lookup;have L:=PySem.F.slot_gs_set.lookup;repeat (any_goals (first|assumption|(with_reducible show kC n ?_;rw[s])|with_reducible show l _ _ _ _ (λZ Z z=>z) ?_|wp_step))
 show Xw T B n s ?_;repeat (any_goals (first|assumption|wp_step))
def aab(T:kW h AM bm)(H:h.get? C=bj (kK nm q C N bs bm t_ sn sub ab col dd k0 k1 k2 k3 k5 "ValueError.__new__"))(l:h.get? x=bj o)(n:o.cls = .ref C)
  (s:Lk (kg prog w) h (kF (.ref C) "__class__")<|bj<|.builtin "object.__class__") (u:Lk (kg prog w) h (kF (.ref C) "__getattribute__")<|bj<|.builtin "BaseException.__getattribute__")
  (B:Lk (kg prog w) h (kF (.ref C) "__getattr__") n_) (M:Q (.ref C) (h,g,d,t,os)):kj (kg prog w) A (getAttrBy (.ref x) (.str "__class__" J) f_) Q E (h,g,d,t,os):=by
 have I:=gQ;have O:=I.ga.bind<|.ref x;have G:(dw "BaseException.__getattribute__" == dw "object.__getattribute__")=f_:=by trivial
 have L:(onTheHeap (ah C) && dw "BaseException.__getattribute__" == dw "object.__getattribute__")=f_:=by rw[G];rfl
 repeat (any_goals (first|assumption|(with_reducible show kC l ?_;rw[n])|with_reducible show u _ _ _ _ (λZ Z z=>z) ?_|with_reducible show B _ _ _ _ (λZ Z z=>z) ?_|wp_step))
 show kQ I.ga.plain iI<|Ss T H l n<|Ye T H l n s ?_;repeat (any_goals (first|assumption|wp_step))
def UB(T:kW h AM bm){Q:Υ->ke->Prop}(u:h.get? C=bj (kK nm q C N bs bm t_ sn sub ab col dd k0 k1 k2 k3 k5 "ValueError.__new__"))(z:h.get? x=bj o)(B:o.cls = .ref C)
  (l:Lk (kg prog w) h (kF (.ref C) "__class__")<|bj<|.builtin "object.__class__") (n:Lk (kg prog w) h (kF (.ref C) "__getattribute__")<|bj<|.builtin "BaseException.__getattribute__")
  (s:Lk (kg prog w) h (kF (.ref C) "__getattr__") n_) (G:Q (bj<|.ref C) (h,g,d,t+1,os)):kj (kg prog w) A (getAttr? (.ref x) "__class__") Q E (h,g,d,t,os):=by
 unfold getAttr? getAttrBy?;repeat (any_goals (first|assumption|with_reducible apply aab T u z B l n s|wp_step))
end
section
variable {os:ac2}
variable {bs bm bs' bm':Ξ}{sub sub':Ξ}{k0 k1 k2 k3 k5 k0' k1' k2' k3' k5':Υ}
def Qu(B:h.get? C=bj (kK nm q C N bs bm hdct sn sub ab col dd k0 k1 k2 k3 k5 newId))
  (l:h.get? C'=bj (kK nm' q' C' N' bs' bm' hdct' sn' sub' ab' col' dd' k0' k1' k2' k3' k5' newId')) (hb:bm'.contains (.type "BaseException")=t_)
  (G:h.get? e=bj z) (n:z.cls = .ref C) (u:Q ((ah C::bm).contains<|.ref C') (h,g,d,t,os)):kj M A (excMatches (.ref e)<|.ref C') Q E (h,g,d,t,os):=by
 have s:(ah C'::bm').contains (.type "BaseException")=t_:=by rw[bE,hb,eh]
 have f:=tc_notTuple;unfold excMatches;cases x:(ah C::bm).contains (.ref C')with
 |true=>
  rw[x]at u;repeat (first|(with_reducible show kC G ?_;rw[n])|with_reducible show kC l ?_|(with_reducible show kL l ?_;rw[s])|(with_reducible show kL B ?_;rw[x])|wp_step)
  show u
 |false=>
  rw[x]at u;repeat (first|(with_reducible show kC G ?_;rw[n])|with_reducible show kC l ?_|(with_reducible show kL l ?_;rw[s])|(with_reducible show kL B ?_;rw[x])|wp_step)
  show u
end
abbrev Mt(M:lY)(e:Addr)(c0:Value)(b:Bool)(s:ke):Prop:=∀(A:Around) (Q:Bool->ke->Prop) (E:Value->ke->Prop),Q b s->kj M A (excMatches (.ref e) c0) Q E s
def Zm(hm:Mt (kg prog w) e c0 t_ s)(O:∀L:Value->ke->Prop,L c0 s->kj (kg prog w) (A.mark<|bj<|.ref e) (eval t env) L (λZ Z=>False) s)
  (k:kj (kg prog w) (A.mark<|bj<|.ref e) (mF (.ref e) n_) (λZ l=>kj (kg prog w) (A.mark<|bj<|.ref e) (storeName env n<|.ref e) (λZ u=>kj (kg prog w) (A.mark<|bj<|.ref e) (execs (b₀::suite) env) (λf B=>kj (kg prog w) A (do bindName env n .none;og env n pos) (λZ G=>Q f G) E B) (λZ Z=>False) u) (λZ Z=>False) l) (λZ Z=>False) s) :
  kj (kg prog w) A (mN (.ref e) env<|.ExceptHandler (bj t) (bj n) (b₀::suite) pos::rest) Q E s:=by
 show aa6 (nV<|kG (O _ ?_) (λc M H=>H) λZ Z x=>x.elim)<|by intro q;cases q
 show hm _ _ _<|codeAny_handlers_suite_as ?_;show kG k (λZ l I=>kG I (λZ u J=>kG J (λZ Z z=>z) λZ Z z=>z.elim) λZ Z z=>z.elim) λZ Z z=>z.elim
def ali(hm:Mt (kg prog w) e c0 f_ s)(G:∀u:Value->ke->Prop,u c0 s->kj (kg prog w) (A.mark<|bj<|.ref e) (eval t env) u (λZ Z=>False) s)
  (k:kj (kg prog w) A (mN (.ref e) env rest) Q E s):kj (kg prog w) A (mN (.ref e) env<|.ExceptHandler (bj t) B (b₀::suite) pos::rest) Q E s:=by
 show aa6 (nV<|kG (G _ ?_) (λc z l=>l) λZ Z x=>x.elim)<|by intro q;cases q
 show hm _ _ _ k
end Xe
namespace Mr
abbrev St:=L2.St
open PySem PySem.Spec PyProof.Rows L2
def Zy{fp:Δ}{T:Addr}(I:qt X ou σ H s)(k:∀b u,b∉fp->s.heap.get? b=bj u->h'.get? b=bj u)
  (t:∀b∈fp,Hc X ou H b) (x:s.heap.objs.size<=T) (new:tT X.prog X.w (rO H T o) h' T o):qt X ou σ (rO H T o) { s with heap:=h',toks:=t' }:=by
 have hn:=I.hok.fresh x;have nf:∀b u,H b=bj u->b∉fp:=λb u e z=>by rw[(t b z).1]at e;cases e
 show I.step (λb hb=>?_) (λb u Q Q l e Q=>k b u l e) (λb u Q Q l e Q=>(u.slots,k b u l e))
  (λb u Q e n=>by rw[pB<|aB<|aQ (ai e) x];show n) (λb u l e=>(u,k b u l e))
  (λb B e=>by rw[pB<|tZ e hn];show e) (λb u B e=>by rw[pB<|tZ e hn];show e) (λb ps e=>(#[],by rw[pB<|tZ e hn,e];rfl)) (λm hm=>?_) (λb u e=>?_) I.bare;.have(_,E,_,G,J,L):=t b hb;show(G,E,J,L)
 .have(u,M,O,P,r):=hm;show(u,M,O,k _ u (λz=>(t _ z).2.1 rfl) P,r)
 .by_cases hb:b=T;.subst hb;rw[pH]at e;cases e;show new
  .rw[pB hb]at e;show(I.hok b u e).stay (λc v l q=>k c v ?_ q) (λc q=>by rw[pB<|tZ q hn];show q) λc B q=>by rw[pB<|tZ q hn];show q
   rcases l with rfl|l;.show nf _ u e
   .show nf c _ l
def afb{fp:Δ}(I:qt X ou σ H s)(k:∀b u,b∉fp->s.heap.get? b=bj u->h'.get? b=bj u)
  (t:∀b∈fp,Hc X ou H b):qt X ou σ H { s with heap:=h',toks:=t' }:=by
 have nf:∀b u,H b=bj u->b∉fp:=λb u e z=>by rw[(t b z).1]at e;cases e
 show I.step (λb hb=>?_) (λb u Q Q l e Q=>k b u l e) (λb u Q Q l e Q=>(u.slots,k b u l e))
  (λQ Q Q Q n=>n) (λb u l e=>(u,k b u l e)) (λQ Q e=>e) (λQ Q Q e=>e) (λb ps e=>(#[],by rw[e];rfl)) (λm hm=>?_) (λb u e=>?_) I.bare;.have(_,x,_,B,E,G):=t b hb;show(B,x,E,G)
 .have(u,J,L,M,r):=hm;show(u,J,L,k _ u (λz=>(t _ z).2.1 rfl) M,r)
 .show(I.hok b u e).stay (λc v l q=>k c v ?_ q) (λQ q=>q) λQ Q q=>q;rcases l with rfl|l;.show nf _ u e
  .show nf c _ l
def Ol(I:qt X ou σ H s)(h:vk X.K H a xs)(f:Hc X ou H b):a≠b:=by
 intro e;subst e;have(l,_,_,t,_):=f;rcases h with(h|⟨o,h⟩)|⟨o,u,n,hk,_⟩;.rw[l]at h;cases h
 .rw[l]at h;cases h
 .have hb:=I.mod.kin a o hk;rcases t with z|z;.show I.ok.noex a o hb z
  .show absurd (aQ (ai (I.ok.bs a o hb).1) z)<|du _
noncomputable def Itz(K:Ζ)(a b:Addr):It:=(λi H=>∃xs l x y,vk K H a xs/\vk K H b l/\xs[i]?=bj x/\l[i]?=bj y,
   λi H v n=>∃T x y,H T=n_/\v = .ref T/\n=rO H T (.tup [x,y])/\(∀xs,vk K H a xs->xs[i]?=bj x)/\∀l,vk K H b l->l[i]?=bj y,
   λi H=>∃xs l,vk K H a xs/\vk K H b l/\(xs.length<=i∨l.length<=i))
structure Z5 (z TI TO i1 i2:Addr):Prop where
 a:TI≠z
 b:TO≠z
 c:i1≠z
 d:i2≠z
 e:TI≠TO
 f:TI≠i1
 g:TI≠i2
 h:TO≠i1
 i:TO≠i2
 j:i1≠i2
def akR(n:Nat):Z5 (n+4) (n+2) (n+3) n<|n+1 where
 a:=λ(q)=>by lia
 b:=λ(q)=>by lia
 c:=λ(q)=>by lia
 d:=λ(q)=>by lia
 e:=λ(q)=>by lia
 f:=λ(q)=>by lia
 g:=λ(q)=>by lia
 h:=λ(q)=>by lia
 i:=λ(q)=>by lia
 j:=λ(q)=>by lia
def aaE{K}l1 l2 z TI TO i1 u(d:Z5 z TI TO i1 u) :
  T3 P w K (.Tuple Y k pos) (Itz K l1 l2) [z,TI,TO,i1,u] z
   (λi h=>IsZip h z TI TO .none/\IsPair h TI (.ref i1) (.ref u)/\(∃a b,IsPair h TO a b)/\h.IsListIter i1 l1 i/\h.IsListIter u l2 i) where
 mem:=by simp
 obj:=λi h st b hb=>by
  have(M,l,(a,c,n),(o1,q1,_,d1),(o2,q2,_,d2)):=st;simp only[ag,bL,or_false]at hb;rcases hb with rfl|rfl|rfl|rfl|rfl;.show(_,M,λv x=>by have x':Data.fields _=Data.cell v:=x;cases x')
  .show(_,l,λv x=>by have x':Data.seq _ _=Data.cell v:=x;cases x')
  .show(_,n,λv x=>by have x':Data.seq _ _=Data.cell v:=x;cases x')
  .show(o1,q1,λv x=>by rw[d1]at x;cases x)
  .show(o2,q2,λv x=>by rw[d2]at x;cases x)
 keep:=λi h h' st kp=>by have(M,l,(a,c,n),S,T):=st;show(kp z ⋯ _ M,kp TI ⋯ _ l,(a,c,kp TO ⋯ _ n),S.at λo q=>kp i1 ⋯ o q,T.at λo q=>kp u ⋯ o q)
 item:=by
  intro X hP hw hK hc i ou s σ H E I O st hg;subst hP hw hK;have(xs,ys,x,y,B,G,U,hy):=hg;have(its1,Q,p1,_):=I.list B;have(its2,R,p2,_):=I.list G;have(u1,hu1,ru1):=Q.get U;have(u2,hu2,ru2):=R.get hy;have(M,l,(a,c,n),S,T):=st;have J:∀b∈[z,TI,TO,i1,u],l1≠b:=λb hb=>Ol I B<|O b hb;have L:∀b∈[z,TI,TO,i1,u],l2≠b:=λb hb=>Ol I G<|O b hb;have D:ZipApart z TI TO i1 u l1 l2:=(d.a,d.b,d.c,d.d,d.e,d.f,d.g,d.h,d.i,d.j,J z ⋯,J TO ⋯,J i1 ⋯,J u ⋯,L z ⋯,L TO ⋯,L i1 ⋯,L u ⋯);have hzl:z<s.heap.objs.size:=ai M;show wpAny_pyNext_zip_item D M l n S T p1.isList p2.isList (x:=u1) (y:=u2) (by simpa using hu1) (by simpa using hu2) λg1 hz1 hTO1 g11 g12 hT1 hsz1 hk1=>(_,rfl,?_);show wpAny_letOwnedTupleGo_zip hz1 λg2 hz2 t=>?_;replace t:fi z g1 g2:=t;have hn:H s.heap.objs.size=n_:=I.hok.fresh<|ae _;show(.ref s.heap.objs.size,rO H s.heap.objs.size<|.tup [x,y],?_,rfl,(_,x,y,hn,rfl,rfl,λws hw=>by rw[I.list_inj hw B];show U,λws hw=>by rw[I.list_inj hw G];show hy),
   (hz2,t.extBut _ _ d.a<|hk1 _ _ d.a d.e d.f d.g l,(_,_,t.extBut _ _ d.b hTO1),g11.extBut t.extBut d.c,g12.extBut t.extBut d.d),λb hb=>?_)
  .change L2.qt X ou σ _ { s with heap:=g2,toks:=s.toks };show Zy (s:=s) (fp:=[z,TI,TO,i1,u]) I (λb o hb q=>?_) O (ae _) (by simp only[lCq,dJ];rw[kO];decide,[u1,u2],.cons ru1<|.cons ru2 .nil,_,t.extBut _ _ (ef hzl) hT1,rfl,_,rfl);have b1:b≠z:=λe=>hb<|by simp[e]
   show t.extBut b o b1<|hk1 b o b1 (λe=>hb<|by simp[e]) (λe=>hb<|by simp[e]) (λe=>hb<|by simp[e]) q
  .have hb2:b<s.heap.objs.size:=by
    have hb':=hb;simp only[ag,bL,or_false]at hb';rcases hb' with rfl|rfl|rfl|rfl|rfl;.show hzl
    .show ai l
    .show ai n
    .have(_,q,_):=S;show ai q
    .have(_,q,_):=T;show ai q
   rw[pB<|aB hb2];show(O b hb).1
 done:=by
  intro X hP hw hK hc i ou s σ H E I O st hg;subst hP hw hK;have(xs,ys,B,G,U):=hg;have(its1,Q,p1,_):=I.list B;have(its2,R,p2,_):=I.list G;have(M,l,(a,c,n),S,T):=st;have J:=λb hb=>Ol I B<|O b hb;have L:=λb hb=>Ol I G<|O b hb;have D:ZipApart z TI TO i1 u l1 l2:=(d.a,d.b,d.c,d.d,d.e,d.f,d.g,d.h,d.i,d.j,J z ⋯,J TO ⋯,J i1 ⋯,J u ⋯,L z ⋯,L TO ⋯,L i1 ⋯,L u ⋯);have e1:=Q.length;have e2:=R.length;show wpAny_pyNext_zip_end (I.ok.hd hc) D M l n S T p1.isList p2.isList ?_ λg1 eb=>(rfl,afb I (λb o hb q=>eb b o (λe=>hb<|by simp[e]) (λe=>hb<|by simp[e]) (λe=>hb<|by simp[e]) (λe=>hb<|by simp[e]) q) O);rcases U with U|U;.show .inl<|by simp;lia
  .show .inr<|by simp;lia
 self:=λZ Z Z Z Z st h=>wpAny_pyIter_zip st.1 h
def alA(K:Ζ)(n:TA):TI:=λσ H R=>n σ H λvs l=>∃a b,vs=[.ref a,.ref b]/\(∃xs,vk K l a xs)/\(∃s,vk K l b s)/\R (Itz K a b) l
def aie(P:Gl X "zip")(hm:X.mg "zip" = n_)(ha:PA X [e,f] G)(Q:↑(ku [e,f] X.env=[%[f_|eval e X.env],%[f_|eval f X.env]]))(l:↑(ku [f] X.env=[%[f_|eval f X.env]])) :
  PI X (.Tuple elts kk tpos) (.Call (.Name "zip" p) [e,f] [] pos)<|alA X.K G:=by
 intro S s σ H R I h;show Call_ (FE I P hm boot_zip<|cE (uQ (ha pos S s σ H _ I h) λus s1 o_=>?_) (by rw[Q,l])<|by rw[l];rfl);have(vs,T,n,r1,q1):=o_;have(a,b,e1,(xs,x),(ys,z),q):=q1;subst e1;have(u,v,rfl,U,Y):=Wl r1;cases U;cases Y;have(J,_,p1,_):=n.list x;have(L,_,p2,_):=n.list z;show call_zip_2 p1.isList p2.isList λg M B E h1 h2 hsz hk=>wpAny_pyIter_zip M ?_;show(s1.heap.objs.size+4,[s1.heap.objs.size+4,s1.heap.objs.size+2,s1.heap.objs.size+3,s1.heap.objs.size,s1.heap.objs.size+1],_,_,T,rfl,n.kept hk,
  aaE a b _ _ _ _ _<|akR s1.heap.objs.size,(M,B,(_,_,E),h1,h2),λc O=>?_,q);have t:s1.heap.objs.size<=c:=by
  simp only[ag,bL,or_false]at O;rcases O with rfl|rfl|rfl|rfl|rfl;.show fP _ _
  .show fP _ _
  .show fP _ _
  .show ae _
  .show fP _ _
 show n.fpOk t<|n.hok.fresh t
def afC{K}{I:TS}{D:zG}(l:Nat->St->Hp->Prop)(L:l 0 σ H)(z:xs.length=n.length)
  (hl:∀i σ H,i<=xs.length->l i σ H->vk K H a xs/\vk K H b n)
  (M:∀i x y σ H T,xs[i]?=bj x->n[i]?=bj y->l i σ H->H T=n_->I { D with nx:=l (i+1),ct:=l (i+1),bk:=D.nx } ((σ.set i1<|bj x).set G<|bj y) (rO H T<|.tup [x,y])) (hd:∀σ H,l xs.length σ H->D.nx σ H) :
  ∃W:Nat->Nat->St->Hp->Prop,(∃m,W 0 m σ H)/\∀i m σ H,W i m σ H ->
   ((Itz K a b).stop i H/\D.nx σ H)∨((Itz K a b).go i H/\∃N:St->Hp->Prop,(∀s t,N s t->∃J,J<m/\W (i+1) J s t)/\∀x t,(Itz K a b).yld i H x t->aaO K 2 (Ji (xa i1)<|Ji (xa G) aai) x σ t λB O=>I { D with nx:=N,ct:=N,bk:=D.nx } B O):=by
 show(λi m σ H=>m=xs.length-i/\i<=xs.length/\l i σ H,(xs.length,by simp,aY _,L),?_);rintro i m σ H ⟨rfl,hi,p⟩;have(q1,E):=hl i σ H hi p;by_cases u:i<xs.length
 .show .inr ((xs,n,xs[i],n[i],q1,E,by simp[u],by simp[z ▸ u]),l<|i+1,λs t P=>(xs.length-(i+1),by lia,rfl,u,P),λv t y=>?_);have(T,x,y,Q,rfl,rfl,R,S):=y;show(T,_,rfl,FF.of pH,rfl,_,_,rfl,_,_,rfl,rfl,M i x y σ H T (R xs q1) (S n E) p Q)
 .have e:i=xs.length:=by rfl'
  subst e;show .inl ((xs,n,q1,E,.inl<|ae _),hd σ H p)
def Ak{σ:St}{ns:Ϝ}(I:qt X n σ H s)(h:vk X.K H a<|ns.map V.int) :
  ∃vs:Ξ,s.heap.IsList a vs.toArray/\lj vs ns/\ns.length<=ky:=by have(l,r,p,z):=I.list h;rw[lMq]at z;show(l,p.isList,Gj r,z)
def Yy(G:X.calm=t_):vN X (.builtin "min")<|λxs H Q=>∃(a:Addr) (ns:Ϝ),xs=[.ref a]/\vk X.K H a (ns.map V.int)/\0<ns.length/\∀M,M∈ns->(∀x,x∈ns->M<=x)->Q (.int M) H:=by
 intro S s σ H xs us Q I r h;have(a,ns,rfl,J,n,q):=h;have(u,rfl,L):=HD r;cases L;have(T,hl,hi,_):=Ak I J;have(xs,e):=hi.allInts.items;have l:ns=xs.toList.map (·.1):=by rw[←hi.numsOf,←nums_intItems,←e]
 have z:0<xs.size:=by have B:=n;rw[l,lMq]at B;show B
 rw[e]at hl;show min_intList (I.ok.hd G) hl z λv U Y O hk=>?_;have(t,rfl):=intItems_at O;have(h1,P):=argBest_lt (numAt xs)<|xs.size-1;show(.int _,H,I.kept hk,(t,rfl),q _ ?_ λx E=>?_);.rw[l,numAt_eq];show PySem.getD_mem<|by rw[lMq,aD];lia
 .rw[l]at E;have(j,R,rfl):=PySem.mem_getD E;rw[lMq,aD]at R;rw[←numAt_eq];show P j ∅
def abi(K:Ζ):V->List V->Hp->VK->Prop:=λx vs H Q=>∃(a:Addr) (ns:Ϝ) (k:Int),x = .ref a/\vs=[.int k]/\vk K H a (ns.map V.int)/\k∈ns/\Q (.int (ns.idxOf k:Nat)) H
def ace:MtR X "list.index"<|abi X.K:=by
 intro ou s σ H x xs v us Q I O r h;have(a,ns,k,rfl,rfl,P,hk,q):=h;cases O;have(u,rfl,t,rfl):=HD r;have(l,R,(o,n,L,S,B,hd),T):=I.list P;have hi:=Gj R;have(cls,dd,M,U):=o;subst S B hd;have z:=hi.length;have E:=dc.mpr hk;have hs:=kO;simp only[lMq]at T;show lX dm (_,L,rfl) hV (gX _ _)
  (SeqAt.list_indexAt a l.toArray n n_ U (.int k t) (isInt k) (ns.idxOf k) (by simpa[z]using E) ∅ ?_ ?_) (L,λy Y=>(eq_isInt k t hi y<|by simpa using Y).at _ _,?_)
 .change isInt k l[ns.idxOf k]=t_;rw[isInt_at k hi _ (by omega) E];simpa using ff E
 .intro j G J;change isInt k l[j]=f_;rw[isInt_at k hi j (by show G) ∅];show ne_of_lt_idxOf J _
 .show(.int _,H,I.tok _,(_,rfl),q)
def akj(K:Ζ)(x:V)(H:Hp)(T:String)(b:Bool):Prop:=match x with
 | .int _=>(T = "int" /\ b=t_)∨(T = "bool" /\ b=f_)
 | .bl _=>(T = "bool" /\ b=t_)∨(T = "int" /\ b=t_)
 | .str _=>T = "str" /\ b=t_
 | .ref p=>(T = "list" /\ b=t_/\∃xs,vk K H p xs)∨(T = "dict" /\ b=t_/\∃kvs,H p=bj (.dK kvs))∨(T = "tuple" /\ b=t_/\∃xs,FF K H p xs)
 |_=>False
def xt:vN X (.builtin "isinstance")<|λxs H Q=>∃x T b,xs=[x,.ty T]/\akj X.K x H T b/\Q (.bl b) H:=by intro E s σ H xs us Q I r h;have(x,T,b,rfl,e,q):=h;have(u,v,rfl,l,G):=Wl r;cases G;cases x with
 |int i=>
  have(t,rfl):=l;rcases e with⟨rfl,rfl⟩|⟨rfl,rfl⟩;.show kH (lC (Tx:= "int") F.isi_meta_int F.sub_int_int) ((show s.TypeIs (.int i t) "int" from rfl),(.bl t_,H,I,rfl,q))
  .show kH (lU (by trivial) F.isi_meta_bool F.sub_int_bool)<|show EP X E σ Q (.bool f_) { s with toks:=s.toks+1 } from (.bl f_,H,I.tok _,rfl,q)
 |bl i=>
  cases l;rcases e with⟨rfl,rfl⟩|⟨rfl,rfl⟩;.show kH (lC (Tx:= "bool") F.isi_meta_bool F.sub_bool_bool) ((show s.TypeIs (.bool i) "bool" from rfl),(.bl t_,H,I,rfl,q))
  .show kH (lC (Tx:= "bool") F.isi_meta_int F.sub_bool_int) ((show s.TypeIs (.bool i) "bool" from rfl),(.bl t_,H,I,rfl,q))
 |str i=>have(t,rfl):=l;have(rfl,rfl):=e;show kH (lC (Tx:= "str") F.isi_meta_str F.sub_str_str) ((show s.TypeIs (.str i t) "str" from rfl),(.bl t_,H,I,rfl,q))
 |ref p=>
  cases l;rcases e with⟨rfl,rfl,xs,n⟩|⟨rfl,rfl,z,J⟩|⟨rfl,rfl,xs,n⟩;.have(B,L,pl,M):=I.list n;show kH (lC F.isi_meta_list<|by kernel_rfl) (pl.isList.typeIs,(.bl t_,H,I,rfl,q))
  .have ty:=(aiC I<|.inl (z,.inl J)).1;show kH (lC F.isi_meta_dict<|by kernel_rfl) (ty,(.bl t_,H,I,rfl,q))
  .have(B,L,(o,O,P,_),M):=I.tuple n;show kH (lC F.isi_meta_tuple<|by kernel_rfl) ((o,O,P),(.bl t_,H,I,rfl,q))
 |_=>show(e).elim
end Mr
namespace Mr
open PySem L2
structure xC (K:Ζ)(mg:Str->Υ)(x:Str)(st:Stmt)(ps:List Str)(f:Addr)(fd:kz):Prop where
 F:Bg K x x st f fd
 m:mg x=bj (.ref f)
 b:rF K fd ps []
def uH(h:H p=n_):rB H<|rO H p o:=λb u e=>by rw[pB<|tZ e h];show e
end Mr
namespace Mr
open PySem PySem.Spec PyProof.Rows L2
def Rp(I:Nat->ke->Prop)
  (turn:∀n s,I n s->kj (kg prog w) A (pyNext X) (λr t=>match r with
   |n_=>R (.ok .next) t
   |bj v=>kj (kg prog w) A (mH l X v) (λZ B=>kj (kg prog w) A (nY l env v) (λZ E=>kj (kg prog w) A (forIn O t_ λc r=>if r=t_ then do let ok ←isTrue c env (eval c env);pure (ForInStep.yield ok)else pure<|ForInStep.yield r) (λok u=>if ok=t_ then kj (kg prog w) A (eval M env) (λx G=>kj (kg prog w) A (call (.builtin "list.append") [P,x]) (λZ H=>∃m,m<n/\I m H) (λZ Z=>False) G) (λZ Z=>False) u
      else ∃m,m<n/\I m u) (λZ Z=>False) E) (λZ Z=>False) B) (λZ Z=>False) t) (λZ Z=>False) s)
  n (h:I n s):lH (kg prog w) A (.compLoop (.ListComp M [(l,xW,O,0)] scope pos) 0 X P env) R s:=by
 show codeAny_loop rfl I (λn s Y=>?_) n h;show wpAny_noted ?_;show ki<|mX<|ki<|kG (turn n s Y) (λr t J=>?_) λZ Z z=>z.elim;cases r with
 |none=>show kA J
 |some v=>
  show ki<|kG J (λZ B Q=>?_) λZ Z z=>z.elim;show ki<|kG Q (λZ E S=>?_) λZ Z z=>z.elim;show ki<|kG S (λok u L=>?_) λZ Z z=>z.elim;cases ok with
  |false=>show kA (rfl,L)
  |true=>show ki<|ki<|kG L (λx G T=>ki<|kG T (λZ H U=>kA<|kA (rfl,U)) λZ Z z=>z.elim) λZ Z z=>z.elim
noncomputable abbrev wJ(X:Cx)(scope:lz)(cl:List<|Str×Addr)(N:List Str)(C:Addr)(s:ke)(H:Hp)(fp:Δ):Cx where
 prog:=X.prog
 w:=X.w
 K:=X.K
 mg:=X.mg
 base:=X.base
 A:=X.A
 N:=N
 s₀:=s
 H₀:=H
 env:=compEnvC scope cl C X.env
 outer:=X.stack
 stack:=X.stack
 ex:=fp
 fn:=λQ=>f_
 calm:=X.calm
 pn:=[]
 xe:=λQ Q=>False
def PF(X:Cx)(l:List Expr)(t:TT):Prop:=∀n s (σ:St) H Q,qt X n σ H s->t σ H Q ->
  kj (kg X.prog X.w) X.A (forIn l t_ λc r=>if r=t_ then do let ok ←isTrue c X.env (eval c X.env);pure (ForInStep.yield ok)else pure<|ForInStep.yield r) (TP X n σ Q) X.xe s
def amK:TT:=λZ H Q=>Q t_ H
def Bn:PF X [] amK:=λQ Q Q H Q I h=>wpAny_tests_nil (H,I,h)
def S4(h:PT X c t):PF X [c] t:=λl s σ H Q I q=>wpAny_tests_one<|h l s σ H Q I q
structure xr (X:Cx)(scope:lz)(cl:List<|Str×Addr)(x:Str)(N:List Str)(fr:Θ):Prop where
 names:N.Nodup
 own:N[0]?=bj x
 len:N.length=fr.length+1
 sub:∀y c,cl.lookup y=bj c->X.env.cells.lookup y=bj c
 has:∀y,((lQ scope X.env).names.lookup y=bj .cell∨(lQ scope X.env).names.lookup y=bj .free)->∃c,cl.lookup y=bj c
 get:∀(k j:Nat) (y:Str),fr[k]?=bj j->N[k+1]?=bj y->X.N[j]?=bj y/\X.env.scope.names.lookup y=bj .cell/\(lQ scope X.env).names.lookup y=bj .cell
structure aaT (X:Cx)(scope:lz)(cl:List<|Str×Addr)(q:Nat)(N:List Str)(fr:Θ):Prop where
 len:N.length=fr.length+q
 sub:∀y c,cl.lookup y=bj c->X.env.cells.lookup y=bj c
 has:∀y,((lQ scope X.env).names.lookup y=bj .cell∨(lQ scope X.env).names.lookup y=bj .free)->∃c,cl.lookup y=bj c
 get:∀(k j:Nat) (y:Str),fr[k]?=bj j->N[k+q]?=bj y->X.N[j]?=bj y/\X.env.scope.names.lookup y=bj .cell/\(lQ scope X.env).names.lookup y=bj .cell
def xr.g(h:xr X scope cl x N fr):aaT X scope cl 1 N fr:=(h.len,h.sub,h.has,h.get)
def xr.none(h:∀p∈scope.names,p.2 ≠ .cell/\p.2 ≠ .free):xr X scope [] x [x] [] where
 names:=by simp
 own:=rfl
 len:=rfl
 sub:=λy c e=>by cases e
 has:=λy e=>by
  exfalso;have key:∀p∈(lQ scope X.env).names,p.2 ≠ .cell/\p.2 ≠ .free:=by
   intro p s;have(q,t,rfl):=mMq.mp s;have(n,k):=q;have(u,l):=h _ t;have hk:(k == NameKind.free)=f_:=by simpa using l
   simp only[hk,jG];show(u,l)
  rcases e with e|e;.show(key _<|PySem.mem_of_lookup e).1 rfl
  .show(key _<|PySem.mem_of_lookup e).2 rfl
 get:=λk j y e Q=>by cases e
noncomputable def slots(σ:St)(fr:Θ):St:=fr.map λj=>(σ[j]?).join
def Vl(E:TI)(fr:Θ)(G:TT)(te:TE):TE:=λσ H Q=>E σ H λJ t=>∀l,t l=n_->∃W:Nat->Nat->Hp->Prop,(∃m,W 0 m<|rO t l<|.lst [])/\∀i m H,W i m H ->
 (J.stop i H/\Q (.ref l) H) ∨
 (J.go i H/\∃N:Hp->Prop,(∀n,N n->∃u,u<m/\W (i+1) u n)/\∀x n,J.yld i H x n->G (bj x::slots σ fr) n λb z=>if b=t_ then te (bj x::slots σ fr) z λy B=>∃s,B l=bj (.lst s)/\s.length<ky/\N (rO B l<|.lst<|s++[y])else N z)
def RT{own:St->Prop}{RR:Value->Addr->nZ->ke->Prop}{Q:VK}
  (hc:X.calm=t_) (hcell:∀y∈scope.names,y.2 ≠ .cell) (hkind:scope.kind = .function) (hF:aaT X scope cl q N fr) (pg:∀C s H fp,PG (wJ X scope cl N C s H fp) tg gq) (hw:∀Y,own Y->∃ws:St,ws.length=q/\Y=ws++slots σ fr)
  (hf:∀C s H fp,PF (wJ X scope cl N C s H fp) ifs tf) (he:∀C s H fp,PE (wJ X scope cl N C s H fp) elt te)
  (I:qt X ou σ H s) (T:T3 X.prog X.w X.K tg J fp it tn) (st:tn 0 s.heap) (O:∀b∈fp,Hc X ou H b)
  (h:∀L,H L=n_->∃W:Nat->Nat->Hp->Prop,(∃m,W 0 m<|rO H L<|.lst [])/\∀i m H,W i m H ->
   (J.stop i H/\Q (.ref L) H) ∨
   (J.go i H/\∃N:Hp->Prop,(∀R,N R->∃m',m'<m/\W (i+1) m' R)/\∀x R,J.yld i H x R->∀vs:St,vs.length=q->gq x (vs++slots σ fr) R λY H1=>own Y/\tf Y H1 λb H2=>if b=t_ then te Y H2 λy H3=>∃ys,H3 L=bj (.lst ys)/\ys.length<ky/\N (rO H3 L<|.lst<|ys++[y])else N H2))
  (fin:∀L C s' Hf m,qt X ou σ Hf s'->s'.heap.Ns C m->Hc X ou Hf C->Q (.ref L) Hf->RR (.ref L) C (.ok .next) s') :
  kj (kg X.prog X.w) X.A (newList []) (λL S=>kj (kg X.prog X.w) X.A (newFunctionEnv scope X.env.globals cl [] X.env.qual n_ .none<|bj X.env) (λcenv s₄=>lH (kg X.prog X.w) X.A (.compStart (.ListComp elt [(tg,xW,ifs,0)] scope pos) 0 (.ref it) L { cenv with scope:=lQ scope X.env }) (RR L cenv.locals) s₄) E S) E s:=by
 show lD<|wpAny_newFunctionEnv hcell (by intro y hy;simp at hy) (λM P B=>?_) hkind;dsimp only at P B ⊢;generalize hG:s.heap.push { cls:=.type "list", dict:=n_,data:=.seq ([]:Ξ).toArray }=G at P B ⊢;have hC:G.objs.size=s.heap.objs.size+1:=by rw[←hG,fv]
 have hCle:s.heap.objs.size<=G.objs.size:=by rw[hC];show bR _
 have hDC:s.heap.objs.size≠G.objs.size:=by rw[hC];show aB<|dA _
 have below:∀b,b<s.heap.objs.size->b≠G.objs.size:=λb hb=>by rw[hC];show aB<|dk hb
 have old:∀b o,s.heap.get? b=bj o->M.get? b=bj o:=λb o e=>B.extBut b o (below b<|ai e)<|aa _<|hG ▸ aa _ e;have hacc:M.get? s.heap.objs.size=bj { cls:=.type "list", data:=.seq ([]:Ξ).toArray }:=B.extBut _ _ hDC<|aa _<|hG ▸ bp _ rfl;have hn:H s.heap.objs.size=n_:=I.hok.fresh<|ae _;have hnC:H G.objs.size=n_:=I.hok.fresh hCle;have fpl:∀b∈fp,b<s.heap.objs.size:=λb hb=>by have(o,q,_):=T.obj 0 _ st b hb;show ai q
 have(W,(m0,w0),turn):=h _ hn;have ok':(wJ X scope cl N G.objs.size s H fp).Ok:=by
  show(I.ok.mod,by change(lQ scope X.env).kind = .function;show hkind,I.ok.glob,I.ok.blt,hCle,λy z c h1 h2=>I.ok.inj y z c (hF.sub y c h1)<|hF.sub z c h2,hF.has,λZ Z z Z=>(by cases z),I.ok.hd,I.ok.frames,.inl rfl,
   λb hb=>(below b<|fpl b hb,λy c e=>(O b hb).2.2.2.2.1 y c<|hF.sub y c e),λb o e=>((I.bs b o e).1,(I.bs b o e).2),bh I.ok.bsz I.sz,λb o e hb=>?_,λb hb z=>?_,I.stack,I.stkFree)
  .rcases(O b hb).2.2.2.1 with q|q;.show I.ok.noex b o e q
   .show absurd (aQ (ai (I.ok.bs b o e).1) q)<|du _
  .rcases ag.mp (I.stkSub b z)with q|q;.show(O b hb).2.1 q
   .show(O b hb).2.2.1 q
 have I0:qt (wJ X scope cl N G.objs.size s H fp) [] (aC q n_++slots σ fr) (rO H s.heap.objs.size<|.lst []) { s with heap:=M,toks:=s.toks+([]:List<|Str×Value).length }:=by
  have hok1:Dw X.prog X.w (rO H s.heap.objs.size<|.lst []) M:=I.hok.laid old (ae _) (aY _,[],0,.nil,hacc);show(ok',rfl,I.bare,Un.laid old (ae _) hn,(_,P,λk y v e1 e2 e3=>?_),λy c e=>?_,?_,λy c e=>?_,λp hp=>absurd (show p∈([]:Φ)from hp) ⋯,hok1,?_)
  .by_cases kq:k<q
   .have e2:(aC q n_++slots σ fr)[k]?=bj (bj v):=e2;rw[gZq<|by rw[bA];show kq,bT,qF kq]at e2;cases e2
   .obtain⟨k,rfl⟩:∃j,k=j+q:=(k-q,by lia);have U:(aC q n_++slots σ fr)[k+q]?=bj (bj v):=e2;rw[gYq<|by rw[bA];rfl',bA,Nat.add_sub_cancel]at U;unfold slots at U;rw[gMq]at U;cases ej:fr[k]? with
    |none=>rw[ej]at U;cases U
    |some j=>
     rw[ej]at U;have e2j:(σ[j]?).join=bj v:=bj.inj U;have e2s:σ[j]?=bj (bj v):=by cases q:σ[j]? with
      |none=>rw[q]at e2j;cases e2j
      |some z=>rw[q]at e2j;show congrArg bj e2j
     have(g1,g2,g3):=hF.get k j y ej e1;have(m,_,hl):=I.loc;have(u,r,l):=hl j y v g1 e2s<|.inr<|.inl g2;show(u,r,.inr (.inl g3,?_));have(c,e):=hF.has y<|.inl g3;have e':=hF.sub y c e;rcases l with⟨l1,_⟩|⟨_,c',ec,hcell'⟩;.have l1':X.env.scope.names.lookup y=bj .local:=l1;rw[g2]at l1';cases l1'
     .rw[e']at ec;cases ec;have(o,ho,hd):=hcell';show(c,e,o,old c o ho,hd)
  .have(v,o,ho,hd):=I.cell y c<|hF.sub y c e;show(v,o,old c o ho,hd)
  .change rO H s.heap.objs.size (.lst []) G.objs.size=n_;rw[pB<|Ne.symm hDC];show hnC
  .have(v,o,ho,hd):=I.cell y c<|hF.sub y c e;rw[pB<|aB<|ai ho];show I.freeC y c<|hF.sub y c e
  .change(aC q n_++slots σ fr).length=N.length;unfold slots;simp only[hF.len,lAq,bA,lMq,gw]
 have st1:tn 0 M:=T.keep 0 _ _ st λb Z o e=>old b o e;have nf0:∀b∈fp,rO H s.heap.objs.size (.lst []) b=n_:=λb hb=>by rw[pB<|aB<|fpl b hb];show(O b hb).1
 have stat:∀{R:Hp},(∀b∈fp,R b=n_)->∀b∈fp,Hc (wJ X scope cl N G.objs.size s H fp) [] R b:=λhn' b hb=>(hn' b hb,below b<|fpl b hb,ok'.exfs b hb,.inl hb,λy c e=>(ok'.exf b hb).2 y c e,λp hp=>absurd (show p∈([]:Φ)from hp) ⋯);have loop:∀S:ke,S={ s with heap:=M,toks:=s.toks+([]:List<|Str×Value).length } ->
   lH (kg X.prog X.w) X.A (.compLoop (.ListComp elt [(tg,xW,ifs,0)] scope pos) 0 (.ref it) (.ref s.heap.objs.size)<|compEnvC scope cl G.objs.size X.env) (RR (.ref s.heap.objs.size) G.objs.size) S:=by
  rintro S rfl;show Rp (λn s'=>∃i vs R,vs.length=q/\qt (wJ X scope cl N G.objs.size s H fp) [] (vs++slots σ fr) R s'/\tn i s'.heap/\(∀b∈fp,R b=n_)/\W i n R) ?_ m0 (0,_,_,bA,I0,st1,nf0,w0);rintro n s4 ⟨i,vs,H4,lv,I4,st4,nf4,w4⟩;rcases turn i n H4 w4 with⟨stop,qq⟩|⟨go,Nx,hNx,step⟩
  .show uQ (T.done (wJ X scope cl N G.objs.size s H fp) rfl rfl rfl hc i [] s4 (vs++slots σ fr) H4 (λZ Z=>False) I4 (stat nf4) st4 stop) λr s5 t=>?_;have(hr,I5):=t;subst hr;have(m,hm,_):=I5.loc;have I6:qt X ou σ H4 s5:=I.call' (ch:=fp) I5.os I5.base I5.hok I5.bare λb hb=>((O b hb).2.2.2.1,(O b hb).2.1,(O b hb).2.2.2.2.1,(O b hb).2.2.2.2.2);show fin _ _ s5 H4 m I6 hm (I.fpOk hCle I5.free) qq
  .show uQ (T.item (wJ X scope cl N G.objs.size s H fp) rfl rfl rfl hc i [] s4 (vs++slots σ fr) H4 (λZ Z=>False) I4 (stat nf4) st4 go) λr s5 t=>?_;have(u,hr,h5):=t;subst hr;show uQ h5 λZ s6 t=>?_;have(y,H6,I6,r6,y6,st6,nf6):=t;have I6':=I6.pinned (stat nf6)<|T.obj _ _ st6;show uQ (pg _ _ _ _ _ s6 (vs++slots σ fr) H6 y u _ I6' r6<|step y _ y6 vs lv) λZ s7 t=>?_;have(σ7,H7,I7,o7,q7):=t;have(ws,lw,e7):=hw _ o7;subst e7;show uQ (hf _ _ _ _ _ s7 _ _ _ I7 q7) λb s8 t=>?_;have(H8,I8,q8):=t;have again:∀{s9:ke}{H9:Hp},qt (wJ X scope cl N G.objs.size s H fp) ([]++LP fp s6.heap) (ws++slots σ fr) H9 s9->Nx H9->∃m,m<n/\∃i vs R,vs.length=q/\qt (wJ X scope cl N G.objs.size s H fp) [] (vs++slots σ fr) R s9/\tn i s9.heap/\(∀b∈fp,R b=n_)/\W i m R:=λ{s9 H9} I9 n9=>by
    have(m',hm,w9):=hNx H9 n9;show(m',hm,i+1,ws,H9,lw,I9.unpinned,T.keep _ _ _ st6 λb hb o e=>(I9.pin %[b|o]<|aH _<|aH _<|Ca hb e).1,λb hb=>?_,w9);have(o,e,d):=T.obj _ _ st6 b hb;show(I9.pin %[b|o]<|aH _<|aH _<|Ca hb e).2.1
   cases b with
   |false=>show again I8 q8
   |true=>
    show uQ (he _ _ _ _ _ s8 _ _ _ I8 q8) λz s9 t=>?_;have(zv,H9,I9,r9,ys,a9,l9,n9):=t;show uQ (sQ _ s9 _ H9 (.ref s.heap.objs.size) [zv] (.ref s.heap.objs.size) [z] (λZ R=>R=rO H9 s.heap.objs.size (.lst<|ys++[zv])) I9 rfl (.cons r9 .nil) (_,ys,zv,rfl,rfl,a9,l9,rfl)) λZ s10 t=>?_;have(_,H10,I10,_,e10):=t;subst e10;show again I10 n9
 show codeAny_compStart_list (loop _ rfl)<|T.self X.A 0 _ _ _ st1<|loop _ rfl
def Li{σ:St}{RR:Value->Addr->nZ->ke->Prop}{Q:VK}
  (hc:X.calm=t_) (t:∀y∈scope.names,y.2 ≠ .cell) (u:scope.kind = .function) (Y:scope.names.lookup x=bj .local) (O:xr X scope cl x N fr)
  (hf:∀C s H fp,PF (wJ X scope cl N C s H fp) ifs tf) (he:∀C s H fp,PE (wJ X scope cl N C s H fp) elt te)
  (I:qt X M σ H s) (T:T3 X.prog X.w X.K (.Name x px) J fp S U) (st:U 0 s.heap) (P:∀b∈fp,Hc X M H b)
  (h:∀l,H l=n_->∃W:Nat->Nat->Hp->Prop,(∃m,W 0 m<|rO H l<|.lst [])/\∀i m H,W i m H ->
   (J.stop i H/\Q (.ref l) H) ∨
   (J.go i H/\∃N:Hp->Prop,(∀z,N z->∃m',m'<m/\W (i+1) m' z)/\∀x z,J.yld i H x z->tf (bj x::slots σ fr) z λb H2=>if b=t_ then te (bj x::slots σ fr) H2 λy H3=>∃R,H3 l=bj (.lst R)/\R.length<ky/\N (rO H3 l<|.lst<|R++[y])else N H2))
  (fin:∀l C s' Hf m,qt X M σ Hf s'->s'.heap.Ns C m->Hc X M Hf C->Q (.ref l) Hf->RR (.ref l) C (.ok .next) s') :
  kj (kg X.prog X.w) X.A (newList []) (λl B=>kj (kg X.prog X.w) X.A (newFunctionEnv scope X.env.globals cl [] X.env.qual n_ .none<|bj X.env) (λn G=>lH (kg X.prog X.w) X.A (.compStart (.ListComp elt [(.Name x px,xW,ifs,0)] scope pos) 0 (.ref S) l { n with scope:=lQ scope X.env }) (RR l n.locals) G) E B) E s:=by
 show RT (own:=λL=>∃a,L=a::slots σ fr) hc t u O.g (λC s H fp=>Oh O.names O.own (.inl<|oh Y)<|.inr<|oh Y) (λL e=>?_) hf he I T st P (λl ha=>?_) fin;.have(a,rfl):=e;show([a],rfl,rfl)
 .have(W,w0,turn):=h l ha;show(W,w0,λi m H w=>(turn i m H w).imp id λo_=>?_);have(go,N,hN,stp):=o_;show(go,N,hN,λx z y vs lv=>?_);match vs,lv with
  | [v],_=>show((bj x,rfl),stp x z y)
def zW(G:X.calm=t_)(t:closureFor scope X.env=pure cl)(u:∀y∈scope.names,y.2 ≠ .cell)(l:scope.kind = .function)(n:∀y∈scope.names,y.2 = .local->scope.names.lookup y.1=bj .local)
  (L:scope.names.lookup x=bj .local) (M:xr X scope cl x N fr) (hi:PI X (.Name x px) xW E) (O:∀C s H fp,PF (wJ X scope cl N C s H fp) ifs tf) (P:∀C s H fp,PE (wJ X scope cl N C s H fp) elt te)
  (R:∀x,mZ xW X.env x=pure x:=by intro _;rfl):PE X (.ListComp elt [(.Name x px,xW,ifs,0)] scope pos)<|Vl E fr tf te:=by
 intro S s σ H Q I h;show nu rfl R t l n<|uQ (hi S s σ H _ I h) λv s1 U=>uQ U λY s2 h2=>?_;have(it,fp,tn,J,H2,e,I2,T,Qj,f2,q2):=h2;subst e;show Li G u l L M O P I2 T Qj f2 q2 ?_;intro B C s' Hf m I' hm z q;show(m,hm,λh' sb=>(.ref B,Hf,?_,rfl,q));show I'.turned (λb o hb e=>(sb.2 b hb).trans e) z.1 z.2.1 z.2.2.2.1 z.2.2.2.2.1 z.2.2.2.2.2
def JH(hc:X.calm=t_)(hN:X.N.Nodup)(hi0:X.N[i]?=bj y)(hy:Loc X.env.scope y)(E:closureFor scope X.env=pure cl)(G:∀y∈scope.names,y.2 ≠ .cell)(l:scope.kind = .function)
  (n:∀y∈scope.names,y.2 = .local->scope.names.lookup y.1=bj .local)
  (hx:scope.names.lookup x=bj .local) (hF:xr X scope cl x N fr) (hi:PI X (.Name x px) xW wi) (hf:∀C s H fp,PF (wJ X scope cl N C s H fp) ifs tf) (he:∀C s H fp,PE (wJ X scope cl N C s H fp) elt te)
  (R:↑(lS (.ListComp elt [(.Name x px,xW,ifs,0)] scope pos) (bj<|.Name y py) B.line X.env=pure t_)) (hs:∀x,mZ xW X.env x=pure x:=by intro _;rfl)
  (S:↥(X.fn y=t_∨X.env.scope.names.lookup y=bj .local)) :
  PS X (.Assign [.Name y py] (.ListComp elt [(.Name x px,xW,ifs,0)] scope pos) B)<|OT (Vl wi fr tf te)<|xa i:=by
 intro O s σ H D I h;rw[exec_Assign_Name_used _ _ _ _ R];show ki<|mX<|ki ?_;change kj _ X.A (do let _ ←comprehension (.ListComp elt [(.Name x px,xW,ifs,0)] scope pos) scope X.env _ (newList []) f_ (eval xW X.env) (bj<|nY (.Name y py) X.env)) _ _ s;show ki (kG (nu (use:=bj<|nY (.Name y py) X.env) (Q:=λZ L=>SP X O D .next L) rfl hs E l n
  (uQ (hi O s σ H _ I h) λv s1 h1=>uQ h1 λitv s2 h2=>?_)) (λZ L hq=>kA<|kA hq) λZ Z e=>e);have(it,fp,tn,J,H2,e,P,T,Qj,f2,U):=h2;subst e;show Li (RR:=λt C=>compPost (kg X.prog X.w) X.A X.xe (bj<|nY (.Name y py) X.env) (λZ L=>SP X O D .next L) t C) (Q:=λv H'=>D.nx (σ.set i<|bj v) H') hc G l hx hF hf he P T Qj f2 U ?_;intro t C L Hf m I' hm M q;have(o,es,ep,ho,hd,r):=id hm;have I1:qt X (O++[%[C|o]]) σ Hf L:=I'.pins_of λp hp=>(mAq.mp hp).elim (λz=>I'.pin p<|aH _ z) λz=>by
  have e:p=%[C|o]:=by simpa using z
  subst e;show(ho,M.1,M.2.1,M.2.2.1,λv z=>by rw[hd]at z;cases z)
 show uQ (Oh (X:=X) (i:=i) (pos:=py) hN hi0 hy S _ L σ Hf (.ref t) (.ref t) _ I1 rfl q) λZ s2 Y=>?_;have(σ2,H2,P,U):=Y;have pC:=P.pin %[C|o]<|aH _<|aH _ ⋯;show(m,(o,es,ep,pC.1,hd,r),λh' sb=>(σ2,H2,?_,U));show P.unpinned.turned (t':=s2.toks) (λb u hb e=>(sb.2 b hb).trans e) pC.2.1 M.2.1 M.2.2.2.1 M.2.2.2.2.1 M.2.2.2.2.2
end Mr
namespace MrS
open PySem PyProof.Rows
section
variable {s:ke}
noncomputable abbrev A3(h:Heap)(a:Addr)(vs:Ξ):Heap:=((h.update a<|Obj.mapSeq λQ=>#[]).push<|kZ "tuple" vs.toArray 0).push<|kZ "list" #[] 0
def L9(B:s.heap.get? a=bj (kZ "list" vs.toArray n))(O:vs.length<=ky)
  (I:2<=vs.length->∀Q:lg->ke->Prop,Q mE { s with heap:=A3 s.heap a vs }->kj (kg prog w) A (keyKind' vs.toArray) Q E { s with heap:=A3 s.heap a vs })
  (C:Ff prog w A { s with heap:=A3 s.heap a vs } mE Pk lt) (L:∀x,x∈lG vs->Pk x)
  (h:∀xs:Array kf,xs.Perm (lG vs)->FG lt xs 0 (lG vs).size->P (.done<|.ret .none) { s with heap:=sortedHeap s.heap a vs (xs.map (·.2)) }) :
  kj (kg prog w) A (Builtin.«list.sort» ([.ref a],[])) P E s:=by
 rw[list_sort_plain];have ha:a<s.heap.objs.size:=ai B;show ki<|listItems_at B rfl ?_;show ki<|aaK B rfl ?_ (hsz:=by show O);obtain⟨e1,t⟩:∃e1,(s.heap.update a<|Obj.mapSeq λZ=>#[]).get? a=bj (kZ "list" #[] e1):=(_,nD B<|λZ=>#[]);show ki<|ac3 t rfl ?_;show ki<|wpAny_newTuple ?_;show ki<|wpAny_newList ?_;show lZ ?_;have l:(A3 s.heap a vs).get? a=bj (kZ "list" #[] e1):=by
  rw[fD _ _ _<|by rw[size_push',eU];show aB<|dk ha,fD _ _ _<|by rw[eU];show aB ha];show t
 change kj (kg prog w) A _ P E { s with heap:=A3 s.heap a vs };dsimp only;have R:vs.toArray.size=vs.length:=by rfl
 have S:ky=16777216:=kO;by_cases G:vs.toArray.size<2
 .rw[qF G,qF G];show ki<|kA ?_;rw[StateT.run_pure];show ki<|kA ?_;dsimp only;show ki<|ac3 l rfl ?_;show ki<|aaK l rfl ?_ (hsz2:=by rw[jI];change(lG vs).size<=_;rw[mI,kO];rfl');simp only[bne_self_eq_false,bW,if_false];show kA<|h _ (jF.refl _) ?_;intro i j x y _ T U ex M;have:i=j:=by rw[mI]at U;lia
  subst this;rw[ex]at M;cases M;show C.refl<|L x<|aQq ex
 .rw[qL G,qL G];show ki<|I ∅ _ ?_;show ki (kG (O9 C (arr:=lG vs) (g:=7) (E:=E)
   (Q:=λZ u=>∃xs p H,u=Cd mE xs p H/\xs.Perm (lG vs)/\FG lt xs 0 (lG vs).size) L (by rw[mI];lia) λxs p H X Y=>(xs,p,H,rfl,X,Y)) ?_ λZ Z e=>e);rintro⟨⟨⟩,u⟩ s' ⟨rfl,xs,p,H,rfl,z,J⟩;dsimp only;show ki<|ac3 l rfl ?_;show ki<|aaK l rfl ?_ (hsz2:=by show bh (fj<|(jI ..).trans<|z.size_eq.trans<|mI _) ?_;rfl');simp only[bne_self_eq_false,bW,if_false];show kA<|h xs z J
def afJ{xs:Ω}vs(t:h.get? a=bj (kZ "list" xs n)):∃e1,(A3 h a vs).get? a=bj (kZ "list" #[] e1):=by
 have ha:a<h.objs.size:=ai t;obtain⟨e1,l⟩:∃e1,(h.update a<|Obj.mapSeq λQ=>#[]).get? a=bj (kZ "list" #[] e1):=(_,nD t<|λQ=>#[]);show(e1,?_);rw[fD _ _ _<|by rw[size_push',eU];show aB<|dk ha,fD _ _ _<|by rw[eU];show aB ha];show l
def aew{h:Heap}{xs:Ω}(l:Ω)(t:h.get? a=bj (kZ "list" xs n)):∃u,(h.update a<|Obj.mapSeq λQ=>l).get? a=bj (kZ "list" l u):=(_,nD t<|λQ=>l)
def Dz{vs:Ξ}(h:x∈lG vs):x.1∈vs/\x.2=x.1:=by
 have(i,hi,e):=Array.mem_iff_getElem.mp h;have l:i<vs.length:=by rw[mI]at hi;show hi
 have:x=%[vs[i]|vs[i]]:=by rw[←e];simp[lG]
 rw[this];show(gRq l,rfl)
def RV{vs:Ξ}(t:xs.Perm<|lG vs)(B:FG lt xs 0 (lG vs).size) :
  (xs.map (·.2)).toList.Perm vs/\(xs.map (·.2)).toList.Pairwise (λx y=>lt %[y|y] %[x|x]=f_):=by
 constructor
 .have:=t.toList.map (·.2);have e:(lG vs).toList.map (·.2)=vs:=by
   have:(lG vs).toList=vs.zip vs:=by simp[lG]
   rw[this];apply List.ext_getElem;.simp
   .intro i J L;simp
  rw[e]at this;rw[Array.toList_map];show this
 .rw[cT];intro i j hi G u;have n:i<xs.size:=by simpa using hi
  have l:j<xs.size:=by simpa using G
  have z:=B i j xs[i] xs[j] (aY _) (bZ u) (by rw[←t.size_eq];show l) (by simp[n])<|by simp[l]
  have H:=Dz<|t.mem_iff.mp<|bu n;have I:=Dz<|t.mem_iff.mp<|bu l;have e1:xs[i]=%[xs[i].2|xs[i].2]:=jC H.2.symm rfl;have e2:xs[j]=%[xs[j].2|xs[j].2]:=jC I.2.symm rfl;rw[e1,e2]at z;simpa using z
def K6{vs:Ξ}(hl:s.heap.IsList l vs.toArray)(B:vs.length<=ky)
  (I:∀s':ke,(∀b o,s.heap.get? b=bj o->s'.heap.get? b=bj o)->(2<=vs.length->∀Q:lg->ke->Prop,Q mE s'->kj (kg prog w) A.in1.in1 (keyKind' vs.toArray) Q E s')/\Ff prog w A.in1.in1 s' mE Pk lt)
  (J:∀v∈vs,Pk %[v|v])
  (h:∀(out:Ξ) h' L,out.Perm vs->out.Pairwise (λx y=>lt %[y|y] %[x|x]=f_)->(∀b o,s.heap.get? b=bj o->h'.get? b=bj o) ->
   h'.get? (s.heap.objs.size+1)=bj (kZ "list" out.toArray L)->Q (.ref<|s.heap.objs.size+1) { s with heap:=h' }) :
  kj (kg prog w) A (call (.builtin "sorted") [.ref l]) Q E s:=by
 show Calls.call_function_entry kind_sorted plain_sorted entry_sorted (args_sorted1 _) ?_;unfold Builtin.«sorted»;show ki (m:=checkCount "sorted" 1 1 _)<|kA ?_;show ki<|collect_list hl ?_ B;show ki<|wpAny_newList ?_;have t:((s.heap.push<|kZ "list" #[] 0).update s.heap.objs.size (Obj.mapSeq (· ++ vs.toArray))).objs.size=s.heap.objs.size+1:=by rw[eU,size_push']
 have n:(((s.heap.push<|kZ "list" #[] 0).update s.heap.objs.size (Obj.mapSeq (· ++ vs.toArray))).push<|kZ "list" vs.toArray 0).get? (s.heap.objs.size+1)=bj (kZ "list" vs.toArray 0):=by rw[←t];show bp _ rfl
 change kj _ _ _ _ _ { s with heap:=((s.heap.push<|kZ "list" #[] 0).update s.heap.objs.size (Obj.mapSeq (· ++ vs.toArray))).push (kZ "list" vs.toArray 0) };rw[t];generalize M:((s.heap.push<|kZ "list" #[] 0).update s.heap.objs.size (Obj.mapSeq (· ++ vs.toArray))).push (kZ "list" vs.toArray 0)=G at n ⊢;have O:∀b o,s.heap.get? b=bj o->G.get? b=bj o:=λb o e=>by rw[←M];show aa _ ?_;rw[ee _ _ _ _<|aB<|ai e];show aa _ e
 have H:∀b o,s.heap.get? b=bj o->(A3 G (s.heap.objs.size+1) vs).get? b=bj o:=λb o e=>by show aa _<|aa _ ?_;rw[ee _ _ _ _<|aB<|dk<|ai e];show O b o e
 have(q1,P):=I { s with heap:=A3 G (s.heap.objs.size+1) vs } H;show ki<|lZ<|wpAny_call_entry slot_list_sort (_,n,rfl) entry_list_sort (L9 (Pk:=Pk) (lt:=lt) n B q1 P (λx R=>?_) λu S T=>(_,rfl,?_))<|args_list_sort _;.have(U,X):=Dz R;have:x=%[x.1|x.1]:=jC rfl X;rw[this];show J _ U
 .have(Y,v2):=RV S T;have(e1,z):=afJ vs n;have(n1,g1):=aew (u.map (·.2)) z;show kA (_,rfl,h _ (sortedHeap G (s.heap.objs.size+1) vs (u.map (·.2))) n1 Y v2 (λb o e=>?_) ?_);.unfold sortedHeap;rw[ee _ _ _ _<|aB<|dk<|ai e];show H b o e
  .rw[show(u.map (·.2)).toList.toArray=u.map (·.2)from Array.toArray_toList];show g1
end
end MrS
namespace HT
open PySem PyProof.Rows
section
open PySem.SeqAt
open PySem.AutoSeq1 (wpAny_loadPart')
open PySem.MeetsSeq PySem.MeetsSeq2 PySem.MeetsSeq3 PySem.SeqRoads2
def Q2{vs:Ξ}{ns:Ϝ}(h:lj vs ns):∀{i}hi,∃z t,vs[i] = .int z t/\ns.drop i=z::ns.drop (i+1):=by induction h with
 |nil=>intro i hi;show absurd hi<|dN _
 |cons a t _ l=>intro i hi;cases i with
  |zero=>show(a,t,rfl,rfl)
  |succ i=>show l (i:=i)<|by simpa using hi
def Qh l b(B z:Ω)n T dd J(U L:Array Υ)(ns ms:Ϝ)(hi:lj B.toList ns)(Q:lj z.toList ms)k :
  ∀i:Nat,min B.size z.size-i=k->i<=B.size->i<=z.size->Meets (Builtin.«list.__eq__.loop» ([.ref l,.ref b,mK i,mK 0],[]))
   (λZ R s=>s.heap.get? l=bj { cls:=.type "list", dict:=dd,data:=.seq B n,slots:=U }/\s.heap.get? b=bj { cls:=.type "list", dict:=J,data:=.seq z T,slots:=L } /\
    R (.ok<|.ret<|.bool<|wa (ns.drop i)<|ms.drop i) s):=by
 have z1:ns.length=B.size:=by rw[←hi.length];simp
 have z2:ms.length=z.size:=by rw[←Q.length];simp
 induction k with
 |zero=>
  intro i hk X Y prog w A R s h;have(M,g,d,O,os):=s;have(hl,hb,h):=h;wp_walk using wpAny_loadPart' hl,wpAny_loadPart' hb;have fin:wa (ns.drop i) (ms.drop i)=decide (B.size<z.size):=by
   by_cases c:i=B.size
   .have e1:ns.drop i=[]:=cJ ∅;rw[e1];by_cases S:i<z.size
    .rw[aS (by lia:i<ms.length),K5];show(d0 ∅).symm
    .rw[cJ (by lia:ms.length<=i),Ms];show(d4 ∅).symm
   .have S:i=z.size:=by lia
    rw[aS (by lia:i<ns.length),cJ (by lia:ms.length<=i),KA];show(d4 ∅).symm
  rw[fin]at h;by_cases c:i=B.size
  .have hi1:B[((i:Nat):Int).toNat]?=n_:=by simp;lia
   rw[hi1];wp_walk using wpAny_loadPart' hl,wpAny_loadPart' hb;show h
  .have S:i=z.size:=by lia
   have hi1:B[((i:Nat):Int).toNat]?=bj (B[i]'∅):=by simp
   have E:z[((i:Nat):Int).toNat]?=n_:=by simp;lia
   rw[hi1,E];wp_walk using wpAny_loadPart' hl,wpAny_loadPart' hb;show h
 |succ k ih=>
  intro i hk X Y prog w A R s h;have(M,g,d,O,os):=s;have(hl,hb,h):=h;wp_walk using wpAny_loadPart' hl,wpAny_loadPart' hb;have I:i<B.size:=by lia
  have G:i<z.size:=by lia
  have(x,t,ex,dx):=Q2 hi (i:=i)<|by simpa using I
  have(y,u,ey,dy):=Q2 Q (i:=i)<|by simpa using G
  have hi1:B[((i:Nat):Int).toNat]?=bj (.int x t):=by rw[←ex];simp[I]
  have E:z[((i:Nat):Int).toNat]?=bj (.int y u):=by rw[←ey];simp[G]
  have hc:((i:Int)+1)=((i+1:Nat):Int):=by push_cast;rfl
  rw[dx,dy,CQ]at h;rw[hi1,E];have(e,he,H):=aaj A.in1 (M,g,d,O,os) x t y u;show ki<|he prog w _ _ ?_;cases e with
  |true=>
   rw[qF<|H.mp rfl]at h;wp_walk;rw[hc];show(oq plain_eq_loop _,nF entry_eq_loop (by rw[Around.under_plainId plain_eq_loop _];show ih (i+1) ∅ ∅ ∅ prog w A R _ (hl,hb,h)))
  |false=>
   rw[qL<|λq=>absurd (H.mpr q) aE]at h;have P:=Y9 A.in1 (M,g,d,O,os) x t y u prog w;wp_walk using wpAny_loadPart' hl,wpAny_loadPart' hb;rw[hi1,E];wp_walk using P;show h
def Pi l b(u t:Ω)n B dd x(E z:Array Υ)(ns ms:Ϝ)(hi:lj u.toList ns)(G:lj t.toList ms) :
  Meets (Builtin.«list.__lt__» ([.ref l,.ref b],[]))
   (λQ R s=>s.heap.get? l=bj { cls:=.type "list", dict:=dd,data:=.seq u n,slots:=E }/\s.heap.get? b=bj { cls:=.type "list", dict:=x,data:=.seq t B,slots:=z } /\
    R (.ok<|.ret<|.bool<|wa ns ms) s):=by
 intro prog w A R s h;have(H,g,d,I,os):=s;have(hl,hb,h):=h;have J:=AutoSeq1.sub_list_list;wp_walk using wpAny_loadPart' hl,wpAny_loadPart' hb;show(oq plain_eq_loop _,nF entry_eq_loop (by rw[Around.under_plainId plain_eq_loop _];show Qh l b u t n B dd x E z ns ms hi G _ 0 rfl (aY _) (aY _) prog w A R _ (hl,hb,h)))
end
end HT
namespace Mr
open PySem PySem.Spec PyProof.Rows L2
section
open HT
theorem LG:∀xs l:Ϝ,wa xs l=t_->wa l xs=f_
 | [],[],_=>rfl
 | [],_::_,_=>rfl
 |_::_,[],h=>by cases h
 |x::xs,y::l,h=>by
  simp only[CQ]at h ⊢;by_cases e:x=y;.rw[qF e]at h;rw[qF e.symm];show LG xs l h
  .rw[qL e]at h;rw[qL<|Ne.symm e];have n:=of_decide_eq_true h;show d4 ∅
theorem HY:∀xs l n:Ϝ,wa l xs=f_->wa n l=f_->wa n xs=f_
 | [],[],[],_,_=>rfl
 | [],[],_::_,_,h=>by show h
 | [],_::_,[],_,h=>by cases h
 | [],_::_,_::_,_,_=>rfl
 |_::_,[],_,h,_=>by cases h
 |_::_,_::_,[],_,h=>by cases h
 |x::xs,y::l,z::n,h1,h2=>by
  simp only[CQ]at h1 h2 ⊢;by_cases e1:y=x
  .rw[qF e1]at h1;subst e1;by_cases e2:z=y;.rw[qF e2]at h2 ⊢;show HY xs l n h1 h2
   .rw[qL e2]at h2 ⊢;show h2
  .rw[qL e1]at h1;have s:=of_decide_eq_false h1;by_cases e2:z=y
   .rw[qL<|by ac_nf];show d4<|by ac_nf
   .rw[qL e2]at h2;have t:=of_decide_eq_false h2;rw[qL ∅];show d4<|by omega
theorem RG:∀xs l:Ϝ,wa xs l=f_->wa l xs=f_->xs=l
 | [],[],_,_=>rfl
 | [],_::_,h,_=>by cases h
 |_::_,[],_,h=>by cases h
 |x::xs,y::l,h1,h2=>by
  simp only[CQ]at h1 h2;by_cases e:x=y;.rw[qF e]at h1;rw[qF e.symm]at h2;rw[e,RG xs l h1 h2]
  .rw[qL e]at h1;rw[qL<|Ne.symm e]at h2;have n:=of_decide_eq_false h1;have s:=of_decide_eq_false h2;lia
def rLe(x y:Ϝ):Bool:=!HT.wa y x
def XE x y z(l:rLe x y=t_)(n:rLe y z=t_):rLe x z=t_:=by unfold rLe at *;simp only[jt]at *;show HY x y z l n
def Yo x y:(rLe x y || rLe y x)=t_:=by unfold rLe;cases h:HT.wa y x with
 |false=>rfl
 |true=>rw[LG y x h];rfl
def AO(rs:Λ):Λ:=rs.mergeSort rLe
def vF rs:(AO rs).Perm rs:=jb _ _
def Aq rs:(AO rs).Pairwise<|λx y=>HT.wa y x=f_:=by
 show(iq XE Yo rs).imp λ{a b} h=>?_;unfold rLe at h;simpa using h
def MW:∀{xs l:Λ},xs.Perm l->xs.Pairwise (λx y=>HT.wa y x=f_)->l.Pairwise (λx y=>HT.wa y x=f_)->xs=l
 |xs,l,n,s,t=>bS.eq_of_pairwise (λa b Q Q e1 e2=>(RG b a e1 e2).symm) s t n
def FM(l:xs.Perm rs)(h:xs.Pairwise<|λx y=>HT.wa y x=f_):xs=AO rs:=MW (l.trans (vF rs).symm) h<|Aq rs
def Nh(n:rs.Perm l):AO rs=AO l:=FM ((vF rs).trans n)<|Aq rs
def Al rs:(AO rs).length=rs.length:=(vF rs).length_eq
noncomputable def Ga(ns:Ϝ):Ϝ:=ns.mergeSort<|λx y=>decide<|x<=y
def Il ns:(Ga ns).Perm ns:=jb _ _
def QR ns:(Ga ns).Pairwise (·<=·):=by
 show(iq (λa b c l n=>?_) (λa b=>?_) ns).imp λ{a b} h=>by simpa using h
 .simp only[decide_eq_true_eq]at *;rfl'
 .simp only[Bool.or_eq_true,decide_eq_true_eq];lia
def adR(l:xs.Perm ns)(h:xs.Pairwise (·<=·)):xs=Ga ns:=bS.eq_of_pairwise (λa b Q Q e1 e2=>Int.le_antisymm e1 e2) h (QR ns)<|l.trans (Il ns).symm
end
def uB(H:Hp)(ps:Δ)(rs:Λ):Prop:=ps.map H=rs.map (λr=>bj<|HO.lst<|r.map V.int)
def uB.nil:uB H [] []:=rfl
theorem uB.length(h:uB H ps rs):ps.length=rs.length:=by have:=congrArg cH h;simpa using this
def uB.cons_iff{ps:Δ}{rs:Λ}{r:Ϝ}:uB H (p::ps) (r::rs)↔H p=bj (.lst<|r.map V.int)/\uB H ps rs:=by unfold uB;rw[aq,aq,List.cons.injEq]
def uB.get(h:uB H ps rs){i:Nat}(e:ps[i]?=bj p):∃r,rs[i]?=bj r/\H p=bj (.lst<|r.map V.int):=by
 have:=congrArg (λl=>l[i]?) h;simp only[gMq,e,bK]at this;cases n:rs[i]? with
 |none=>rw[n]at this;cases this
 |some r=>rw[n]at this;show(r,rfl,bj.inj this)
def uB.mem(h:uB H ps rs)(l:p∈ps):∃r,r∈rs/\H p=bj (.lst<|r.map V.int):=by have(i,hi):=List.getElem?_of_mem l;have(r,n,e):=h.get hi;show(r,mGq n,e)
def uB.keep(h:uB H ps rs)(k:∀p∈ps,l p=H p):uB l ps rs:=by unfold uB at *;rw[←h];show mCq k
def uB.same(h:uB H ps rs)(s:rB H l):uB l ps rs:=h.keep λp n=>by have(r,_,e):=h.mem n;rw[s _ _ e,e]
noncomputable def toI:V->Int
 | .int i=>i
 |_=>0
def wY(H:Hp)(p:Addr):Ϝ:=match H p with
 |bj (.lst xs)=>xs.map toI
 |_=>[]
def QS(h:H p=bj (.lst<|r.map V.int)):wY H p=r:=by unfold wY;rw[h];simp only[mPq];show List.map_id'' (λQ=>rfl) r
def uB.fn(h:uB H ps rs):rs=ps.map (wY H):=by induction rs generalizing ps with
 |nil=>have:=h.length;have:=bG.mp this;rw[this];rfl
 |cons r rs l=>cases ps with
  |nil=>have:=h.length;simp at this
  |cons p ps=>have(n,s):=uB.cons_iff.mp h;rw[aq,←l s,QS n]
def uB.fn_row(h:uB H ps rs)(l:p∈ps):H p=bj (.lst<|(wY H p).map V.int):=by have(r,_,e):=h.mem l;rw[QS e];show e
def uB.of_fn(h:∀p∈ps,H p=bj (.lst<|(wY H p).map V.int)):uB H ps<|ps.map<|wY H:=by unfold uB;rw[mPq];show mCq h
def uB.perm(h:uB H ps rs)(s:l.Perm ps):∃n,uB H l n/\n.Perm rs/\n=l.map (wY H):=(_,uB.of_fn λp m=>h.fn_row<|s.mem_iff.mp m,by rw[h.fn];show s.map _,rfl)
def uB.free{H:Hp}(h:uB l ps rs)(n:l q=n_):q∉ps:=λm=>by have(r,_,e):=h.mem m;rw[n]at e;cases e
theorem BQ:∀{ps:Δ}{vs},qS (ps.map V.ref) vs->vs=ps.map ah
 | [],vs,r=>by cases r;rfl
 |p::ps,vs,r=>by cases r with
  |cons l n=>have e:=l;rw[e,BQ n];rfl
theorem Nn:∀(ps:Δ),qS (ps.map V.ref)<|ps.map ah
 | []=>.nil
 |p::ps=>.cons rfl<|Nn ps
noncomputable def Ax:Value->Addr
 | .ref p=>p
 |_=>0
noncomputable def intOf:Value->Int
 | .int i _=>i
 |_=>0
def adw{vs:Ξ}{ns:Ϝ}(h:lj vs ns):ns=vs.map intOf/\∀v∈vs,∃a t,v = .int a t:=by induction h with
 |nil=>show(rfl,λv l=>by cases l)
 |cons a t _ n=>
  show(by rw[aq,←n.1];rfl,λv l=>?_);rcases ag.mp l with rfl|l;.show(a,t,rfl)
  .show n.2 v l
theorem vals_ints:∀{vs},(∀v∈vs,∃a t,v = .int a t)->qS ((vs.map intOf).map V.int) vs
 | [],_=>.nil
 |v::vs,h=>by have(a,t,rfl):=h _<|bf ..;show .cons (t,rfl)<|vals_ints λv l=>h v<|mCo _ l
def afg{vs:Ξ}(t:2<=vs.length)(u:∀v∈vs,W.Looks M s.heap (typeOf v) (.type T))(l:(cI T != cI "tuple")=t_)(n:(cI T == cI T)=t_)(h:Q mE s) :
  kj M A (keyKind' vs.toArray) Q E s:=W.kas_kind t u l n h
noncomputable def ltI(x y:kf):Bool:=match x.1,y.1 with
 | .int a _,.int b _=>decide<|a<b
 |_,_=>f_
def anK(prog)w A s:MrS.Ff prog w A s mE (λx=>∃a t,x.1 = .int a t) ltI where
 ask:=by rintro⟨_,x⟩ ⟨_,y⟩ ⟨a,t,e1⟩ ⟨b,u,e2⟩ E Q q;subst e1 e2;show oneLt_int q
 asym:=by rintro⟨_,x⟩ ⟨_,y⟩ ⟨a,t,e1⟩ ⟨b,u,e2⟩ h;subst e1 e2;have h':=of_decide_eq_true h;show d4 ∅
 trans:=by rintro⟨_,x⟩ ⟨_,y⟩ ⟨_,z⟩ ⟨a,t,e1⟩ ⟨b,u,e2⟩ ⟨c,v,l⟩ n B;subst e1 e2 l;have G:=of_decide_eq_false n;have H:=of_decide_eq_false B;show d4<|by omega
def ltR(r:Addr->Ϝ)(x y:kf):Bool:=match x.1,y.1 with
 | .ref p,.ref q=>HT.wa (r p)<|r q
 |_,_=>f_
def an0{ps:Δ}(L:A.units<kP)
  (h:∀p∈ps,∃vs:Ξ,PlainL s.heap p vs.toArray/\lj vs (r p)):MrS.Ff prog w A s mE (λx=>∃p,x.1 = .ref p/\p∈ps)<|ltR r where
 ask:=by
  rintro⟨_,x⟩ ⟨_,y⟩ ⟨p,e1,M⟩ ⟨q,e2,O⟩ E Q k;subst e1 e2;have(vs,(o,n,t,P,u,hd),hi):=h p M;have(R,(S,T,B,G,l,H),U):=h q O;have(cls,dd,data,X):=o;have(J,Y,data2,I):=S;subst P u hd G l H;show ki<|wpAny_cRoomFor L ?_;show ki (wpAny_callSpecialIfBound?_slot (_,t,rfl) F.slot_list_lt (lX F.slot_list_lt (_,t,rfl) F.entry_list_lt (F.args_list_lt_2 _ _)
   (HT.Pi p q vs.toArray R.toArray n T n_ n_ X I (r p) (r q) (by show hi)<|by show U) (t,B,?_)));show kU k
 asym:=by rintro⟨_,x⟩ ⟨_,y⟩ ⟨a,e1,_⟩ ⟨b,e2,_⟩ h;subst e1 e2;show LG _ _ h
 trans:=by rintro⟨_,x⟩ ⟨_,y⟩ ⟨_,z⟩ ⟨a,e1,_⟩ ⟨b,e2,_⟩ ⟨c,e3,_⟩ h1 h2;subst e1 e2 e3;show HY _ _ _ h1 h2
def OS:vN X (.builtin "sorted")<|λxs H Q=>∃a ns,xs=[.ref a]/\vk X.K H a (ns.map V.int)/\∀p,H p=n_->Q (.ref p) (rO H p<|.lst<|(Ga ns).map V.int):=by
 intro ou s σ H xs us Q I r h;have(a,ns,rfl,J,q):=h;have(u,rfl,L):=HD r;cases L;have(M,hl,hi,O):=Ak I J;have(P,z):=adw hi;have B:=hi.length;show MrS.K6 hl ∅ (λs' Z=>(λl Q q=>?_,anK _ _ _ _)) (λv m=>z v m) λout E R G S T U=>?_;.match M,hi,l with
  | [],_,l=>simp at l
  | [_],_,l=>simp at l
  |v₁::v₂::rest,hi,_=>rw[keyKind_ints hi];show kA q
 .have n:=λv m=>z v<|G.mem_iff.mp m;have e:out.map intOf=Ga ns:=by
   show adR (by rw[P];show G.map _) ?_;rw[bM];show S.imp_of_mem λ{x y} mx my h=>?_;have(a,t,rfl):=n x mx;have(b,u,rfl):=n y my;have E:=of_decide_eq_false h;change a<=b;rfl'
  have Y:=I.hok.fresh<|bR _;show(.ref<|s.heap.objs.size+1,_,I.laid T (bR _)<|show tT X.prog X.w _ E _ (.lst<|(Ga ns).map V.int)from (?_,out,R,?_,U),rfl,q _ Y);.rw[lMq,(Il ns).length_eq];show O
  .rw[←e];show vals_ints n
def OC(hu:X.A.units+64<kP):vN X (.builtin "sorted") (λxs H Q=>∃a ps rs,xs=[.ref a]/\vk X.K H a (ps.map V.ref)/\uB H ps rs /\
  ∀p B,H p=n_->B.Perm ps->uB (rO H p<|.lst<|B.map V.ref) B (AO rs)->Q (.ref p) (rO H p<|.lst<|B.map V.ref)):=by
 intro ou s σ H xs us Q I r h;have(a,ps,rs,rfl,hS,Y,q):=h;have(u,rfl,ru):=HD r;cases ru;have(L,R,hl,hz):=I.list hS;have ei:=BQ R;subst ei;have M:∀p∈ps,∃G:Ξ,PlainL s.heap p G.toArray/\lj G (wY H p):=λp t=>by have(L,R,pl,_):=I.list<|vk.of<|Y.fn_row t;show(L,pl,Gj R)
 have z:∀(J:ke),(∀b o,s.heap.get? b=bj o->J.heap.get? b=bj o)->∀p∈ps,∃G:Ξ,PlainL J.heap p G.toArray/\lj G (wY H p):=λJ k p t=>by have(G,(o,n,O,rest),hi):=M p t;show(G,(o,n,k _ _ O,rest),hi)
 show MrS.K6 (Pk:=λx=>∃p,x.1 = .ref p/\p∈ps) (lt:=ltR<|wY H) hl.isList (by simpa using hz) (λJ k=>(λh2 Q q=>?_,an0 (by change X.A.units+1+1<kP;lia)<|z J k)) (λv m=>?_) λout h' n' o1 o2 o3 o4=>?_
 .show afg (T:= "list") h2 (λv S=>?_) (by rfl) (by rfl) q;have(p,t,rfl):=mMq.mp S;have(G,pl,_):=z J k p t;intro A Q E s2 k2 q2;have(o,O,hc,_):=pl.isList;show abH (T:= "list") (o,k2 _ _ O,hc) q2
 .have(p,t,rfl):=mMq.mp m;show(p,rfl,t)
 .have O:∀v∈out,∃p∈ps,v = .ref p:=λv m=>by have(p,t,rfl):=mMq.mp<|o1.mem_iff.mp m;show(p,t,rfl)
  have U:out=(out.map Ax).map ah:=by
   rw[mPq];have e:=mCq (l:=out) (f:=id) (g:=ah∘Ax) λv S=>by have(p,_,rfl):=O v S;rfl
   rw[←e,cW]
  have P:(out.map Ax).Perm ps:=by
   have:=o1.map Ax;rw[mPq,show Ax∘ah=id from rfl,cW]at this;show this
  have t:H (s.heap.objs.size+1)=n_:=I.hok.fresh<|bR _;generalize out.map Ax=B at U P;have(ts,e1,e2,e3):=Y.perm P;have es:ts=AO rs:=by show FM e2 ?_;rw[e3,bM];rw[U,bM]at o2;show o2
  show(.ref<|s.heap.objs.size+1,_,I.laid (t':=s.toks) o3 (bR _)<|show tT X.prog X.w _ h' _ (.lst<|B.map V.ref)from (?_,out,n',?_,o4),rfl,q _ B t P<|by rw[←es];show e1.same<|uH t);.rw[lMq,P.length_eq];simpa using hz
  .rw[U];show Nn B
noncomputable def BP(r:Ϝ):PyData:=.list<|r.map PyData.int
def Lv(rs:Λ):PyData:=.list<|rs.map BP
def Xv{σ:St}(I:qt X l σ H s)(h:H p=bj (.lst<|r.map V.int)):Reads s.heap (.ref p) (BP r) [p]:=by have(n,hl,hi,_):=Ak I<|vk.of h;show W.reads_of_ints hl hi
theorem Jh:∀rs:Λ,PyData.canLayAll0 (rs.map BP)=t_
 | []=>by rfl
 |r::rs=>by simp[PyData.canLayAll0,BP,PyData.canLay0,W.canLayAll0_ints r,Jh rs]
theorem Lz:∀rs:Λ,PyData.depthAll (rs.map BP)<=3
 | []=>by simp[PyData.depthAll]
 |r::rs=>by have l:=Lz rs;have n:=W.depthAll_ints r;simp only[aq,PyData.depthAll,BP,PyData.depth];lia
def Js rs:SeqAt.shaped (Lv rs)=t_:=by
 have n:=Lz rs;have l:PyData.depth (Lv rs)<=64:=by simp only[Lv,PyData.depth];lia
 change(PyData.canLay0 (Lv rs) && decide (PyData.depth (Lv rs)<=64))=t_;rw[cS];show(by show Jh rs,d0 l)
theorem K8:∀rs l:Λ,SeqAt.noMixAll (rs.map BP) (l.map BP)=t_
 | [],[]=>by rfl
 | [],_::_=>by rfl
 |_::_,[]=>by rfl
 |r::rs,t::l=>by simp[SeqAt.noMixAll,BP,SeqAt.noMix,W.noMix_ints r t,K8 rs l]
theorem M1:∀rs l:Λ,PySem.Spec.sameAll (rs.map BP) (l.map BP)=decide (rs=l)
 | [],[]=>by rfl
 | [],_::_=>by rfl
 |_::_,[]=>by rfl
 |r::rs,t::l=>by
  simp only[aq,PySem.Spec.sameAll,BP,PySem.Spec.same,W.same_ints r t];rw[M1 rs l];by_cases h:r=t <;> simp[h]
def acV:V->List V->Hp->VK->Prop:=λx vs H Q=>∃(a b:Addr) (ps:Δ) (rs:Λ) (r:Ϝ),x = .ref a/\vs=[.ref b]/\H a=bj (.lst<|ps.map V.ref)/\uB H ps rs/\H b=bj (.lst<|r.map V.int)/\b∉ps/\Q (.int (rs.countP (·=r):Nat)) H
def aad(hu:X.A.units+65<kP):MtR X "list.count" acV:=by
 intro ou s σ H x xs v us Q I O r h;have(a,b,ps,P,row,rfl,rfl,R,e1,B,S,q):=h;cases O;have(u,rfl,T):=HD r;cases T;have(U,Y,(o,n,G,J,l,hd),hz):=I.list<|vk.of R;have ei:=BQ Y;subst ei;have(cls,dd,L,sl):=o;simp only at J l hd;subst J l hd;have hr:=Xv I B;show lX ir (_,G,rfl) PySem.F.entry_list_count (PySem.F.args_list_count_2 _ _)
  (SeqAt.list_countAt a (ps.map ah).toArray n n_ sl (.ref b)<|λy=>decide<|wY H (Ax y)=row) (G,λy hy=>?_,?_)
 .have(p,M,rfl):=mMq.mp<|show y∈ps.map ah by simpa using hy
  show SeqAt.EqAt.of_refs (λe=>S<|e ▸ M) λprog w E Q hq=>?_;have(vs,hl,hi,_):=Ak I<|vk.of<|e1.fn_row M;have(ws,t,z,_):=Ak I<|vk.of B;show W.eq_intsK (prog:=prog) (w:=w) (A:=X.A.in1) hl hi t z (by change X.A.units+1+64<kP;rfl') hq
 .show(.int _,H,I.tok _,(_,rfl),?_);have e:(ps.map ah).toArray.toList.countP (λy=>decide<|wY H (Ax y)=row)=P.countP (·=row):=by simp only[List.toList_toArray,e1.fn,jD,jD];rfl
  rw[e];show q
end Mr
namespace Mr
open PySem L2
structure Bt (mg:Str->Υ):Prop where
 len:mg "len" = n_
 min:mg "min" = n_
 max:mg "max" = n_
 abs:mg "abs" = n_
 all:mg "all" = n_
 sorted:mg "sorted" = n_
 isi:mg "isinstance" = n_
 list:mg "list" = n_
 int:mg "int" = n_
 bool:mg "bool" = n_
 str:mg "str" = n_
 dict:mg "dict" = n_
 zip:mg "zip" = n_
 enum:mg "enumerate" = n_
 range:mg "range" = n_
 reversed:mg "reversed" = n_
structure Fn (P:kx)(w:kB)(K:Ζ)(mg:Str->Υ)(base:Heap)(k:Nat)(x:Str)(st:Stmt)(ps:List Str)(sp:Sp)(f:Addr)(fd:kz):Prop where
 D:xC K mg x st ps f fd
 ok:zD P w K mg base Rl k f fd ps sp
def um.units65(r:um k A):A.units+65<kP:=by have:=r.un;lia
def ahu(G:Fn X.prog X.w X.K X.mg X.base k x st ps sp f fd)(hr:um k X.A)(ha:PA X (e::es) t)(s:↑(Gl X x))(l:⇑((x == ("__debug__" : Str))=f_))
  (u:↑(ku (e::es) X.env=%[f_|eval e X.env]::ku es X.env)) (n:↑((kN pos<|ku es X.env).any (·.1)=f_)) :
  PE X (.Call (.Name x p) (e::es) [] pos)<|xl sp [] E0 t:=Ph G.ok hr s G.D.m G.D.F.kp G.D.b .nil Vp ha l u n
section
variable (K:Ζ)
def Vv:Sp:=λvs H Q Z=>∃(a:Addr) (ns:Ϝ),vs=[.ref a]/\vk K H a (ns.map V.int)/\ns.length<=63/\∀l,Q (.bl t_) l
end
def tX{α:Type}{l:List α}{x}(h:l[i]?=bj x):l.take (i+1)=l.take i++[x]:=by rw[dR,h];rfl
end Mr
namespace Xe
open PySem PySem.Spec PySem.W PyProof.Rows L2 Mr
abbrev St:=L2.St
noncomputable abbrev lk0(K:Frag)(C:Addr):Bool:=findIn K (.ref C) "__setattr__" == bj (bj<|.builtin "object.__setattr__") && findIn K (.ref C) "__getattribute__" == bj (bj<|.builtin "BaseException.__getattribute__") &&
 findIn K (.ref C) "__getattr__" == bj n_ && findIn K (.ref C) "__class__" == bj (bj<|.builtin "object.__class__")
def Bl(K:Frag)(c:Str)(C:Addr)(bm:Ξ):Bool:=match K.lookup C with
 |bj ⟨.type "type", _,.cls l,s⟩=>(match s.toList with
  | [_,_,_,_,bj (.builtin n),_]=>l.name == c && l.mro == .ref C::bm && n == "ValueError.__new__" && !l.hasDel && l.hasDict && tailIn K AM bm
  |_=>f_)
 |_=>f_
structure XC (K:Frag)(c:Str)(C:Addr)(bm:Ξ):Prop where
 obj:∃N q bs sn sub ab col dd k0 k1 k2 k3 k5,K.lookup C=bj (kK c q C N bs bm t_ sn sub ab col dd k0 k1 k2 k3 k5 "ValueError.__new__")
 cls:∃cd,clsIn K C=bj cd/\cd.mro = .ref C::bm/\cd.name=c
 tail:∀h:Heap,K.In h->kW h AM bm
set_option tactic.hygienic true in
def AL{K}(e:Bl K c C bm=t_):XC K c C bm:=by
 unfold Bl at e;split at e
 .rename_i O z B E;split at e
  .rename_i G H I J n L M;simp only[cS,beq_iff_eq,jt]at e;have(((((e1,e2),P),s),t),ht):=e;have Q:clsIn K C=bj z:=by unfold clsIn;rw[E]
   have(nm,bs,mro,ns,R,hd,S,sub,T,u,U):=z;dsimp only at e1 e2 s t;subst e1 e2 P s t;have x:B=#[G,H,I,J,bj (.builtin "ValueError.__new__"),L]:=by obtain⟨l⟩:=B;simp only at M;rw[M]
   subst x;show((ns,R,bs,S,sub,T,u,O,G,H,I,J,L,E),(_,Q,rfl,rfl),λh X=>tail_of_in X ht)
  .cases e
 .cases e
def Wp{K}(e:Bl K c C bm=t_)(x:Bl K u C l=t_):c=u/\bm=l:=by have(_,(H,z,B,E),_):=AL e;have(_,(G,n,s,t),_):=AL x;rw[z]at n;cases n;rw[B]at s;show(E.symm.trans t,by injection s)
structure Ref (K:Frag)(c:Str)(C M:Addr):Prop where
 nm:nsIn K kr c=bj (bj<|.ref C)
 nmM:nsIn K kr "MapError" = bj (bj<|.ref M)
 xc:Bl K c C (.ref M::AM)=t_
 xm:Bl K "MapError" M AM=t_
 lk:lk0 K C=t_
def IsC(K:Frag)(c:Str)(C:Addr):Prop:=nsIn K kr c=bj (bj<|.ref C)/\((∃M,Ref K c C M)∨(c = "MapError" /\ Bl K "MapError" C AM=t_))
def Ref.one{K}(a:Ref K c C M)(b:Ref K c C' l):C=C'/\M=l:=by have e1:=a.nm.symm.trans b.nm;have e2:=a.nmM.symm.trans b.nmM;simp at e1 e2;show(e1,e2)
structure Ref.Lks (K:Frag)(M:lY)(h:Heap)(C:Addr):Prop where
 sa:Lk M h (kF (.ref C) "__setattr__")<|bj<|.builtin "object.__setattr__"
 ga:Lk M h (kF (.ref C) "__getattribute__")<|bj<|.builtin "BaseException.__getattribute__"
 gt:Lk M h (kF (.ref C) "__getattr__") n_
 cl:Lk M h (kF (.ref C) "__class__")<|bj<|.builtin "object.__class__"
def Ref.lks{K}(r:Ref K c C M)(X:K.In h):Ref.Lks K Mo h C:=by have e:=r.lk;simp only[lk0,cS,beq_iff_eq]at e;have(((e1,e2),l),n):=e;show(looks_findIn X e1,looks_findIn X e2,looks_findIn X l,looks_findIn X n)
noncomputable def J4(e C:Addr)(od:Option Addr):HO:=.ext λh=>∃o vs,h.get? e=bj o/\o.cls = .ref C/\o.dict=od/\o.data = .fields vs
noncomputable def UO(e C:Addr)(od:Option Addr):HO:=.ext λh=>∃t,h.get? e=bj (EA C t od)
def aj8{vs:Ω}(n:h.get? e=bj o)(s:o.cls = .ref C)(t:o.dict=od)(u:o.data = .fields vs):tT P w H h e<|J4 e C od:=((o,vs,n,s,t,u),(o,n),λz g2 ⟨x,l,a,b⟩ k=>(x,l,k _ a,b))
def Oc(l:h.get? e=bj (EA C t od)):tT P w H h e<|UO e C od:=((t,l),(_,l),λs g2 ⟨n,a⟩ k=>(n,k _ a))
def PJ(ok:Dw P w H h)(q:H e=bj (UO e C od)):∃t,h.get? e=bj (EA C t od):=(show tT P w H h e (UO e C od)from ok e _ q).1
def HC(ok:Dw P w H h)(q:H e=bj (J4 e C od)):∃o vs,h.get? e=bj o/\o.cls = .ref C/\o.dict=od/\o.data = .fields vs:=(show tT P w H h e (J4 e C od)from ok e _ q).1
def KD(q:H e=bj o):rO H e o=H:=by
 funext b;by_cases hb:b=e;.subst hb;rw[pH,q]
 .rw[pB hb]
def tBI(K:Frag)(t:TA):TE:=λσ H Q=>t σ H λvs l=>∃e v c C M,vs=[.ref e,v]/\l e=bj (UO e C n_)/\Ref K c C M/\Q .non l
def ahj(R:Gl X x)(hm:X.mg x=bj (.ref M))(hr:readsIn X.K M (.type "type")=t_)
  (S:specialIn X.K (.ref M) "__getattribute__" = bj (bj<|.builtin "type.__getattribute__")) (U:findCls X.K (.ref M) (.type "type") "__init__" = bj (.val<|.builtin "ValueError.__init__"))
  (ha:PA X [z,l] t) (L:⇑((x == ("__debug__" : Str))=f_))
  (Y:↑(ku [z,l] X.env=%[f_|eval z X.env]::ku [l] X.env)) (O:↑((kN pos<|ku [l] X.env).any (·.1)=f_))
  (ht:↑(eval (.Call (.Attribute (.Name x p) "__init__" G) [z,l] [] pos) X.env=(do
   let ov ←eval (.Name x p) X.env
   mQ G.atName
   let %[f|first] ←mS [ov] (mw ov "__init__" pl)
   ny pos f first (kN pos<|ku [z,l] X.env) (mO pos<|mn [] X.env)))):PE X (.Call (.Attribute (.Name x p) "__init__" G) [z,l] [] pos)<|tBI X.K t:=by
 intro ou s σ H Q I h;show W.methodCall_KW (pl:=pl) (zh I R hm ?_ L) ht;show method_cls I.kIn S<|cls_value I.kIn hr U (by trivial) ?_;show fX (uQ (ha pos ou _ σ H _ (I.tok _) h) λus s1 P=>?_) Y O;have(vs,H1,E,r1,e,v,c,C,Mc,ev,n,rf,q):=P;subst ev;cases r1 with
 |cons r2 r3=>cases r3 with
  |cons r4 r5=>
   cases r5;cases r2;have(t0,hx):=PJ E.hok n;have((N,q',bs,sn,sub,ab,col,dd,k0,k1,k2,k3,k5,hC),_,T):=AL rf.xc;have(hh,g,d,tk,os):=s1;show Xg (T _ E.kIn) (E.kIn _ _ hC) hx (λh' t1 hk B=>?_)<|by rw[kO];simp
   show(.non,H1,?_,rfl,q);have J:=E.write (x:=e) (e:=e) (o:=UO e C n_) (t':=tk) (by rw[n];trivial) (.inl rfl) (λb u hb hu=>hk b u hb hu) (_,B)<|Oc B;rw[KD n]at J;show J
def sXF(K:Frag)(t u:TE)(f:Str):TS:=λD σ H=>u σ H λy z=>t σ z λx n=>∃e c C M,x = .ref e/\n e=bj (UO e C n_)/\Ref K c C M/\findIn K (.ref C) f=bj n_ /\
 ∀l,n l=n_->l≠e->D.nx σ (rO (rO n l<|.xd [%[f|y]]) e<|UO e C<|bj l)
def agA(ha:PE X o ta)(hv:PE X t tv)(hs:lS t (bj<|.Attribute o f B) pos.line X.env=pure f_):PS X (.Assign [.Attribute o f B] t pos)<|sXF X.K ta tv f:=by
 intro ou s σ H D I h;show mG (uQ (hv ou s σ H _ I h) λu s1 U=>?_) hs;have(y,H1,I1,ry,q):=U;show uQ (ha ou s1 σ H1 _ I1 q) λov s2 Y=>?_;have(x,S,E,rx,e,c,C,M,ex,he,rf,nf,q2):=Y;subst ex;obtain rfl:ov=ah e:=rx;have(t0,hx):=PJ E.hok he;have((N,q',bs,sn,sub,ab,col,dd,k0,k1,k2,k3,k5,hC),_,T):=AL rf.xc;have L:=rf.lks (Mo:=kg X.prog X.w) E.kIn;have LN:=looks_findIn (M:=kg X.prog X.w) E.kIn nf;have(hh,g,d,tk,os):=s2;show Xf (T _ E.kIn) (E.kIn _ _ hC) hx L.sa LN λh' O tk' n1 n2 P hns hk=>?_;have nd:S O=n_:=E.hok.fresh n1;show(σ,_,?_,q2 O nd n2);have ne:∀b l,S b=n_->hh.get? b=bj l->b≠e:=λb l z Z=>λq=>by rw[q,he]at z;cases z
 have nx:∀b l,hh.get? b=bj l->b≠O:=λb l z=>aB<|aQ (ai z) n1;have Q:∀b l,S b=bj l->b≠O:=λb l z q=>by rw[q,nd]at z;cases z
 have J:∀(b:Addr) (l:HO),S b=bj l->(∀φ,l ≠ .ext φ)->b≠e:=λb l z k q=>by rw[q,he]at z;cases z;show k _ rfl
 show E.un (t':=tk') (λb l z n Z Z=>hk b l (ne b l n z) z,λb l z n Z Z=>(l.slots,hk b l (ne b l n z) z),λb l z n Z=>by rw[pB<|ne b l n z,pB<|nx b l z];show n,λb l z Z=>?_,
  λb xs z=>by rw[pB (J b _ z λφ w=>by cases w),pB<|Q b _ z];show z,λb o' u' z=>by rw[pB (J b _ z λφ w=>by cases w),pB<|Q b _ z];show z,
  λb ps z=>(#[],by rw[pB (J b _ z λφ w=>by cases w),pB<|Q b _ z,z];rfl)) λb u z=>?_
 .by_cases hb:b=e;.cases hb;show(_,P)
  .show(l,hk b l hb z)
 .by_cases hb:b=e;.cases hb;rw[pH]at z;cases z;show Oc P
  .rw[pB hb]at z;by_cases R:b=O
   .subst R;rw[pH]at z;cases z;show(_,hns,λg=>?_);by_cases hg:g=f;.cases hg;simpa[cG,Du]using ry
    .have:(g == f)=f_:=by simpa using hg
     simp[cG,this,hg,Du]
   .rw[pB R]at z;show(E.hok b u z).stay (λG v' hc r=>hk G v' ?_ r) (λG r=>?_) λG xs r=>?_
    .rcases hc with rfl|hc;.show hb
     .show J G _ hc λφ w=>by cases w
    .rw[pB (J G _ r λφ w=>by cases w),pB<|Q G _ r];show r
    .rw[pB (J G _ r λφ w=>by cases w),pB<|Q G _ r];show r
def aau(K:Frag)(c fld:Str):Sp:=λvs H Q Z=>∃e v C M,vs=[.ref e,v]/\H e=bj (UO e C n_)/\Ref K c C M/\findIn K (.ref C) fld=bj n_ /\
 ∀l,H l=n_->l≠e->Q .non (rO (rO H l<|.xd [%[fld|v]]) e<|UO e C<|bj l)
def aly(K:Frag)(c fld:Str)(t:TA):TE:=λσ H Q=>t σ H λvs n=>∃v C M,vs=[v]/\Ref K c C M/\findIn K (.ref C) fld=bj n_ /\
 ∀e l,n e=n_->n l=n_->l≠e->Q (.ref e) (rO (rO n l<|.xd [%[fld|v]]) e<|UO e C<|bj l)
structure Ini (P:kx)(w:kB)(K:Frag)(mg:Str->Υ)(base:Heap)(k:Nat)(c fld prm:Str)(C M f:Addr)(fd:kz):Prop where
 rf:Ref K c C M
 ini:findIn K (.ref C) "__init__" = bj (bj<|.ref f)
 fn:isFn K (.ref f)=t_
 kp:keepIn K (.ref C)=t_
 nf:findIn K (.ref C) fld=bj n_
 m:mg c=bj (.ref C)
 b:rF K fd ["self", prm] []
 ok:zD P w K mg base Rl k f fd ["self", prm]<|aau K c fld
def aeU:rO (rO (rO H e a) l b) e c=rO (rO H l b) e c:=by
 funext x;unfold rO;split;.rfl
 .rename_i h;split;.rfl
  .first|rfl|rw[qL h]
section
variable {fld:Str}
def adP{σ:St}(G:Ini X.prog X.w X.K X.mg X.base k c fld prm C M f fd)(hr:um (k+1) X.A)(s:qt X z σ n s1)(L:rS v u)
  (q:∀e x,n e=n_->n x=n_->x≠e->Q (.ref e) (rO (rO n x<|.xd [%[fld|v]]) e<|UO e C<|bj x)):kj (kg X.prog X.w) X.A (call (.ref C) [u]) (EP X z σ Q) X.xe s1:=by
 have((N,q',bs,sn,sub,ab,O,dd,k0,k1,k2,k3,k5,P),_,T):=AL G.rf.xc;have(hh,g,d,H,os):=s1;show XU (T _ s.kIn) (s.kIn _ _ P) (looks_findIn s.kIn G.ini) (λself=>bind_fn s.kIn self<|beq_iff_eq.mp G.fn) (λR e hm I=>?_)<|by rw[kO];simp
 have S:n e=n_:=s.hok.fresh I;have(t0,U,_,_):=hm.there;have B:qt X z σ (rO n e<|UO e C n_) (R,g,d,H,os):=s.laid (t':=H) hm.keeps I<|Oc U;have E:aau X.K c fld [.ref e,v] (rO n e<|UO e C n_) (λJ Y=>J = .non/\Q (.ref e) Y) E0:=by
  show(e,v,C,M,rfl,pH,G.rf,G.nf,λx nd ne=>(rfl,?_));rw[aeU];rw[pB ne]at nd;show q e x S nd ne
 show lF<|lK (G.ok.run _ X.stack _ _ ([.ref e,u],[]) [.ref e,u] [.ref e,v] _ E0 (hr.make C [u] []) (B.env0.make C [u] []) (G.b _ [.ref e,u] B.kIn rfl) (.cons rfl<|.cons L .nil) E) λr s' l=>?_;cases r with
 |error e=>show False.elim l
 |ok fl=>cases fl with
  |ret u=>have(J,H',I3,rv,ev,q3):=B.after l;subst ev;show(rv,(V.ref e,H',I3,rfl,q3))
  |next=>show False.elim l
  |brk=>show False.elim l
  |cont=>show False.elim l
def TQ(G:Ini X.prog X.w X.K X.mg X.base k c fld prm C M f fd)(hr:um (k+1) X.A)(ha:PA X [a] t)(B:↑(Gl X c))(l:⇑((c == ("__debug__" : Str))=f_))
  (E:↑(ku [a] X.env=%[f_|eval a X.env]::ku [] X.env)) (n:↑((kN pos<|ku [] X.env).any (·.1)=f_)) :
  PE X (.Call (.Name c p) [a] [] pos)<|aly X.K c fld t:=by
 intro J s σ H Q I h;show kM<|zh I B G.m ?_ l;show W.callWith_K (h₀:=X.base) I.ok.mod.kin G.kp (uQ (ha pos J s σ H _ I h) λus s1 u=>?_) E n;have(R,S,z,r,v,C',T,L,x,O,q):=u;show(z.kIn,?_);have(rfl,rfl):=G.rf.one x;subst L;cases r with
 |cons P r2=>cases r2;show adP G hr z P q
end
def W8(P:kx)(w:kB):QX:=λouter H s E n s'=>∃e C od l o vs,n = .ref e/\s'.os=s.os/\mz s'.gens/\Un (UE outer) [] H l s.heap s'.heap/\Dw P w l s'.heap/\l e=bj (J4 e C od) /\
 s'.heap.get? e=bj o/\o.data = .fields vs/\Nk s'.heap vs/\E (.ref e) od l
def ah8:yX (W8 P w) X E0:=λQ Q Q Q Q Q Q h=>by have(_,_,_,_,_,_,_,_,_,_,_,_,_,_,_,z):=h;show z.elim
def acy(X:Cx)(E:XK):Prop:=∀l (σ:St) H s e C od o (vs:Ω) φ,qt X l σ H s->H e=bj (.ext φ)->s.heap.get? e=bj o ->
 o.cls = .ref C->o.dict=od->o.data = .fields vs->Nk s.heap vs->E (.ref e) od (rO H e<|J4 e C od)->X.xe (.ref e) s
section
variable {vs:Ω}
def QE(N:NU fs e o T h h')(t:H e=bj (.ext φ)):Un fs [] H (rO H e<|J4 e C od) h h':=by
 have ne:∀b,H b=n_->b≠e:=λb z q=>by rw[q,t]at z;cases z
 have s:∀(b:Addr) (l:HO),H b=bj l->(∀φ,l ≠ .ext φ)->b≠e:=λb l z k q=>by rw[q,t]at z;cases z;show k _ rfl
 show(λb l z n hb Q=>N.keep b l (ne b n) hb z,λb l z n Q Q=>N.slot b l (ne b n) z,λb l z n Q=>by rw[pB<|ne b n];show n,λb l z Q=>?_,
  λb u z=>by rw[pB<|s b _ z λφ w=>by cases w];show z,λb x B z=>by rw[pB<|s b _ z λφ w=>by cases w];show z,
  λb ps z=>(#[],by rw[pB (s b _ z λφ w=>by cases w),z];rfl));by_cases hb:b=e;.subst hb;show(_,N.exc)
 .have(E,q):=N.slot b l hb z;show(_,q)
def Sa(N:NU fs e o T h h')(B:H e=bj (.ext φ))(ok:Dw P w H h)(E:∀b∈fs,H b=n_)(l:o.cls = .ref C)(hd:o.dict=od)(t:o.data = .fields vs):Dw P w (rO H e<|J4 e C od) h':=by
 have x:∀(b:Addr) (n:HO),H b=bj n->(∀φ,n ≠ .ext φ)->b≠e:=λb n z k q=>by rw[q,B]at z;cases z;show k _ rfl
 have nf:∀b n,H b=bj n->b∉fs:=λb n z q=>by rw[E b q]at z;cases z
 intro b u z;by_cases hb:b=e
 .subst hb;rw[pH]at z;cases z;show aj8 N.exc ?_ ?_<|Obj.data_mapFields t _;.rw[Obj.cls_mapFields];show l
  .have(_,_,dt,_):=o;cases dt <;> show hd
 .rw[pB hb]at z;show(ok b u z).stay (λs G l r=>N.keep s G ?_ ?_ r) (λs r=>?_) λs I r=>?_
  .rcases l with rfl|l;.show hb
   .show x s _ l λφ w=>by cases w
  .rcases l with rfl|l;.show nf _ _ z
   .show nf _ _ l
  .rw[pB<|x s _ r λφ w=>by cases w];show r
  .rw[pB<|x s _ r λφ w=>by cases w];show r
def Jn(N:NU fs e o T h h')(n:o.data = .fields vs)(t:1<vs.size):∃s l,h'.get? e=bj s/\s.data = .fields l/\l[1]?=bj (.ref T)/\Nk h' l:=by
 have(u,x,z,B,E):=N.ent;have q:(vs.setIfInBounds 1<|ah T)[1]?=bj (.ref T):=by simp[t]
 show(_,_,N.exc,Obj.data_mapFields n _,q,.inr (T,u,x,q,z,B,E))
def LS(q:Nk h vs):1<vs.size:=by rcases q with q|⟨_,_,_,q,_⟩ <;> show(aR.mp q).1
end
section
variable {K:Frag}
def xP:acy (Ie (W8 P w) P w K mg base N qual scope f cd A outer s H E) E:=by
 intro ou σ G s1 e C J o vs φ I Q X Y hd u R he;change kj (kg P w) (A.deeper<|kJ qual scope s.heap.objs.size f cd) (leaving (kJ qual scope s.heap.objs.size f cd)<|.ref e) _ _ s1;have fr:(A.deeper<|kJ qual scope s.heap.objs.size f cd).frames=bj (kJ qual scope s.heap.objs.size f cd::outer):=I.ok.frames;have st:s1.heap.FunFrames base<|kJ qual scope s.heap.objs.size f cd::outer:=I.stack;show akY fr st rfl X u R λh' T L=>?_;have free:∀b∈(kJ qual scope s.heap.objs.size f cd::outer).filterMap (·.frame),G b=n_:=I.stkFree;have un:=QE (C:=C) (od:=J) L Q;have ok:=Sa (P:=P) (w:=w) L Q I.hok free Y hd u;have(o',M,g1,g2,g3,g4):=Jn L u<|LS R;have B:Un (UE outer) [] H G s.heap s1.heap:=I.base;have nL:∀b l,s.heap.get? b=bj l->b∉UE outer->b∉(kJ qual scope s.heap.objs.size f cd::outer).filterMap (·.frame):=λb l z nb m=>by
  rcases ag.mp (show b∈s.heap.objs.size::UE outer from m)with q|q;.rw[q]at z;show absurd (ai z)<|du _
  .show nb q
 show(e,C,J,rO G e<|J4 e C J,o',M,rfl,I.os,I.bare,(λb l z n hb t=>un.keep b l (B.keep b l z n hb t) (B.free b l z n t) (nL b l z hb) t,λb l z n hb t=>?_,λb l z n t=>?_,λb l z t=>?_,λb S z=>un.tups b S<|B.tups b S z,λb x U z=>un.frzs b x U<|B.frzs b x U z,λb ps z=>?_),ok,pH,g1,g2,g4,he);.have(sl,q):=B.slot b l z n hb t;have(O,q'):=un.any q (B.free b l z n t) t;show(O,q')
 .have(x,q):=B.there b l z t;show un.free b x q (B.free b l z n t) t
 .have(x,q):=B.there b l z t;show un.there b x q t
 .have(m1,e1):=B.tbls b ps z;have(m2,e2):=un.tbls b _ e1;show(m1++m2,by rw[e2,jk])
def qo:yX (W8 P w) (Ie (W8 P w) P w K mg base N qual scope f cd A outer s H E) E:=by
 intro u σ S s1 T s2 I h;have(e,C,x,B,o,G,rfl,os,bare,un,hok,l,n,hd,J,L):=h;have M:=I.call' os un hok bare<|λb z=>nomatch z;have(U,O,t,Q,R,X):=HC hok l;rw[n]at t;cases t;show xP u σ B s2 e C x o G _ M l n Q R hd J<|by rw[KD l];show L
def okX{st}(F:Bg K x qual st f fd)(S:oU N ps<|oI st)(len:∀vs H Q E,sp vs H Q E->vs.length=ps.length)
  (l:∀n A outer s H vs Q E,um k (A.deeper<|kJ qual (oI st) s.heap.objs.size f n)->sp vs H Q E ->
   ∃t,LY (Ie (W8 P w) P w K mg base N qual (oI st) f n A outer s H E) (tH st) t/\t { nx:=λZ B=>Q .non B,rt:=Q } (wc N vs) H):zD P w K mg base (W8 P w) (k+1) f fd ps sp:=by have(J,L,kV,G,pm,M,n,ct,I,rfl,lk,u):=F.ex;show ahg lk u S len λA outer s H vs Q E hr z=>l n A outer s H vs Q E hr z
end
def tRs(E:XK)(C:Addr)(te:TE):TS:=λQ σ H=>te σ H λv l=>∃e od,v = .ref e/\l e=bj (UO e C od)/\E (.ref e) od (rO l e<|J4 e C od)
def AH(rf:Ref X.K c C M)(hl:acy X E)(J:X.calm=t_)(L:PE X e te):PS X (.Raise (bj e) n_ pos)<|tRs E C te:=by
 intro u s σ H D I h;have((N,O,bs,P,sub,Q,l,R,S,U,Y,k3,k5,hC),_,T):=AL rf.xc;simp only[arm_exec_Raise];simp only[evalOpt,Option.map];show ki (mX (T4 (C:=C) (nm:=c) (q:=O) (N:=N) (bs:=bs) (bm:=.ref M::AM) (hdct:=t_) (sn:=P) (sub:=sub) (ab:=Q) (col:=l) (dd:=R) (k0:=S) (k1:=U) (k2:=Y) (k3:=k3) (k5:=k5) (newId:= "ValueError.__new__") (by rw[bE,show AM.contains (cI "BaseException")=t_ by rfl,eh]) (I.ok.hd J)
  (ki<|kG (L u s σ H _ I h) (λv s3 h3=>ki<|mX<|kA ?_) λZ Z x=>x)));have(v',H1,n,r,t,z,rfl,B,hE):=h3;obtain rfl:v=ah t:=r;have(t0,G):=PJ n.hok B;show(t,t0,z,rfl,n.kIn _ _ hC,G,hl u σ H1 s3 t C z _ _ _ n B G rfl rfl rfl (.inl rfl) hE)
structure Lr (P:kx)(w:kB)(K:Frag)(mg:Str->Υ)(base:Heap)(k:Nat)(x:Str)(st:Stmt)(ps:List Str)(sp:Sp)(f:Addr)(fd:kz):Prop where
 D:xC K mg x st ps f fd
 ok:zD P w K mg base (W8 P w) k f fd ps sp
noncomputable abbrev XQ(X:Cx)(e:Addr):Cx:={ X with A:=X.A.mark (bj<|.ref e),calm:=f_,xe:=λQ Q=>False }
section
variable {σ:St}
def V3(I:qt X ou σ H s):qt (XQ X e) ou σ H s:=((I.ok.mod,I.ok.kind,I.ok.glob,I.ok.blt,I.ok.above,I.ok.inj,I.ok.has,I.ok.cab,λz=>jz z,I.ok.frames,I.ok.stk,I.ok.exf,I.ok.bs,I.ok.bsz,I.ok.noex,I.ok.exfs,I.ok.funs,I.ok.frf),I.os,I.bare,I.base,I.loc,I.cell,I.free,I.freeC,I.pin,I.hok,I.len)
def acI(ok:X.Ok)(I:qt (XQ X e) ou σ H s):qt X ou σ H s:=(ok,I.os,I.bare,I.base,I.loc,I.cell,I.free,I.freeC,I.pin,I.hok,I.len)
def qt.gone{v:Υ}(I:qt X ou σ H s)(O:X.N.Nodup)(hi:X.N[i]?=bj n)
  (hm:∀(j:Nat) y E,X.N[j]?=bj y->σ[j]?=bj (bj E)->Vis X.env.scope y->∃u,rS E u/\al9 X.env s.heap m y u)
  (J:h'.Ns X.env.locals<|λx=>if x=n then v else m x) (l:fi X.env.locals s.heap h') (hn:s.heap.Ns X.env.locals m):qt X ou (σ.set i n_) H { s with heap:=h',toks:=t' }:=by
 have t:i<σ.length:=by rw[I.len];show(gSq.mp hi).1
 have cne:=I.cne;show(I.ok,I.os,I.bare,(λb o e n hb B=>?_,λb o e n hb B=>?_,I.base.free,λb o e B=>?_,I.base.tups,I.base.frzs,I.base.tbls),(_,J,λj y E e1 e2 P=>?_),λy c e=>?_,I.free,I.freeC,λp Q=>?_,λb R e=>?_,by simpa using I.len);.show(l.2 b<|aB<|aQ (ai e) I.ok.above).trans<|I.base.keep b o e n hb B
 .have(S,e1):=I.base.slot b o e n hb B;show(S,(l.2 b<|aB<|aQ (ai e) I.ok.above).trans e1)
 .have(T,e1):=I.base.there b o e B;show(T,(l.2 b<|aB<|aQ (ai e) I.ok.above).trans e1)
 .by_cases L:j=i;.subst L;rw[aV t]at e2;cases e2
  .rw[ay<|Ne.symm L]at e2;have(U,Y,q):=hm j y E e1 e2 P;show(U,Y,?_);rcases q with⟨k,e⟩|⟨k,c,e,z⟩
   .show .inl (k,?_);have:y≠n:=λe=>L<|Lg O e1<|e ▸ hi;simp[this,e]
   .show .inr (k,c,e,z.sameBut l<|cne y c e)
 .have(M,z):=I.cell y c e;show(M,z.sameBut l<|cne y c e)
 .have(e,n,ne,nf,d):=I.pin p Q;show((l.2 p.1 ne).trans e,n,ne,nf,d)
 .show(I.hok b R e).stay (λc M G q=>(l.2 c ?_).trans q) (λZ q=>q) λZ Z q=>q;rintro rfl;rcases G with z|G;.rw[←z,I.free]at e;cases e
  .rw[I.free]at G;cases G
end
abbrev XH:=Addr->Addr->Option Addr->zG->St->Hp->Prop
def PH(X:Cx)(u:List ExceptHandler)(x:XH):Prop:=∀l s (σ:St) H D e C od o (vs:Ω) T,qt X l σ H s->H e=bj (J4 e C od) ->
 s.heap.get? e=bj o->o.data = .fields vs->vs[1]?=bj (.ref T)->(∃n t,s.heap.get? T=bj n/\n.data = .fields t/\t[3]?=bj .none)->x e C od D σ H ->
 kj (kg X.prog X.w) X.A (mN (.ref e) X.env u) (SP X l D) X.xe s
def hAs(K:Frag)(C':Addr)(i:Nat)(s:TS)(rest:XH):XH:=λe C od D σ H=>∃c M b,Ref K c C M/\mroIn K C (.ref C')=bj b /\
 if b=t_ then s { nx:=λl n=>D.nx (l.set i n_) n,rt:=D.rt,bk:=λl n=>D.bk (l.set i n_) n,ct:=λl n=>D.ct (l.set i n_) n } (σ.set i<|bj<|.ref e) H else rest e C od D σ H
def alQ:XH:=λQ Q Q Q Q Q=>False
section
variable {rest:List ExceptHandler}
def ak9{K}(X:K.In s.heap)(rf:Ref K c C Mp)(t:Bl K c' C' bm'=t_)(l:bm'.contains (.type "BaseException")=t_)(hb:mroIn K C (.ref C')=bj b)
  (G:s.heap.get? e=bj o) (H:o.cls = .ref C):Mt M e (.ref C') b s:=by have((N,q',bs,sn,sub,ab,I,dd,k0,k1,k2,k3,k5,J),(cd,u,hm,_),_):=AL rf.xc;have((N',L,O,P,z,R,B,S,T,U,Y,k3',k5',x),_,_):=AL t;intro A Q E hq;have(hh,g,d,tk,os):=s;show Qu (X _ _ J) (X _ _ x) l G H ?_;unfold mroIn at hb;rw[u,bP,hm]at hb;simp only[fE,bW,if_false,bj.injEq]at hb;rw[hb];show hq
def aa1(P:Bl X.K c' C' bm'=t_)(x:bm'.contains (.type "BaseException")=t_)(hm:X.mg c'=bj (.ref C'))(hN:X.N.Nodup)(hi:X.N[i]?=bj n)(hl:X.env.kindOf n=bj .local)(hb:∀e,LY (XQ X e) (b₀::suite) tb)(hr:PH X rest tr)
  (hg:↑(Gl X c')) (R:⇑((c' == ("__debug__" : Str))=f_)):PH X (.ExceptHandler (bj<|.Name c' np) (bj n) (b₀::suite) pos::rest)<|hAs X.K C' i tb tr:=by
 intro G s σ H D e C od o vs T I hA L hd h1 hT h;have(c,M,b,rf,E,h):=h;have(o',vs',a1,a2,a3,a4):=HC I.hok hA;rw[L]at a1;cases a1;have mt:Mt (kg X.prog X.w) e (.ref C') b s:=ak9 I.kIn rf P x E L a2;have ev:∀S:Value->ke->Prop,S (.ref C') s->kj (kg X.prog X.w) (X.A.mark<|bj<|.ref e) (eval (.Name c' np) X.env) S (λZ Z=>False) s:=λS q=>zh (X:=XQ X e) (V3 I) hg hm q R;cases b with
 |false=>
  rw[qL ⋯]at h;show ali mt ev<|hr G s σ H D e C od o vs T I hA L hd h1 hT h
 |true=>
  rw[qF rfl]at h;have(oT,ts,t1,t2,t3):=hT;show Zm mt ev ?_;show wpAny_setFlight_none L hd h1 t1 t2 (aR.mp t3).1 ?_;simp only[gV s.heap T oT ts 3 .none t1 t2 t3];show Eo (X:=XQ X e) (v:=.ref e) (V3 I) hN hi (.inl hl) rfl (λs3 I3=>?_)<|.inr hl;show uQ (hb e G s3 _ H _ I3 h) λf s4 O=>?_;have gone:∀{l:St}{t:Hp}{Q:Unit->ke->Prop},qt (XQ X e) G l t s4->(∀B,qt X G (l.set i n_) t B->Q () B)->kj (kg X.prog X.w) X.A (do bindName X.env n .none;og X.env n pos) Q X.xe s4:=λ{l t Q} J k=>by
   have(m,hn,U):=J.loc;show wpAny_nameGoes_keeps hl hn (by change(X.env.scope.kind == .class || (X.env.scope.kind == .module && X.env.locals != X.env.globals))=f_;rw[I.ok.kind];rfl) λh' v Y hs=>?_;show k _<|qt.gone (acI I.ok J) hN hi U Y hs hn
  cases f with
  |next=>have(l,t,J,q):=O;show gone J λB z=>(_,t,z,q)
  |brk=>have(l,t,J,q):=O;show gone J λB z=>(_,t,z,q)
  |cont=>have(l,t,J,q):=O;show gone J λB z=>(_,t,z,q)
  |ret u=>have(v,l,t,J,r,q):=O;show gone J λB z=>(v,_,t,z,r,q)
def TZ:PH X [] alQ:=λQ Q Q Q Q Q Q Q Q Q Q Q Q Q Q Q Q h=>h.elim
end
section
variable {st:Stmt}
def Qz{σ:St}(ok:zD X.prog X.w X.K X.mg X.base (W8 X.prog X.w) k f fd ps sp)(hb:rF X.K fd ps [])(hr:um k X.A)
  (l:X.stack=X.env::X.outer) (U:X.env.frame=bj X.env.locals) (hh:PH X (h₀::hs) th) (M:qt X n σ S s1) (r:qS vs us)
  (q:sp vs S Q λv Z H2=>∀e,v = .ref e->∃C od,H2 e=bj (J4 e C od)/\th e C od D σ H2) (hQ:∀u s',EP X n σ Q u s'->QQ u s') :
  kj (kg X.prog X.w) X.A (call (.ref f) us) QQ (λe s=>kj (kg X.prog X.w) X.A (nI e X.env) (λZ B=>kj (kg X.prog X.w) X.A (mF e n_) (λZ E=>kj (kg X.prog X.w) X.A (mN e X.env<|h₀::hs) (SP X n D) X.xe E) X.xe B) X.xe s) s1:=by
 have hl:us.length=ps.length:=by rw[←r.length];show ok.len _ _ _ _ q
 show lF<|lK (ok.run X.A X.stack s1 S (us,[]) us vs Q _ hr M.env0 (by have:=hb s1 us M.kIn (by rw[aNq];show hl);rw[aNq]at this;show this) r q) λY s' G=>?_;cases Y with
 |ok fl=>cases fl with
  |ret u=>show hQ u s'<|M.after G
  |next=>show False.elim G
  |brk=>show False.elim G
  |cont=>show False.elim G
 |error ev=>
  have(e,C,od,H',o,vs',rfl,os,bare,un,hok,O,ho,hd,H,hE):=G;have I:=M.call' os un hok bare<|λb z=>nomatch z;have(o',vs'',a1,a2,a3,a4):=HC hok O;rw[ho]at a1;cases a1;have fr:X.A.frames=bj (X.env::X.outer):=by rw[←l];show I.ok.frames
  have sk:s'.heap.FunFrames X.base<|X.env::X.outer:=by rw[←l];show I.stack
  show alN fr sk U ho hd H λh' T R=>?_;have free:∀b∈(X.env::X.outer).filterMap (·.frame),H' b=n_:=by have z:=I.stkFree;rw[l]at z;show z
  have J:=QE (C:=C) (od:=od) R O;have L:=Sa (P:=X.prog) (w:=X.w) R O hok free a2 a3 hd;rw[KD O]at J L;have I2:qt X n σ H' { s' with heap:=h' }:=I.call' (s':={ s' with heap:=h' }) rfl (by rw[l];show J) L I.bare<|λb z=>absurd z<|by nofun
  have(o2,vs2,g1,g2,g3,g4):=Jn R hd<|LS H;have(C2,od2,hA2,hth):=hE e rfl;show hh n _ σ H' D e C2 od2 o2 vs2 T I2 hA2 g1 g2 g3 R.ent hth
def afQ{σ:St}(G:Lr X.prog X.w X.K X.mg X.base k x st ps sp f fd)(hr:um k X.A)
  (l:X.stack=X.env::X.outer) (E:X.env.frame=bj X.env.locals) (hh:PH X (h₀::hs) th) (L:qt X B σ H s1) (r:qS vs us)
  (q:sp vs H Q λv Z J=>∀e,v = .ref e->∃C od,J e=bj (J4 e C od)/\th e C od D σ J) (M:∀u s',EP X B σ Q u s'->I u s') :
  kj (kg X.prog X.w) X.A (call (.ref f) us) I (λe n=>kj (kg X.prog X.w) X.A (nI e X.env) (λZ s=>kj (kg X.prog X.w) X.A (mF e n_) (λZ z=>kj (kg X.prog X.w) X.A (mN e X.env<|h₀::hs) (SP X B D) X.xe z) X.xe s) X.xe n) s1:=Qz G.ok G.D.b hr l E hh L r q M
def Ze(i:Nat)(sp:Sp)(t:TA)(th:XH):TS:=λD σ H=>t σ H λvs n=>sp vs n (λv l=>D.nx (σ.set i<|bj v) l) λv Q l=>∀e,v = .ref e->∃C od,l e=bj (J4 e C od)/\th e C od D σ l
end
def tXF(K:Frag)(ta:TE)(f:Str):TE:=λσ H Q=>ta σ H λx l=>∃e c C M s fs n,x = .ref e/\l e=bj (J4 e C<|bj s)/\l s=bj (.xd fs)/\Ref K c C M/\findIn K (.ref C) f=bj n_/\fs.lookup f=bj (.int n)/\Q (.int n) l
def WD(U:PE X o ta)(hb:mC o f X.env (eval o X.env)=eval o X.env):PE X (.Attribute o f pos)<|tXF X.K ta f:=by
 intro Y s σ H Q I h;show VA hb<|uQ (U Y s σ H _ I h) λu s1 G=>?_;have(x,R,B,rx,e,c,C,M,S,fs,n,ex,ea,ed,rf,nf,l,q):=G;subst ex;obtain rfl:u=ah e:=rx;have(o',vs',a1,a2,a3,a4):=HC B.hok ea;have(mA,J,E):=(show tT X.prog X.w R s1.heap S (.xd fs)from B.hok S _ ed);have((N,q',bs,sn,sub,ab,col,dd,k0,k1,k2,k3,k5,hC),_,T):=AL rf.xc;have L:=rf.lks (Mo:=kg X.prog X.w) B.kIn;have LN:=looks_findIn (M:=kg X.prog X.w) B.kIn nf;have hr:=E f;rw[l]at hr;cases O:mA f with
 |none=>rw[O]at hr;show hr.elim
 |some u=>
  rw[O]at hr;have(P,rfl):=(show ∃P,u=gS n P from hr);have(hh,g,d,t,os):=s1;show X5 (T _ B.kIn) (B.kIn _ _ hC) a1 a2 (λz w=>by rw[a4]at w;cases w) a3 LN L.ga L.gt J O rfl (.int n,R,B.tok _,(P,rfl),q)
def Q6{K}(rf:Ref K c C M):KitX K (.ref e) (.ref C)<|λh=>∃o vs,h.get? e=bj o/\o.cls = .ref C/\o.dict=od/\o.data = .fields vs:=by
 have((N,R,bs,S,sub,U,G,H,Y,k1,k2,k3,k5,l),(cd,I,_,_),T):=AL rf.xc;show(λJ h X ⟨o,vs,u,x,_⟩=>x ▸ (Looks.ld u).andThen .now,λJ h X Z=>?_,λh O H P n sl X B=>?_,λ{prog w A E Q s} X ⟨o,vs,u,x,_⟩ hq=>?_);.intro A' Q' E' s' k q;unfold isType loadHead;show ki<|wpAny_loadPart (k _ _<|X _ _ l)<|kA q
 .show gY.mpr λq=>?_;have e:C=O:=ah.inj<|beq_iff_eq.mp q;subst e;have z:=congrArg (λo:Option Obj=>o.map (·.cls))<|(X _ _ l).symm.trans B;simp at z
 .have L:=rf.lks (Mo:=kg prog w) X;have(hh,g,d,t,os):=s;show UB (T _ X) (X _ _ l) u x L.cl L.ga L.gt hq
noncomputable def Oe:V->Υ
 | .ty n=>bj<|.type n
 | .ref a=>bj<|.ref a
 |_=>n_
def aiI(K:Frag):List V->Hp->VK->Prop:=λvs H Q=>∃e c C M od n b,vs=[.ref e,n]/\H e=bj (J4 e C od)/\Ref K c C M /\
 ((∃u,Oe n=bj u/\kitOne K (.ref C) u=bj b)∨∃s l us,n = .ref s/\H s=bj (.tup l)/\l.mapM Oe=bj us/\kitAny K (.ref C) us=bj b)/\Q (.bl b) H
def QZ(h:Oe v=bj u)(r:rS v l):l=u:=by cases v <;> simp[Oe]at h <;> (subst h;show r)
theorem Su:∀{l:List V}{us n:Ξ},l.mapM Oe=bj us->qS l n->n=us
 | [],us,n,h,r=>by cases r;simp at h;show h.symm
 |v::l,us,n,h,r=>by cases r with
  |cons r1 r2=>rw[jJ]at h;cases s:Oe v with
   |none=>rw[s]at h;simp at h
   |some u=>cases t:l.mapM Oe with
    |none=>rw[s,t]at h;simp at h
    |some x=>rw[s,t]at h;simp at h;rw[←h,QZ s r1,Su t r2]
def Ef:vN X (.builtin "isinstance")<|aiI X.K:=by intro ou s σ H vs us Q I r h;have(e,c,C,M,od,cv,b,rfl,J,rf,hk,q):=h;cases r with
 |cons r1 r2=>cases r2 with
  |cons B L=>
   cases L;obtain rfl:=(show _=ah e from r1);have a:=HC I.hok J;rcases hk with⟨u,O,hk⟩|⟨l,t,us,rfl,ht,x,hk⟩;.obtain rfl:=QZ O B;show kia_one (Q6 rf) I.kIn a hk (λz=>nomatch z) λP=>(.bl b,H,I.tok _,rfl,q)
   .obtain rfl:=(show _=ah l from B);have(_,R,S,o,T,E,n,G):=(show tT X.prog X.w H s.heap l (.tup t)from I.hok l _ ht);obtain rfl:=Su x S;have(oc,U,Y,osl):=o;dsimp only at E G;subst E G;show kia_tup (Q6 rf) I.kIn a T hk (λz=>nomatch z) λP=>(.bl b,H,I.tok _,rfl,q)
def kv_get{kvs:List<|rD×V}(r:KV kvs vs):∀{i:Nat}{p},kvs[i]?=bj p->∃u,vs[i]?=bj %[p.1|u]/\rS p.2 u:=by induction r with
 |nil=>intro i p h;simp at h
 | @cons a b _ _ r t l=>intro i p h;cases i with
  |zero=>simp at h;subst h;show(b.2,by simp[r.1],r.2)
  |succ i=>have(u,n,g2):=l (by show h);show(u,by show n,g2)
end Xe
namespace Xe
open PySem
section
variable {os:ac2}
variable {bs bm:Ξ}{sub:Ξ}{k0 k1 k2 k3 k5:Υ}
def JD(T:kW h AM bm){rest:Ξ}
  (s:h.get? C=bj (kK nm q C N bs bm hdct sn sub ab col dd k0 k1 k2 k3 k5 "ValueError.__new__"))
  (hi:Lk (kg prog w) h (kF (.ref C) "__init__")<|bj<|.builtin "ValueError.__init__")
  (z:∀h' e,gD h h' e (.ref C) rest->h.objs.size<=e->Q (.done<|.ret<|.ref e) (h',g,d,t,os)) (hrest:rest.length<=ky) :
  kj (kg prog w) A (Builtin.«type.__call__» (.ref C::rest,[])) Q E (h,g,d,t,os):=by
 have F:=eT;repeat (first|with_reducible show kC s ?_|with_reducible show wpAny_madeBy_exc s ?_|wp_step)
 show nh (Code.quiet_builtin _ F.quiet)<|oa F T s ?_;show oj F T s ?_ hrest;change kj _ _ _ _ _ _;have l:=aa { cls:=.ref C,data:=.fields #[.ref h.objs.size,.none,.none,.none,.bool f_,.none] }
  (aa { cls:=.type "tuple", data:=.seq rest.toArray } s);have n:((h.push { cls:=.type "tuple", data:=.seq rest.toArray }).push
   { cls:=.ref C,data:=.fields #[.ref h.objs.size,.none,.none,.none,.bool f_,.none] }).get? (h.objs.size+1)=bj
   { cls:=.ref C,data:=.fields #[.ref h.objs.size,.none,.none,.none,.bool f_,.none] }:=by heap_get
 have x:(ah C::bm).contains (.ref C)=t_:=by simp
 have B:∀b o,h.get? b=bj o->((h.push { cls:=.type "tuple", data:=.seq rest.toArray }).push { cls:=.ref C,data:=.fields #[.ref h.objs.size,.none,.none,.none,.bool f_,.none] }).get? b=bj o:=λb o e=>aa _<|aa _ e;have u:=T.keeps (h':=(h.push { cls:=.type "tuple", data:=.seq rest.toArray }).push { cls:=.ref C,data:=.fields #[.ref h.objs.size,.none,.none,.none,.bool f_,.none] })
  λb o e=>aa _<|aa _ e;unfold ni;repeat (first|with_reducible show kC n ?_|(with_reducible show kL l ?_;rw[x])|wp_step)
 change kj _ _ (kF (.ref C) _) _ _ _;show hi _ _ _ _ B ?_;show lZ<|ki<|wpAny_of_eq (F.init.bind _) ?_;show ki<|lF<|kQ F.init.plain F.initEntry<|nT F u l n rfl ?_;wp_walk;show z _ _ (λb o hb=>?_,de<|bR _,h.objs.size+2,?_,de ∅,?_)<|bR _;.rw[bI _ _<|ef<|dk<|ai hb];show aa _<|aa _<|aa _ hb
 .rw[cV _ (aa _ n) rfl];simp only[fv];rfl
 .rw[bI _ _<|show h.objs.size+1≠h.objs.size+2 by lia];show gW (by simp only[fv]) rfl
def Th(T:kW h AM bm){rest:Ξ}
  (l:h.get? C=bj (kK nm q C N bs bm hdct sn sub ab col dd k0 k1 k2 k3 k5 "ValueError.__new__"))
  (hi:Lk (kg prog w) h (kF (.ref C) "__init__")<|bj<|.builtin "ValueError.__init__")
  (n:∀h' e,gD h h' e (.ref C) rest->h.objs.size<=e->Q (.ref e) (h',g,d,t,os)) (hrest:rest.length<=ky) :
  kj (kg prog w) A (call (.ref C) rest) Q E (h,g,d,t,os):=by
 have u:=tc_lookup;have x:=tc_bind<|.ref C;have z:((h,g,d,t,os):ke).TypeIs (.ref C) "type" := (_,l,rfl);show lF<|codeAny_of_tree ?_;change kj _ _ (callAny (.ref C) _) _ _ _;repeat (any_goals (first|assumption|with_reducible show kC l ?_|wp_step))
 show(rfl,?_);show nB (Code.quiet_builtin _<|by trivial) entry_typeCall<|nc l<|JD (hrest:=hrest) T l hi λh' e hm s=>?_;show n h' e hm s
end
end Xe
namespace Xe
open PySem PySem.Spec PySem.W PyProof.Rows L2 Mr
def amG(K:Frag)(c:Str):TE:=λZ H Q=>∃C M,Ref K c C M/\∀e,H e=n_->Q (.ref e) (rO H e<|UO e C n_)
structure akW (K:Frag)(mg:Str->Υ)(c:Str)(C M:Addr):Prop where
 rf:Ref K c C M
 ini:findIn K (.ref C) "__init__" = bj (bj<|.builtin "ValueError.__init__")
 kp:keepIn K (.ref C)=t_
 m:mg c=bj (.ref C)
def PB(G:akW X.K X.mg c C M)(u:↑(Gl X c))(l:⇑((c == ("__debug__" : Str))=f_)):PE X (.Call (.Name c p) [] [] pos)<|amG X.K c:=by
 intro J s σ H Q I h;show kM<|zh I u G.m ?_ l;show W.callWith_K0 I.kIn G.kp ?_;have(C',L,n,q):=h;have(rfl,rfl):=G.rf.one n;have((N,O,bs,P,sub,R,x,S,U,Y,k2,k3,k5,z),_,T):=AL G.rf.xc;have(hh,g,d,B,os):=s;show Th (rest:=[]) (T _ I.kIn) (I.kIn _ _ z) (looks_findIn I.kIn G.ini) (λh' e hm t=>?_)<|by rw[kO];simp
 have(t0,E,_,_):=hm.there;show(.ref e,_,I.laid (t':=B) hm.keeps t<|Oc E,rfl,q e<|I.hok.fresh t)
end Xe
namespace Mr
open PySem PyProof.Rows L2
section
variable {X:Cx}
def acR(_ j:Int):Prop:=0<j/\j.natAbs.log2<9000
def abR:JF X (lJ .FloorDiv)<|rI acR λi j=>.int<|i / j:=opI λi j Q Q Q Q Q l q=>by have n:=l.1;show floordiv_int ∅ (by rw[gM i<|by rfl'];show q)<|.inl<|PyProof.noPylong_of_log2 l.2
end
end Mr
namespace Mr
open PySem PySem.Calls PySem.Spec PyProof.Rows L2
def ahO(K:Ζ)(x:V)(H:Hp)(T:String):Prop:=match x with
 | .int _=>T = "list" ∨ T = "tuple" ∨ T = "str"
 | .str _=>T = "list" ∨ T = "tuple"
 | .non=>T = "list" ∨ T = "tuple"
 | .ref p=>(T = "tuple" /\ ∃xs,vk K H p xs)∨(T = "list" /\ ∃xs,FF K H p xs)
 |_=>False
def xp:vN X (.builtin "isinstance")<|λxs H Q=>∃x T,xs=[x,.ty T]/\ahO X.K x H T/\Q (.bl f_) H:=by intro l s σ H xs us Q I r h;have(x,T,rfl,e,q):=h;have(u,v,rfl,n,E):=Wl r;cases E;cases x with
 |int i=>
  have(t,rfl):=n;rcases e with rfl|rfl|rfl;.show kH (lU (by trivial) F.isi_meta_list F.sub_int_list)<|show EP X l σ Q (.bool f_) { s with toks:=s.toks+1 } from (.bl f_,H,I.tok _,rfl,q)
  .show kH (lU (by trivial) F.isi_meta_tuple F.sub_int_tuple)<|show EP X l σ Q (.bool f_) { s with toks:=s.toks+1 } from (.bl f_,H,I.tok _,rfl,q)
  .show kH (lU (by trivial) F.isi_meta_str F.sub_int_str)<|show EP X l σ Q (.bool f_) { s with toks:=s.toks+1 } from (.bl f_,H,I.tok _,rfl,q)
 |str i=>
  have(t,rfl):=n;rcases e with rfl|rfl;.show kH (oi (by trivial) F.isi_meta_list F.sub_str_list)<|show EP X l σ Q (.bool f_) { s with toks:=s.toks+1 } from (.bl f_,H,I.tok _,rfl,q)
  .show kH (oi (by trivial) F.isi_meta_tuple F.sub_str_tuple)<|(.bl f_,H,I.tok _,rfl,q)
 |non=>
  cases n;rcases e with rfl|rfl;.show kH (nU (by trivial) F.isi_meta_list F.sub_NoneType_list)<|(.bl f_,H,I.tok _,rfl,q)
  .show kH (nU (by trivial) F.isi_meta_tuple F.sub_NoneType_tuple)<|(.bl f_,H,I.tok _,rfl,q)
 |ref p=>
  cases n;rcases e with⟨rfl,xs,z⟩|⟨rfl,xs,z⟩;.have(B,G,pl,J):=I.list z;show kH (isinstance_false_list (by trivial) F.isi_meta_tuple F.sub_list_tuple) (pl.isList.typeIs,(.bl f_,H,I.tok _,rfl,q))
  .have(B,G,(o,L,M,_),J):=I.tuple z;show kH (isinstance_false_tuple (by trivial) F.isi_meta_list F.sub_tuple_list) ((o,L,M),(.bl f_,H,I.tok _,rfl,q))
 |_=>show(e).elim
end Mr
namespace Z
open PySem L2 Mr
abbrev St:=L2.St
inductive D where
 |non|bl (b:Bool)|int (i:Int)|str (x:Str)|ty (n:String)|list (xs:List D)|tup (xs:List D)|dict (kvs:List<|rD×D)|scr (ns:Ϝ)|exc (c:Str) (fs:List<|Str×Int)|cls (c:Str)|fd (kvs:List<|rD×D)|ins (c:Str) (fs:List<|Str×D)
inductive uG (K:Ζ)(H:Hp):D->V->Prop
 |non:uG K H .non .non
 |bl {b:Bool}:uG K H (.bl b)<|.bl b
 |int {i:Int}:uG K H (.int i)<|.int i
 |str {x:Str}:uG K H (.str x)<|.str x
 |ty {n:String}:uG K H (.ty n)<|.ty n
 |list {p:Addr}{vs:List V}{ds:List D}(h:H p=bj (.lst vs)) (l:ds.length=vs.length) (e:∀(i:Nat) (d:D) (v:V),ds[i]?=bj d->vs[i]?=bj v->uG K H d v):uG K H (.list ds)<|.ref p
 |tup {p:Addr}{vs:List V}{ds:List D}(h:H p=bj (.tup vs)) (l:ds.length=vs.length) (e:∀(i:Nat) (d:D) (v:V),ds[i]?=bj d->vs[i]?=bj v->uG K H d v):uG K H (.tup ds)<|.ref p
 |dict {p:Addr}{kvs:List<|rD×V}{ds:List<|rD×D}(h:H p=bj (.dK kvs)) (l:ds.map (·.1)=kvs.map (·.1)) (e:∀(i:Nat) (d:rD×D) (v:rD×V),ds[i]?=bj d->kvs[i]?=bj v->uG K H d.2 v.2):uG K H (.dict ds)<|.ref p
 |scr {p:Addr}{ns:Ϝ}(h:vk K H p<|ns.map V.int):uG K H (.scr ns)<|.ref p
 |exc {c:Str}{fs:List<|Str×Int}{e C M dx:Addr}(rf:Xe.Ref K c C M) (nf:∀p∈fs,W.findIn K (.ref C) p.1=bj n_) (h:H e=bj (Xe.J4 e C<|bj dx)) (hx:H dx=bj (.xd<|fs.map λp=>%[p.1|V.int p.2])):uG K H (.exc c fs)<|.ref e
 |exc0 {c:Str}{e C M:Addr}(rf:Xe.Ref K c C M) (h:H e=bj (Xe.J4 e C n_)):uG K H (.exc c [])<|.ref e
 |cls {c:Str}{C:Addr}(h:Xe.IsC K c C):uG K H (.cls c)<|.ref C
 |fd {p:Addr}{o:Obj}{kvs:List<|rD×V}{ds:List<|rD×D}(h:H p=bj (.frz o<|.dK kvs)) (l:ds.map (·.1)=kvs.map (·.1)) (e:∀(i:Nat) (d:rD×D) (v:rD×V),ds[i]?=bj d->kvs[i]?=bj v->uG K H d.2 v.2):uG K H (.fd ds)<|.ref p
 |ins {c:Str}{a C dx:Addr}{gs:List<|Str×V}{fs:List<|Str×D}(rf:W.nsIn K kr c=bj (bj<|.ref C)) (h:H a=bj (.ins C dx gs)) (l:fs.map (·.1)=gs.map (·.1)) (e:∀(i:Nat) (d:Str×D) (v:Str×V),fs[i]?=bj d->gs[i]?=bj v->uG K H d.2 v.2):uG K H (.ins c fs)<|.ref a
def sI(K:Ζ)(H:Hp)(ds:List D)(vs:List V):Prop:=ds.length=vs.length/\∀(i:Nat) d v,ds[i]?=bj d->vs[i]?=bj v->uG K H d v
def yJ(K:Ζ)(H:Hp)(ds:List<|rD×D)(kvs:List<|rD×V):Prop:=ds.map (·.1)=kvs.map (·.1)/\∀(i:Nat) d v,ds[i]?=bj d->kvs[i]?=bj v->uG K H d.2 v.2
def uG.mono(h:uG K H d v)(s:rB H H'):uG K H' d v:=by induction h with
 |non=>show .non
 |bl=>show .bl
 |int=>show .int
 |str=>show .str
 |ty=>show .ty
 |list h l _ n=>show .list (s _ _ h) l n
 |tup h l _ n=>show .tup (s _ _ h) l n
 |dict h l _ n=>show .dict (s _ _ h) l n
 |scr h=>show .scr<|s.seq h
 |exc rf nf h t=>show .exc rf nf (s _ _ h)<|s _ _ t
 |exc0 rf h=>show .exc0 rf<|s _ _ h
 |cls h=>show .cls h
 |fd h l _ n=>show .fd (s _ _ h) l n
 |ins rf h l _ n=>show .ins rf (s _ _ h) l n
theorem sI.mono(h:sI K H ds vs)(s:rB H H'):sI K H' ds vs:=(h.1,λi d v a b=>(h.2 i d v a b).mono s)
theorem yJ.mono(h:yJ K H ds vs)(s:rB H H'):yJ K H' ds vs:=(h.1,λi d v a b=>(h.2 i d v a b).mono s)
def sI.nil:sI K H [] []:=(rfl,λi d v a=>by simp at a)
def sI.cons(h:uG K H d v)(t:sI K H ds vs):sI K H (d::ds)<|v::vs:=(by simp[t.1],λi e w a b=>by cases i with
 |zero=>simp at a b;subst a b;show h
 |succ i=>show t.2 i e w (by show a)<|by show b)
def sI.cons_iff:sI K H (d::ds) (v::vs)↔uG K H d v/\sI K H ds vs:=(λh=>(h.2 0 d v rfl rfl,by have:=h.1;simpa using this,λi e w a b=>h.2 (i+1) e w (by show a)<|by show b),λh=>.cons h.1 h.2)
def sI.nil_inv(h:sI K H [] vs):vs=[]:=by have:=h.1;cases vs with
 |nil=>rfl
 |cons _ _=>simp at this
def sI.cons_inv(h:sI K H (d::ds) vs):∃v l,vs=v::l/\uG K H d v/\sI K H ds l:=by cases vs with
 |nil=>have:=h.1;simp at this
 |cons v l=>show(v,l,rfl,sI.cons_iff.mp h)
theorem sI.append:∀{ds l}{vs n},sI K H ds vs->sI K H l n->sI K H (ds++l) (vs++n)
 | [],l,vs,n,h,g=>by rw[h.nil_inv];show g
 |d::ds,l,vs,n,h,g=>by have(v,us,rfl,s,t):=h.cons_inv;show .cons s<|sI.append t g
theorem sI.take(h:sI K H ds vs)n:sI K H (ds.take n)<|vs.take n:=(by rw[lTq,lTq,h.1],λi d v a b=>by
 rw[List.getElem?_take]at a b;split at a;.rename_i hi;rw[qF hi]at b;show h.2 i d v a b
 .cases a)
theorem sI.drop(h:sI K H ds vs)n:sI K H (ds.drop n)<|vs.drop n:=(by rw[au,au,h.1],λi d v a b=>by rw[dF]at a b;show h.2 _ d v a b)
def sI.get(h:sI K H ds vs){i:Nat}(e:ds[i]?=bj d):∃v,vs[i]?=bj v/\uG K H d v:=by have hi:=(gSq.mp e).1;have l:=h.1 ▸ hi;show(vs[i],gEg l,h.2 i d _ e<|gEg l)
def sI.get'(h:sI K H ds vs){i:Nat}(e:vs[i]?=bj v):∃d,ds[i]?=bj d/\uG K H d v:=by have hi:=(gSq.mp e).1;have l:=h.1.symm ▸ hi;show(ds[i],gEg l,h.2 i _ v (gEg l) e)
theorem sI.reverse:∀{ds}{vs},sI K H ds vs->sI K H ds.reverse vs.reverse
 | [],vs,h=>by rw[h.nil_inv];show .nil
 |d::ds,vs,h=>by have(v,us,rfl,l,n):=h.cons_inv;rw[fB,fB];show n.reverse.append<|.cons l .nil
def uG.list_inv(h:uG K H (.list ds) v):∃p vs,v = .ref p/\H p=bj (.lst vs)/\sI K H ds vs:=by cases h with
 |list h l e=>show(_,_,rfl,h,l,e)
def uG.tup_inv(h:uG K H (.tup ds) v):∃p vs,v = .ref p/\H p=bj (.tup vs)/\sI K H ds vs:=by cases h with
 |tup h l e=>show(_,_,rfl,h,l,e)
def uG.dict_inv(h:uG K H (.dict ds) v):∃p kvs,v = .ref p/\H p=bj (.dK kvs)/\yJ K H ds kvs:=by cases h with
 |dict h l e=>show(_,_,rfl,h,l,e)
def uG.mk_tup(h:H p=bj (.tup vs))(r:sI K H ds vs):uG K H (.tup ds)<|.ref p:=.tup h r.1 r.2
def uG.mk_dict(h:H p=bj (.dK vs))(r:yJ K H ds vs):uG K H (.dict ds)<|.ref p:=.dict h r.1 r.2
noncomputable def D.scal:D->Bool
 | .non=>t_
 | .bl _=>t_
 | .int _=>t_
 | .str _=>t_
 | .ty _=>t_
 |_=>f_
theorem uG.scal(h:uG K H d v)(s:d.scal=t_):uG K l d v:=by cases h with
 |non=>show .non
 |bl=>show .bl
 |int=>show .int
 |str=>show .str
 |ty=>show .ty
 |_=>cases s
inductive AV where
 |sh (d:D)|ow (avs:List AV)|owd (kvs:List<|rD×D)|owl (kvs:List<|rD×Ϝ)
abbrev i3(x:Int):Option AV:=bj<|.sh<|.int x
abbrev i4(x:List D):Option AV:=bj<|.sh<|.list x
noncomputable abbrev i6(x:Bool):Option AV:=bj<|.sh<|.bl x
mutual
noncomputable def pA:AV->D
 | .sh d=>d
 | .ow avs=>.list<|Kv avs
 | .owd kvs=>.dict kvs
 | .owl kvs=>.dict<|kvs.map λx=>%[x.1|.list<|x.2.map .int]
noncomputable def Kv:List AV->List D
 | []=>[]
 |a::as=>pA a::Kv as
end
theorem Nl:∀avs:List AV,Kv avs=avs.map pA
 | []=>by rfl
 |a::as=>by simp[Kv,Nl as]
@[simp] theorem xk d:pA (.sh d)=d:=by rfl
@[simp] theorem vY avs:pA (.ow avs) = .list (avs.map pA):=by simp[pA,Nl]
@[simp] theorem YO kvs:pA (.owd kvs) = .dict kvs:=by rfl
inductive rP (K:Ζ)(Hf H:Hp):AV->V->Δ->Prop
 |sh {d:D}{v:V}(r:uG K Hf d v):rP K Hf H (.sh d) v []
 |ow {p:Addr}{vs:List V}{avs:List AV}{Fs:List Δ}(h:H p=bj (.lst vs)) (n:Hf p=n_) (l:avs.length=vs.length) (lf:avs.length=Fs.length)
   (e:∀(i:Nat) (a:AV) (v:V) (F:Δ),avs[i]?=bj a->vs[i]?=bj v->Fs[i]?=bj F->rP K Hf H a v F):rP K Hf H (.ow avs) (.ref p)<|p::Fs.flatten
 |owd {p:Addr}{kvs:List<|rD×V}{ds:List<|rD×D}(h:H p=bj (.dK kvs)) (n:Hf p=n_) (r:yJ K Hf ds kvs):rP K Hf H (.owd ds) (.ref p) [p]
 |owl {p:Addr}{kvs:List<|rD×Ϝ}{qs:Δ}(h:H p=bj (.dK<|jP (λx q=>%[x.1|V.ref q]) kvs qs)) (n:Hf p=n_) (l:kvs.length=qs.length) (e:∀(i:Nat) (q:Addr) (x:rD×Ϝ),qs[i]?=bj q->kvs[i]?=bj x->H q=bj (.lst<|x.2.map V.int)/\Hf q=n_):rP K Hf H (.owl kvs) (.ref p)<|p::qs
def Vg{kvs:List<|rD×Ϝ}{t:Δ}(h:H p=bj (.dK<|jP (λx q=>%[x.1|V.ref q]) kvs t))(l:kvs.length=t.length)(e:∀(i:Nat) q x,t[i]?=bj q->kvs[i]?=bj x->H q=bj (.lst<|x.2.map V.int)):uG K H (.dict<|kvs.map λx=>%[x.1|.list<|x.2.map .int])<|.ref p:=by
 show .dict h ?_ λi d v s n=>?_
 .show eM λi=>?_;rw[gMq,gMq,gMq,iJ];by_cases c:i<kvs.length;.rw[gEg c,gEg<|l ▸ c];rfl
  .rw[bF<|jy c];rfl
 .rw[gMq]at s;rw[iJ]at n;cases hk:kvs[i]? with
  |none=>rw[hk]at s;cases s
  |some x=>cases u:t[i]? with
   |none=>rw[hk,u]at n;cases n
   |some q=>
    rw[hk]at s n;rw[u]at n;cases s;cases n;show .list (e i q x u hk) (by rw[lMq,lMq]) λj d v e1 e2=>?_;rw[gMq]at e1 e2;cases z:x.2[j]? with
    |none=>rw[z]at e1;cases e1
    |some m=>rw[z]at e1 e2;cases e1;cases e2;show .int
def aid{kvs:List<|rD×Ϝ}{n:Δ}(l:kvs.length=n.length)(s:q∈n):∃(i:Nat) (x:rD×Ϝ),n[i]?=bj q/\kvs[i]?=bj x:=by have(i,hi):=cw.mp s;have hl:=(gSq.mp hi).1;show(i,_,hi,gEg<|l ▸ hl)
def rP.owned(h:rP K Hf H av v F):∀q∈F,H q≠n_/\Hf q=n_:=by induction h with
 |sh _=>intro q s;cases s
 | @ow p u t B h n l L e E=>
  intro q s;rcases ag.mp s with rfl|s;.show(by rw[h];simp,n)
  .have(F,G,s):=mFq.mp s;have(i,hi,rfl):=df.mp G;show E i t[i] u[i] B[i] ⋯ ⋯ ⋯ q s
 |owd h n r=>intro q s;have:=mSq.mp s;subst this;show(by rw[h];simp,n)
 |owl h n l e=>
  intro q s;rcases ag.mp s with z|z;.rw[z];show(by rw[h];simp,n)
  .have(i,x,I,J):=aid l z;have(e1,e2):=e i q x I J;show(by rw[e1];simp,e2)
def rP.keep(h:rP K Hf H av v F)(s:rB Hf Hf')(hk:∀q∈F,H' q=H q)(hn:∀q∈F,Hf' q=n_):rP K Hf' H' av v F:=by induction h with
 |sh r=>show .sh<|r.mono s
 | @ow p M E O h n l G e I=>
  show .ow (by rw[hk p ⋯];show h) (hn p ⋯) l G λi a v F t u z=>I i a v F t u z (λq B=>hk q ?_) λq B=>hn q ?_;all_goals show mCo _<|mFq.mpr (F,mGq z,B)
 |owd h n r=>show .owd (by rw[hk _ ⋯];show h) (hn _ ⋯)<|r.mono s
 | @owl p J L h n l e=>
  show .owl (by rw[hk _<|bf ..];show h) (hn _<|bf ..) l λi q x t u=>?_;have m:q∈p::L:=mCo _<|mGq t;show(by rw[hk q m];show(e i q x t u).1,hn q m)
def rP.rep(h:rP K Hf H av v F)(s:rB Hf H):uG K H (pA av) v:=by induction h with
 |sh r=>show r.mono s
 | @ow p J z E h n l G e I=>
  rw[vY];show .list h (by simp[l]) λi d v t B=>?_;rw[gMq]at t;cases u:z[i]? with
  |none=>rw[u]at t;cases t
  |some a=>rw[u]at t;cases t;have hi:=G ▸ (gSq.mp u).1;show I i a v E[i] u B<|gEg hi
 |owd h n r=>show .mk_dict h<|r.mono s
 |owl h n l e=>show Vg h l λi q x t B=>(e i q x t B).1
noncomputable def frz(Hf H:Hp)(F:Δ):Hp:=λb=>if b∈F then H b else Hf b
def Eg(h:b∈F):frz Hf H F b=H b:=qF h
def zi(h:b∉F):frz Hf H F b=Hf b:=qL h
def vc(h:∀q∈F,Hf q=n_):rB Hf<|frz Hf H F:=λb o e=>by
 rw[zi λm=>by rw[h b m]at e;cases e];show e
def aeV(s:rB Hf H):rB (frz Hf H F) H:=λb o e=>by
 by_cases m:b∈F;.rw[Eg m]at e;show e
 .rw[zi m]at e;show s b o e
def rP.frozen(h:rP K Hf H av v F)(s:rB Hf Hf')(hk:∀q∈F,Hf' q=H q):uG K Hf' (pA av) v:=by induction h with
 |sh r=>show r.mono s
 | @ow p L z E h n l G e I=>
  rw[vY];show .list (by rw[hk p ⋯];show h) (by simp[l]) λi d v t B=>?_;rw[gMq]at t;cases u:z[i]? with
  |none=>rw[u]at t;cases t
  |some a=>rw[u]at t;cases t;have hi:=G ▸ (gSq.mp u).1;show I i a v E[i] u B (gEg hi) λq J=>hk q<|mCo _<|mFq.mpr (E[i],gRq hi,J)
 |owd h n r=>show .mk_dict (by rw[hk _ ⋯];show h)<|r.mono s
 |owl h n l e=>show Vg (by rw[hk _<|bf ..];show h) l λi q x t B=>by rw[hk q<|mCo _<|mGq t];show(e i q x t B).1
abbrev AS:=List<|Option AV
structure rQ (K:Ζ)(H₀ Hf₀ Hf:Hp)(S:AS)(σ:St)(H:Hp)(Fs:List Δ):Prop where
 len:S.length=σ.length
 lenF:Fs.length=S.length
 rep:∀(i:Nat) (av:AV),S[i]?=bj (bj av)->∃v F,σ[i]?=bj (bj v)/\Fs[i]?=bj F/\rP K Hf H av v F
 emp:∀i:Nat,S[i]?=bj n_->Fs[i]?=bj []
 nd:Fs.flatten.Nodup
 fresh:∀p∈Fs.flatten,H₀ p=n_
 sub:rB Hf H
 fr:rB H₀ H
 lim:∀b,Hf₀ b=n_->H₀ b≠n_->Hf b=n_
 sf:rB Hf₀ Hf
structure Eh (Hf H:Hp)(Fs:List Δ)(Hf' H':Hp)(Fs':List Δ):Prop where
 sf:rB Hf Hf'
 sh:rB H H'
 own:∀p∈Fs'.flatten,p∈Fs.flatten
 gr:∀b,Hf b=n_->Hf' b≠n_->H b=n_∨b∈Fs.flatten
theorem Eh.refl:Eh Hf H l Hf H l:=(.refl _,.refl _,λQ h=>h,λb h g=>absurd h g)
def Wa(s:rB H l)(h:H b≠n_):l b≠n_:=by cases e:H b with
 |none=>show absurd e h
 |some o=>rw[s b o e];simp
theorem Eh.trans(a:Eh Hf H t Hf1 n Fs1)(b:Eh Hf1 n Fs1 l s Fs2):Eh Hf H t l s Fs2:=(a.sf.trans b.sf,a.sh.trans b.sh,λp h=>a.own p<|b.own p h,λc h g=>by
  by_cases e:Hf1 c=n_
  .rcases b.gr c e g with q|q;.show .inl<|a.sh.free q
   .show .inr<|a.own c q
  .show a.gr c h e)
section
variable {Fs:List Δ}
def Vr(s:rB H H')(h:H b≠n_):H' b=H b:=by cases e:H b with
 |none=>show absurd e h
 |some o=>show s b o e
def rQ.mem(R:rQ K H₀ Hf₀ Hf S σ H Fs)(h:q∈Fs.flatten):H q≠n_/\Hf q=n_:=by have(F,s,n):=mFq.mp h;have(i,hi,rfl):=df.mp s;have l:=R.lenF ▸ hi;cases e:S[i]with
 |none=>
  have:=R.emp i<|by rw[gEg l,e]
  rw[gEg hi]at this;rw[bj.inj this]at n;cases n
 |some t=>
  have(v,F,_,e2,r):=R.rep i t<|by rw[gEg l,e]
  rw[gEg hi]at e2;rw[bj.inj e2]at n;show r.owned q n
def rQ.more(R:rQ K H₀ Hf₀ Hf S σ H Fs)(s:rB H H')(sf:rB Hf Hf')(sub:rB Hf' H')(hn:∀q∈Fs.flatten,Hf' q=n_)(lim:∀b,Hf₀ b=n_->H₀ b≠n_->Hf' b=n_):rQ K H₀ Hf₀ Hf' S σ H' Fs where
 len:=R.len
 lenF:=R.lenF
 rep:=λi n e=>by have(v,F,e1,e2,r):=R.rep i n e;show(v,F,e1,e2,r.keep sf (λq l=>Vr s (r.owned q l).1) λq l=>hn q<|mFq.mpr (F,mGq e2,l))
 emp:=R.emp
 nd:=R.nd
 fresh:=R.fresh
 sub:=sub
 fr:=R.fr.trans s
 lim:=lim
 sf:=R.sf.trans sf
def rQ.laid(R:rQ K H₀ Hf₀ Hf S σ H Fs)(s:rB H H'):rQ K H₀ Hf₀ Hf S σ H' Fs:=R.more s (.refl _) (R.sub.trans s) (λq h=>(R.mem h).2) R.lim
def vW(h:p∈(Fs.set i F).flatten):p∈F∨p∈Fs.flatten:=by
 have(G,n,l):=mFq.mp h;rcases List.mem_or_eq_of_mem_set n with q|q;.show .inr<|mFq.mpr (G,q,l)
 .subst q;show .inl l
theorem uI:∀{Fs:List Δ}{F}i,Fs.flatten.Nodup->F.Nodup->(∀p∈F,p∉Fs.flatten)->(Fs.set i F).flatten.Nodup
 | [],F,i,h,_,_=>by simp
 |G::Gs,F,0,h,hF,hd=>by
  rw[fh,fCq,nAq];rw[fCq,nAq]at h;show(hF,h.2.1,λa ha b hb e=>hd a ha ?_);show aH _<|e ▸ hb
 |G::Gs,F,i+1,h,hF,hd=>by
  rw[gG,fCq,nAq];rw[fCq,nAq]at h;show(h.1,uI i h.2.1 hF λp l m=>hd p l<|by show aH _ m,λa ha b hb e=>?_);rcases vW hb with q|q;.show hd b q<|by show cx _<|e ▸ ha
  .show h.2.2 a ha b q e
theorem rQ.set(R:rQ K H₀ Hf₀ Hf S σ H Fs)i(r:rP K Hf H s v F)(nd:F.Nodup)(t:∀q∈F,H₀ q=n_/\q∉Fs.flatten) :
  rQ K H₀ Hf₀ Hf (S.set i<|bj s) (σ.set i<|bj v) H<|Fs.set i F where
 len:=by simp[R.len]
 lenF:=by simp[R.lenF]
 rep:=λj a e=>by
  rw[bx]at e;by_cases l:i=j
  .subst l;rw[qF rfl]at e;split at e;.rename_i hi;cases e;show(v,F,by rw[aV<|R.len ▸ hi],by rw[aV<|R.lenF.symm ▸ hi],r)
   .cases e
  .rw[qL l]at e;have(w,G,e1,e2,q):=R.rep j a e;show(w,G,by rw[ay l];show e1,by rw[ay l];show e2,q)
 emp:=λj e=>by
  rw[bx]at e;by_cases l:i=j;.subst l;rw[qF rfl]at e;split at e <;> cases e
  .rw[qL l]at e;rw[ay l];show R.emp j e
 nd:=uI i R.nd nd λp n=>(t p n).2
 fresh:=λp n=>by
  rcases vW n with q|q;.show(t p q).1
  .show R.fresh p q
 sub:=R.sub
 fr:=R.fr
 lim:=R.lim
 sf:=R.sf
def tP(h:p∈(Fs.set i []).flatten):p∈Fs.flatten:=by
 rcases vW h with q|q;.cases q
 .show q
theorem yr:∀{Fs:List Δ}{F}{i}{p},Fs.flatten.Nodup->Fs[i]?=bj F->p∈F->p∉(Fs.set i []).flatten
 | [],F,i,p,_,e,_,_=>by simp at e
 |G::Gs,F,0,p,h,e,l,m=>by simp at e;subst e;rw[fCq,nAq]at h;show h.2.2 p l p m rfl
 |G::Gs,F,i+1,p,h,e,l,m=>by
  rw[fCq,nAq]at h;have n:=by show e
  rcases mAq.mp m with q|q;.show h.2.2 p q p (mFq.mpr (F,mGq n,l)) rfl
  .show yr h.2.1 n l q
def rQ.move(R:rQ K H₀ Hf₀ Hf S σ H Fs)(e:S[i]?=bj (bj t)):∃v F,σ[i]?=bj (bj v)/\Fs[i]?=bj F/\rP K Hf H t v F/\F.Nodup/\(∀q∈F,H₀ q=n_/\q∉(Fs.set i []).flatten) /\
  rQ K H₀ Hf₀ Hf (S.set i n_) σ H (Fs.set i []):=by
 have(v,F,e1,e2,r):=R.rep i t e;have u:∀q∈F,q∈Fs.flatten:=λq s=>mFq.mpr (F,mGq e2,s);show(v,F,e1,e2,r,bD.sublist (aN<|mGq e2) R.nd,λq s=>(R.fresh q<|u q s,yr R.nd e2 s),?_);show(by simp[R.len],by simp[R.lenF],λj a n=>?_,λj n=>?_,uI i R.nd aW (λp x=>by cases x),λp x=>R.fresh p<|tP x,R.sub,R.fr,R.lim,R.sf)
 .rw[bx]at n;by_cases l:i=j;.subst l;rw[qF rfl]at n;split at n <;> cases n
  .rw[qL l]at n;have(w,G,z,B,q):=R.rep j a n;show(w,G,z,by rw[ay l];show B,q)
 .rw[bx]at n;by_cases l:i=j
  .subst l;rw[qF rfl]at n;split at n;.rename_i hi;rw[aV<|R.lenF.symm ▸ hi]
   .cases n
  .rw[qL l]at n;rw[ay l];show R.emp j n
theorem rQ.frz(R:rQ K H₀ Hf₀ Hf S σ H Fs)(l:∀q∈F,H₀ q=n_/\q∉Fs.flatten)(hn:∀q∈F,Hf q=n_):rQ K H₀ Hf₀ (frz Hf H F) S σ H Fs:=by
 show R.more (.refl _) (vc hn) (aeV R.sub) (λq n=>?_) λb t s=>?_
 .rw[zi λm=>(l q m).2 n];show(R.mem n).2
 .rw[zi λm=>s (l b m).1];show R.lim b t s
end
abbrev ME:=AS->Option (D×AS)
abbrev MK:=AS->Option (AV×AS)
abbrev ML:=AS->Option (List D×AS)
abbrev MT:=AS->Option (Bool×AS)
abbrev MA:=AS->Option (List AV×AS)
def qX(K:Ζ)(Hf H:Hp)(avs:List AV)(vs:List V)(l:List Δ):Prop:=avs.length=vs.length/\avs.length=l.length/\∀(i:Nat) a v F,avs[i]?=bj a->vs[i]?=bj v->l[i]?=bj F->rP K Hf H a v F
structure Dx (H₀ H:Hp)(Fs Fs':List Δ)(F:Δ):Prop where
 nd:F.Nodup
 fr:∀q∈F,H₀ q=n_
 out:∀q∈F,q∉Fs'.flatten
 new:∀q∈F,H q=n_∨q∈Fs.flatten
def Dx.nil:Dx H₀ H n l []:=(aW,λq h=>(by cases h),λq h=>(by cases h),λq h=>(by cases h))
section
variable (K:Ζ)
def SR(te:TE)(m:ME):Prop:=∀{H₀ l Hf}{S}{σ}{H}{u}{d}{S'},rQ K H₀ l Hf S σ H u->m S=bj %[d|S']->∀Q:VK,
 (∀n t s v,Eh Hf H u n t s->rQ K H₀ l n S' σ t s->uG K t d v->Q v t)->te σ H Q
def SK(te:TE)(m:MK):Prop:=∀{H₀ l Hf}{S}{σ}{H}{u}{a}{S'},rQ K H₀ l Hf S σ H u->m S=bj %[a|S']->∀Q:VK,
 (∀n t s v F,Eh Hf H u n t s->rQ K H₀ l n S' σ t s->rP K n t a v F->Dx H₀ H u s F->Q v t)->te σ H Q
def SL(te:TE)(m:ML):Prop:=∀{H₀ l Hf}{S}{σ}{H}{u}{ds}{S'},rQ K H₀ l Hf S σ H u->m S=bj %[ds|S']->∀Q:VK,
 (∀n t s p vs,Eh Hf H u n t s->rQ K H₀ l n S' σ t s->t p=bj (.lst vs)->sI K n ds vs->Q (.ref p) t)->te σ H Q
def LX(x:TT)(m:MT):Prop:=∀{H₀ l Hf}{S}{σ}{H}{u}{b}{S'},rQ K H₀ l Hf S σ H u->m S=bj %[b|S']->∀Q:Bool->Hp->Prop,
 (∀n t s,Eh Hf H u n t s->rQ K H₀ l n S' σ t s->Q b t)->x σ H Q
def SA(z:TA)(m:MA):Prop:=∀{H₀ l Hf}{S}{σ}{H}{u}{as}{S'},rQ K H₀ l Hf S σ H u->m S=bj %[as|S']->∀Q:List V->Hp->Prop,
 (∀n t s vs x,Eh Hf H u n t s->rQ K H₀ l n S' σ t s->qX K n t as vs x->Dx H₀ H u s x.flatten->Q vs t)->z σ H Q
def SAr(x:TA)(m:ML):Prop:=∀{H₀ l Hf}{S}{σ}{H}{u}{ds}{S'},rQ K H₀ l Hf S σ H u->m S=bj %[ds|S']->∀Q:List V->Hp->Prop,
 (∀n t s vs,Eh Hf H u n t s->rQ K H₀ l n S' σ t s->sI K t ds vs->Q vs t)->x σ H Q
end
def rP.stp(r:rP K Hf H n v F)(s:∀q∈F,q∉Fs.flatten)(t:Eh Hf H Fs Hf' H' Fs'):rP K Hf' H' n v F:=r.keep t.sf (λq l=>Vr t.sh (r.owned q l).1) λq l=>by
  by_cases e:Hf' q=n_;.show e
  .rcases t.gr q (r.owned q l).2 e with z|z;.show absurd z (r.owned q l).1
   .show absurd z<|s q l
def rQ.new(R:rQ K H₀ Hf₀ Hf S σ H Fs)(l:H p=n_):Eh Hf H Fs Hf (rO H p o) Fs/\rQ K H₀ Hf₀ Hf S σ (rO H p o) Fs/\Hf p=n_/\H₀ p=n_/\p∉Fs.flatten:=((.refl _,uH l,λQ h=>h,λb h g=>absurd h g),R.laid<|uH l,R.sub.free l,R.fr.free l,λm=>(R.mem m).1 l)
def we n:(aC n ([]:Δ)).flatten=[]:=by induction n with
 |zero=>rfl
 |succ n l=>simp only[jc,fCq,l];rfl
def rP.new(h:H p=bj (.lst vs))(n:Hf p=n_)(r:sI K Hf ds vs):rP K Hf H (.ow<|ds.map .sh) (.ref p) [p]:=by
 have e:[p]=p::(aC ds.length<|[]).flatten:=by rw[we]
 rw[e];show .ow h n (by simp[r.1]) ⋯ λi a v F l s t=>?_;rw[gMq]at l;cases q:ds[i]? with
 |none=>rw[q]at l;cases l
 |some d=>rw[q]at l;cases l;have:=eY<|mGq t;subst this;show .sh<|r.2 i d v q s
def rP.news(h:H p=bj (.lst vs))(n:Hf p=n_)(r:qX K Hf H avs vs l):rP K Hf H (.ow avs) (.ref p)<|p::l.flatten:=.ow h n r.1 r.2.1 r.2.2
def rP.ow_inv(h:rP K Hf H (.ow avs) v F):∃p vs s,v = .ref p/\F=p::s.flatten/\H p=bj (.lst vs)/\Hf p=n_/\qX K Hf H avs vs s:=by cases h with
 |ow h n l t e=>show(_,_,_,rfl,rfl,h,n,l,t,e)
def rP.owd_inv(h:rP K Hf H (.owd ds) v F):∃p kvs,v = .ref p/\F=[p]/\H p=bj (.dK kvs)/\Hf p=n_/\yJ K Hf ds kvs:=by cases h with
 |owd h n r=>show(_,_,rfl,rfl,h,n,r)
def rP.sh_inv(h:rP K Hf H (.sh d) v F):F=[]/\uG K Hf d v:=by cases h with
 |sh r=>show(rfl,r)
def rQ.give(R:rQ K H₀ Hf₀ Hf' S σ l Fs1)(t:Eh Hf H Fs Hf' l Fs1)(r:rP K Hf' l u v F)(o:Dx H₀ H Fs Fs1 F) :
  rQ K H₀ Hf₀ (Z.frz Hf' l F) S σ l Fs1/\uG K (Z.frz Hf' l F) (pA u) v/\Eh Hf H Fs (Z.frz Hf' l F) l Fs1:=by
 have n:=λq s=>(r.owned q s).2;show(R.frz (λq s=>(o.fr q s,o.out q s)) n,r.frozen (vc n) λq s=>Eg s,t.sf.trans<|vc n,t.sh,t.own,λb h g=>?_);by_cases m:b∈F;.show o.new b m
 .rw[zi m]at g;show t.gr b h g
def qX.nil:qX K Hf H [] [] []:=(rfl,rfl,λi a v F h=>by simp at h)
def qX.cons(h:rP K Hf H a v F)(t:qX K Hf H as vs u):qX K Hf H (a::as) (v::vs)<|F::u:=(by simp[t.1],by simp[t.2.1],λi b w G l n s=>by cases i with
  |zero=>simp at l n s;subst l n s;show h
  |succ i=>show t.2.2 i b w G (by show l) (by show n)<|by show s)
def qX.nil_inv(h:qX K Hf H [] vs l):vs=[]/\l=[]:=by have(a,b,_):=h;show(bG.mp a.symm,bG.mp b.symm)
def qX.cons_inv(h:qX K Hf H (a::as) vs s):∃v n F l,vs=v::n/\s=F::l/\rP K Hf H a v F/\qX K Hf H as n l:=by have(t,u,x):=h;cases vs with
 |nil=>simp at t
 |cons v n=>cases s with
  |nil=>simp at u
  |cons F l=>show(v,n,F,l,rfl,rfl,x 0 a v F rfl rfl rfl,by simpa using t,by simpa using u,λi b w G q1 z B=>x (i+1) b w G (by show q1) (by show z)<|by show B)
theorem qX.frozen(h:qX K Hf H as vs Gs)(s:rB Hf Hf')(hk:∀q∈Gs.flatten,Hf' q=H q):sI K Hf' (as.map pA) vs:=(by simp[h.1],λi d v l t=>by rw[gMq]at l;cases n:as[i]? with
  |none=>rw[n]at l;cases l
  |some a=>rw[n]at l;cases l;have hi:=h.2.1 ▸ (gSq.mp n).1;show(h.2.2 i a v Gs[i] n t<|gEg hi).frozen s λq u=>hk q<|mFq.mpr (Gs[i],gRq hi,u))
theorem qX.owned(h:qX K Hf H as vs Gs):∀q∈Gs.flatten,H q≠n_/\Hf q=n_:=λq l=>by have(F,s,l):=mFq.mp l;have(i,hi,rfl):=df.mp s;have n:=h.2.1.symm ▸ hi;have t:=h.1 ▸ n;show(h.2.2 i as[i] vs[i] Gs[i] (gEg n) (gEg t)<|gEg hi).owned q l
def rQ.gives(R:rQ K H₀ Hf₀ Hf' S σ l Fs1)(t:Eh Hf H Fs Hf' l Fs1)(r:qX K Hf' l as vs s)(o:Dx H₀ H Fs Fs1 s.flatten) :
  rQ K H₀ Hf₀ (Z.frz Hf' l s.flatten) S σ l Fs1/\sI K (Z.frz Hf' l s.flatten) (as.map pA) vs/\Eh Hf H Fs (Z.frz Hf' l s.flatten) l Fs1:=by
 have n:=λq u=>(r.owned q u).2;show(R.frz (λq u=>(o.fr q u,o.out q u)) n,r.frozen (vc n) λq u=>Eg u,t.sf.trans<|vc n,t.sh,t.own,λb h g=>?_);by_cases m:b∈s.flatten;.show o.new b m
 .rw[zi m]at g;show t.gr b h g
def Dx.stp(o:Dx H₀ H Fs Fs1 F)(t:Eh Hf1 n Fs1 l s Fs2):Dx H₀ H Fs Fs2 F:=(o.nd,o.fr,λq h m=>o.out q h<|t.own q m,o.new)
def Dx.back(t:Eh Hf H Fs Hf1 l Fs1)(o:Dx H₀ l Fs1 Fs2 F):Dx H₀ H Fs Fs2 F:=(o.nd,o.fr,o.out,λq h=>(o.new q h).elim (λe=>.inl<|t.sh.free e) λm=>.inr<|t.own q m)
def Dx.app(a:Dx H₀ H Fs Fs' F)(b:Dx H₀ H Fs Fs' G)(d:∀q∈F,q∉G):Dx H₀ H Fs Fs'<|F++G:=(nAq.mpr (a.nd,b.nd,λx l y n e=>d x l<|e ▸ n),λq h=>(mAq.mp h).elim (a.fr q)<|b.fr q,λq h=>(mAq.mp h).elim (a.out q)<|b.out q,λq h=>(mAq.mp h).elim (a.new q)<|b.new q)
def Dx.apart{Hf1:Hp}(a:Dx H₀ H Fs Fs1 F)(ha:∀q∈F,l q≠n_)(b:Dx H₀ l Fs1 Fs2 G):∀q∈F,q∉G:=λq h m=>by
 rcases b.new q m with e|e;.show ha q h e
 .show a.out q h e
def Dx.one(R:rQ K H₀ Hf₀ Hf S σ H Fs)(l:H p=n_):Dx H₀ H Fs Fs [p]:=(by simp,λq h=>by rw[mSq.mp h];show R.fr.free l,λq h m=>by rw[mSq.mp h]at m;show(R.mem m).1 l,λq h=>by rw[mSq.mp h];show .inl l)
noncomputable def oE(i:Nat):ME:=λS=>(S[i]?.join).map λa=>%[pA a|S]
noncomputable def oR(i:Nat):MK:=λS=>(S[i]?.join).map λa=>%[.sh<|pA a|S.set i<|bj<|.sh<|pA a]
noncomputable def Br(i:Nat):MK:=λS=>(S[i]?.join).map λa=>%[a|S.set i n_]
noncomputable def Em(i:Nat):ML:=λS=>match S[i]?.join with
 |bj (.sh (.list ds))=>bj %[ds|S]
 |bj (.ow avs)=>bj %[avs.map pA|S.set i<|bj<|.ow<|(avs.map pA).map .sh]
 |_=>n_
noncomputable def rOf(k:MK):ME:=λS=>(k S).map λx=>%[pA x.1|x.2]
def kSc(m:ME):MK:=λS=>(m S).bind λx=>if x.1.scal then bj %[.sh x.1|x.2]else n_
noncomputable def lOf(k:MK):ML:=λS=>(k S).bind λx=>match x.1 with
 | .sh (.list ds)=>bj %[ds|x.2]
 | .ow avs=>bj %[avs.map pA|x.2]
 |_=>n_
noncomputable def yG(k:MK):MK:=λS=>(k S).map λx=>%[.sh<|pA x.1|x.2]
def rC(d:D):ME:=λS=>if d.scal then bj %[d|S]else n_
def sF{S:AS}{i:Nat}(h:S[i]?.join=bj a):S[i]?=bj (bj a):=by cases e:S[i]? with
 |none=>rw[e]at h;cases h
 |some z=>rw[e]at h;show congrArg bj h
def oP i:SR K (xF i)<|oE i:=by intro H₀ l Hf S σ H s d t R e Q q;have(a,n,e):=oMq.mp e;cases e;have(v,F,s1,s2,r):=R.rep i a<|sF n;show(v,s1,q _ _ _ v .refl R<|r.rep R.sub)
def DK i:SK K (xF i)<|Br i:=by intro H₀ n Hf S σ H x a z R e Q q;have(b,s,e):=oMq.mp e;cases e;have(v,F,s1,s2,r,nd,o,t):=R.move<|sF s;show(v,s1,q _ _ _ v F (.refl _,.refl _,λp u=>tP u,λb h g=>absurd h g) t r (nd,λq l=>(o q l).1,λq l=>(o q l).2,λq l=>.inr<|mFq.mpr (F,mGq s2,l)))
def rQ.again{S:AS}{n:List Δ}{F:Δ}(R:rQ K H₀ l Hf (S.set i n_) σ H<|n.set i [])(s1:σ[i]?=bj (bj v))(r:rP K Hf H s v G)(nd:G.Nodup)(t:∀q∈G,H₀ q=n_/\q∉(n.set i []).flatten) :
  rQ K H₀ l Hf (S.set i<|bj s) σ H<|n.set i G:=by
 have R2:=R.set i r nd t;rw[jm,jm]at R2;have e:σ.set i (bj v)=σ:=by have(hk,u):=gSq.mp s1;rw[←u];show fQ hk
 rw[e]at R2;show R2
def oJ i:SK K (xF i)<|oR i:=by
 intro H₀ l Hf S σ H B a E R e Q q;have(b,t,e):=oMq.mp e;cases e;have(v,F,s1,s2,r,nd,o,u):=R.move<|sF t;have n:=λq s=>(r.owned q s).2;have R2:=u.frz o n;have r2:=r.frozen (vc n) λq s=>Eg s;have x:=R2.again (F:=F) s1 (.sh r2) aW λq h=>(by cases h);show(v,s1,q _ _ _ v [] (vc n,.refl _,λp z=>tP z,λb h g=>?_) x (.sh r2) .nil);by_cases m:b∈F;.show .inr<|mFq.mpr (F,mGq s2,m)
 .rw[zi m]at g;show absurd h g
set_option tactic.hygienic true in
def Ir i:SL K (xF i)<|Em i:=by
 intro H₀ t Hf S σ H T U X R e Q q;unfold Em at e;split at e;.rename_i I u;cases e;have(v,F,s1,s2,r):=R.rep i _<|sF u;have(p,x,rfl,s,B):=r.sh_inv.2.list_inv;show(_,s1,q _ _ _ p x .refl R (R.sub _ _ s) B)
 .rename_i J u;cases e;have(v,F,s1,s2,r,nd,o,L):=R.move<|sF u;have(p,x,E,rfl,rfl,s,B,G):=r.ow_inv;have n:=λq l=>(G.owned q l).2;have R2:=L.frz (λq l=>o q<|mCo _ l) n;have r2:=G.frozen (vc n) λq l=>Eg l;have M:=(aJ.mp nd).1;have O:=rP.new s (by rw[zi M];show B) r2;have P:=R2.again (F:=p::E.flatten) s1 O ⋯ λq l=>by rw[mSq.mp l];show o p ⋯
  show(_,s1,q _ _ _ p x (vc n,.refl _,λb hb=>?_,λb h g=>?_) P s r2)
  .rcases vW hb with z|z;.rw[mSq.mp z];show mFq.mpr (_,mGq s2,by simp)
   .show z
  .by_cases m:b∈E.flatten;.show .inr<|mFq.mpr (_,mGq s2,mCo _ m)
   .rw[zi m]at g;show absurd h g
 .cases e
theorem SK.rOf(h:SK K te k):SR K te<|rOf k:=by intro H₀ l Hf S σ H B d E R e Q q;have(x,s,e):=oMq.mp e;cases e;show h R s Q λu G z v F t n r o=>q _ _ _ v t n<|r.rep n.sub
theorem SR.kSc(h:SR K te m):SK K te<|kSc m:=by
 intro H₀ l Hf S σ H E a G R e Q q;have(x,n,e):=oBq.mp e;split at e;.rename_i s;cases e;show h R n Q λu I z v t B r=>q _ _ _ v [] t B (.sh<|r.scal s) .nil
 .cases e
def SK.frz(h:SK K te k):SK K te<|yG k:=by
 intro H₀ l Hf S σ H E a G R e Q q;have(x,n,e):=oMq.mp e;cases e;show h R n Q λs I u v F t z r o=>?_;have(R2,r2,B):=z.give t r o;show q _ _ _ v [] B R2 (.sh r2) .nil
theorem SK.lOf(h:SK K te k):SL K te<|lOf k:=by
 intro H₀ l Hf S σ H O P T R e Q q;have(x,E,e):=oBq.mp e;show h R E Q λG U I v F t n r o=>?_;split at e;.rename_i J s;cases e;rw[s]at r;have(p,u,rfl,z,B):=r.sh_inv.2.list_inv;show q _ _ _ p u t n (n.sub _ _ z) B
 .rename_i L s;cases e;have(R2,r2,M):=n.give t r o;rw[s,vY]at r2;have(p,u,rfl,z,B):=r2.list_inv;show q _ _ _ p u M R2 (R2.sub _ _ z) B
 .cases e
def acU(h:∀H,uG K H d v):SR K (tC v)<|rC d:=by
 intro H₀ l Hf S σ H n s t R e Q q;unfold rC at e;split at e;.cases e;show q _ _ _ v .refl R<|h _
 .cases e
def pO:SR K (tC<|.int i)<|rC<|.int i:=acU λQ=>.int
def tN:SR K (tC<|.str i)<|rC<|.str i:=acU λQ=>.str
def zz:SR K (tC<|.bl i)<|rC<|.bl i:=acU λQ=>.bl
def Au:SR K (tC .non)<|rC .non:=acU λQ=>.non
def EC:SR K (tC<|.ty T)<|rC<|.ty T:=acU λQ=>.ty
def yP{α:Type}(p:Prop)(x:Option α):Option α:=@ite (Option α) p (iu p) x n_
def xx(h:p)(x:Option α):yP p x=x:=qF h
def BI(x:Option α):yP True x=x:=qF trivial
def rh{x y:Option α}(h:yP p x=y):(p/\x=y)∨n_=y:=by
 by_cases c:p;.rw[xx c]at h;show .inl (c,h)
 .show .inr<|(@if_neg p (iu p) c _ x n_).symm.trans h
noncomputable def qE(f:D->D->Option D)(a b:ME):ME:=λS=>(a S).bind λx=>(b x.2).bind λy=>(f x.1 y.1).map λd=>%[d|y.2]
noncomputable def vX(f:D->Option D)(a:ME):ME:=λS=>(a S).bind λx=>(f x.1).map λd=>%[d|x.2]
def Nr(K:Ζ)(r:R2)(f:D->D->Option D):Prop:=∀{x y}{H}{Q}{l n d},uG K H l x->uG K H n y->f l n=bj d->(∀v,uG K H d v->Q v H)->r x y H Q
def UnD(K:Ζ)(r:V->Hp->VK->Prop)(f:D->Option D):Prop:=∀{x}{H}{Q}{l d},uG K H l x->f l=bj d->(∀v,uG K H d v->Q v H)->r x H Q
def qm(hr:Nr K r f)(ha:SR K ta a)(hb:SR K tb b):SR K (tOp r ta tb)<|qE f a b:=by
 intro H₀ l Hf S σ H I d J R e Q q;have(x,e1,e):=oBq.mp e;have(y,e2,e):=oBq.mp e;have(z,s,e):=oMq.mp e;cases e;show ha R e1 _ λt L Fs1 M u B r1=>hb B e2 _ λE O Fs2 P n R2 r2=>?_;show hr (r1.mono n.sh) r2 s λv G=>q _ _ _ v (u.trans n) R2 G
def Do{r}{f}(hr:UnD K r f)(ha:SR K ta a):SR K (tUn r ta)<|vX f a:=by intro H₀ l Hf S σ H E d G R e Q q;have(x,e1,e):=oBq.mp e;have(z,n,e):=oMq.mp e;cases e;show ha R e1 _ λs I Fs1 J t u r1=>hr r1 n λv B=>q _ _ _ v t u B
def Tc(c:Int->Int->Prop)(g:Int->Int->D):D->D->Option D
 | .int i,.int j=>yP (c i j)<|bj<|g i j
 |_,_=>n_
noncomputable def dI1(g:Int->D):D->Option D
 | .int i=>bj<|g i
 |_=>n_
abbrev yf:=Tc (λQ Q=>True) λi j=>.int<|i+j
abbrev aep:=Tc (λQ Q=>True) λi j=>.int<|i-j
abbrev MM:=Tc ZK λi j=>.int<|i*j
abbrev xh:=Tc (λQ j=>0<j) λi j=>.int<|i % j
abbrev Ih:=Tc ai1 λi j=>.int<|i / j
abbrev Jy:=Tc ahz λi j=>.int<|i ^ j.toNat
abbrev XF:=Tc (λQ Q=>True) λi j=>.bl<|decide<|i<j
abbrev dLe:=Tc (λQ Q=>True) λi j=>.bl<|decide<|i<=j
abbrev dGt:=Tc (λQ Q=>True) λi j=>.bl<|decide<|j<i
abbrev dGe:=Tc (λQ Q=>True) λi j=>.bl<|decide<|j<=i
abbrev yy:=dI1 λi=>.int<|-i
noncomputable def YV(b:Bool):Option D:=bj<|.bl b
def Ep(x y:D):Option D:=match x with
 | .int i=>(match y with|.int j=>YV<|decide<|i=j|.non=>YV f_|.str _=>YV f_|_=>n_)
 | .str i=>(match y with|.str j=>YV<|decide<|i=j|.non=>YV f_|.int _=>YV f_|_=>n_)
 | .bl i=>(match y with|.bl j=>YV<|decide<|i=j|.non=>YV f_|_=>n_)
 | .non=>(match y with|.non=>YV t_|.int _=>YV f_|.str _=>YV f_|.bl _=>YV f_|_=>n_)
 |_=>n_
noncomputable def Yr:D->Option D
 | .bl b=>bj<|.bl<|!b
 |_=>n_
def dNe(x y:D):Option D:=(Ep x y).bind Yr
set_option tactic.hygienic true in
def RL(l:∀H i j,uG K H (g' i j)<|g i j):Nr K (rI C g)<|Tc C g':=by
 intro x y H Q t u d n s e q;unfold Tc at e;split at e
 .rename_i i j;cases n;cases s;rcases rh e with⟨h,e⟩|e;.cases e;show(i,j,rfl,rfl,h,q _<|l H i j)
  .cases e
 .cases e
set_option tactic.hygienic true in
def N5(l:∀H i j,uG K H (g' i j)<|g i j):Nr K (ZT g)<|Tc (λZ Z=>True) g':=by
 intro x y H Q t u d n s e q;unfold Tc at e;split at e;.rename_i i j;cases n;cases s;rw[BI]at e;cases e;show(i,j,rfl,rfl,q _<|l H i j)
 .cases e
def Ia:Nr K (ZT λi j=>.int<|i+j) yf:=N5 λQ Q Q=>.int
def aiS:Nr K (ZT λi j=>.int<|i-j) aep:=N5 λQ Q Q=>.int
def aja:Nr K (rI ZK λi j=>.int<|i*j) MM:=RL λQ Q Q=>.int
def Gn:Nr K (rI (λQ j=>0<j) λi j=>.int<|i % j) xh:=RL λQ Q Q=>.int
def Tg:Nr K (rI ai1 λi j=>.int<|i / j) Ih:=RL λQ Q Q=>.int
def ahJ:Nr K (rI ahz λi j=>.int<|i ^ j.toNat) Jy:=RL λQ Q Q=>.int
def Wx:Nr K (ZT λi j=>.bl<|decide<|i<j) XF:=N5 λQ Q Q=>.bl
def Vf:Nr K (ZT λi j=>.bl<|decide<|j<i) dGt:=N5 λQ Q Q=>.bl
set_option tactic.hygienic true in
def zH:UnD K (rU λi=>.int<|-i) yy:=by
 intro x H Q n d l e q;cases l <;> simp only[dI1]at e;all_goals first|(simp at e;done)|skip
 rename_i i;cases e;show(i,rfl,q _ .int)
def ym:Nr K rEq Ep:=by
 intro x y H Q s t d l n e q;cases l <;> first|(cases e;)|(cases n <;> first|(cases e;done)|skip)
 all_goals (cases e;show(rfl,q _ ?_);simp only[reduceCtorEq,decide_false,decide_true,V.int.injEq,V.str.injEq,V.bl.injEq];show .bl)
def Wt:Nr K rNe dNe:=by
 intro x y H Q u z d l n e q;have(b,e1,e2):=oBq.mp e;have(s,t):=ym l n e1 (Q:=λv Z=>uG K H b v) λv h=>h;cases t;cases e2;show(s,q _ .bl)
noncomputable def Xc(a b:ME):ME:=λS=>(a S).bind λx=>match x.1 with
 | .bl t_=>b x.2
 | .bl f_=>bj %[.bl f_|x.2]
 |_=>n_
noncomputable def rOr(a b:ME):ME:=λS=>(a S).bind λx=>match x.1 with
 | .bl t_=>bj %[.bl t_|x.2]
 | .bl f_=>b x.2
 |_=>n_
def ail(a:ME):ME:=vX Yr a
noncomputable def tG(a:ME):MT:=λS=>(a S).bind λx=>match x.1 with
 | .bl b=>bj %[b|x.2]
 |_=>n_
noncomputable def ND(a b:MT):MT:=λS=>(a S).bind λx=>if x.1=t_ then b x.2 else bj %[f_|x.2]
noncomputable def L8(a b:MT):MT:=λS=>(a S).bind λx=>if x.1=t_ then bj %[t_|x.2]else b x.2
noncomputable def uK(a:MT):MT:=λS=>(a S).map λx=>%[!x.1|x.2]
noncomputable def rIf(c:MT)(a b:ME):ME:=λS=>(c S).bind λx=>if x.1=t_ then a x.2 else b x.2
noncomputable def kIf(c:MT)(a b:MK):MK:=λS=>(c S).bind λx=>if x.1=t_ then a x.2 else b x.2
def T2(ha:SR K ta a)(hb:SR K tb b):SR K (ahr ta tb)<|Xc a b:=by
 intro H₀ l Hf S σ H G d I R e Q q;have(x,e1,e):=oBq.mp e;show ha R e1 _ λu J Fs1 L s t r1=>?_;split at e;.rename_i n;rw[n]at r1;cases r1;show(t_,rfl,UC<|hb t e Q λz M Fs2 B E R2 r2=>q _ _ _ B (s.trans E) R2 r2)
 .rename_i n;rw[n]at r1;cases r1;cases e;show(f_,rfl,Rv<|q _ _ _ _ s t .bl)
 .cases e
def aiL(ha:SR K ta a):SR K (agE ta)<|ail a:=by
 intro H₀ n Hf S σ H E d G R e Q q;have(x,e1,e):=oBq.mp e;have(z,l,e):=oMq.mp e;cases e;show ha R e1 _ λs I Fs1 J t u r1=>?_;cases B:x.1 <;> rw[B]at l r1 <;> simp only[Yr]at l;all_goals first|(simp at l;done)|skip
 cases r1;cases l;show(_,rfl,q _ _ _ _ t u .bl)
def vO(ha:SR K ta a):LX K (tB ta)<|tG a:=by
 intro H₀ l Hf S σ H z d B R e Q q;have(x,e1,e):=oBq.mp e;show ha R e1 _ λn E Fs1 G s t r1=>?_;split at e;.rename_i b u;rw[u]at r1;cases r1;cases e;show(_,rfl,q _ _ _ s t)
 .cases e
def ro(ha:SR K ta a):LX K (agV ta)<|tG a:=vO ha
def aar(ha:LX K ca ma)(hb:LX K cb mb):LX K (alP ca cb)<|ND ma mb:=by
 intro H₀ n Hf S σ H E d G R e Q q;have(x,e1,e):=oBq.mp e;show ha R e1 _ λu I Fs1 s t=>?_;split at e;.rename_i l;rw[l];show UC<|hb t e Q λz J Fs2 B R2=>q _ _ _ (s.trans B) R2
 .rename_i l;cases e;rw[dC]at l;rw[l];show Rv<|q _ _ _ s t
def VQ(ha:LX K ca ma)(hb:LX K cb mb):LX K (tOr ca cb)<|L8 ma mb:=by
 intro H₀ n Hf S σ H E d G R e Q q;have(x,e1,e):=oBq.mp e;show ha R e1 _ λu I Fs1 s t=>?_;split at e;.rename_i l;cases e;rw[l];show UC<|q _ _ _ s t
 .rename_i l;rw[dC]at l;rw[l];show Rv<|hb t e Q λz J Fs2 B R2=>q _ _ _ (s.trans B) R2
def yq(ha:LX K ca ma):LX K (amq ca)<|uK ma:=by intro H₀ l Hf S σ H u d z R e Q q;have(x,e1,e):=oMq.mp e;cases e;show ha R e1 _ λn B Fs1 s t=>q _ _ _ s t
abbrev tL:Nat:=16777216
def FC:ky=tL:=kO
def SQ(K:Ζ)(te:TE)(m:ML):Prop:=∀{H₀ l Hf}{S}{σ}{H}{u}{ds}{S'},rQ K H₀ l Hf S σ H u->m S=bj %[ds|S']->∀Q:VK,
 (∀n t s p vs,Eh Hf H u n t s->rQ K H₀ l n S' σ t s->vk K t p vs->sI K n ds vs->Q (.ref p) t)->te σ H Q
theorem SL.q(h:SL K te m):SQ K te m:=by intro H₀ l Hf S σ H B E G R e Q q;show h R e Q λn I s p u t x z r=>q _ _ _ p u t x (vk.of z) r
noncomputable def vq(i:Nat):ML:=λS=>match S[i]?.join with
 |bj (.sh (.scr ns))=>bj %[ns.map .int|S]
 |bj (.sh (.list ds))=>bj %[ds|S]
 |bj (.ow avs)=>bj %[avs.map pA|S.set i<|bj<|.ow<|(avs.map pA).map .sh]
 |_=>n_
theorem Ag:∀ns:Ϝ,sI K H (ns.map .int)<|ns.map V.int
 | []=>.nil
 |n::ns=>.cons .int<|Ag ns
set_option tactic.hygienic true in
def xN{K}i:SQ K (xF i)<|vq i:=by
 intro H₀ n Hf S σ H J L M R e Q q;unfold vq at e;split at e;.rename_i ns l;cases e;have(v,F,s1,s2,r):=R.rep i _<|sF l;cases r.sh_inv.2 with
  |scr h=>show(_,s1,q _ _ _ _ _ .refl R (R.sub.seq h)<|Ag ns)
 .rename_i E l;cases e;show Ir i R ?_ Q λs G u p x t z B r=>q _ _ _ p x t z (vk.of B) r;unfold Em;rw[l]
 .rename_i I l;show Ir i R ?_ Q λs G u p x t z B r=>q _ _ _ p x t z (vk.of B) r;unfold Em;rw[l];show e
 .cases e
theorem qX.stp(r:qX K Hf H as vs l)(s:∀q∈l.flatten,q∉Fs.flatten)(t:Eh Hf H Fs Hf' H' Fs'):qX K Hf' H' as vs l:=(r.1,r.2.1,λi a v F u x n=>(r.2.2 i a v F u x n).stp (λq z=>s q<|mFq.mpr (F,mGq n,z)) t)
def rQ.layF(R:rQ K H₀ Hf₀ Hf S σ H Fs)(l:H p=n_):Eh Hf H Fs (rO Hf p o) (rO H p o) Fs/\rQ K H₀ Hf₀ (rO Hf p o) S σ (rO H p o) Fs:=by
 have n:=R.sub.free l;show((uH n,uH l,λQ h=>h,λb h g=>?_),R.more (uH l) (uH n) (λb u e=>?_) (λq s=>?_) λb x t=>?_)
 .by_cases m:b=p;.subst m;show .inl l
  .rw[pB m]at g;show absurd h g
 .by_cases m:b=p;.subst m;rw[pH]at e ⊢;show e
  .rw[pB m]at e ⊢;show R.sub b u e
 .rw[pB λe=>(R.mem s).1<|by rw[e];show l];show(R.mem s).2
 .rw[pB λe=>t<|by rw[e];show R.fr.free l];show R.lim b x t
def oS:MA:=λS=>bj %[[]|S]
noncomputable def oz(k:MK)(r:MA):MA:=λS=>(k S).bind λx=>(r x.2).map λy=>%[x.1::y.1|y.2]
def oW:ML:=λS=>bj %[[]|S]
noncomputable def oC(k:ME)(r:ML):ML:=λS=>(k S).bind λx=>(r x.2).map λy=>%[x.1::y.1|y.2]
def oK:SA K xH oS:=by intro H₀ l Hf S σ H n s t R e Q q;cases e;show q _ _ _ [] [] .refl R .nil .nil
def ox(hk:SK K te k)(hr:SA K tr r):SA K (vB te tr)<|oz k r:=by
 intro H₀ l Hf S σ H L M O R e Q q;have(x,e1,e):=oBq.mp e;have(y,e2,e):=oMq.mp e;cases e;show hk R e1 _ λn P Fs1 v F u B r1 s=>hr B e2 _ λE T Fs2 G I t R2 r2 z=>?_;show q _ _ _ (v::G) (F::I) (u.trans t) R2 (.cons (r1.stp s.out t) r2) ?_;show(s.stp t).app (z.back u)<|s.apart (Hf1:=n) (λq J=>(r1.owned q J).1) z
def pI:SAr K xH oW:=by intro H₀ l Hf S σ H n s t R e Q q;cases e;show q _ _ _ [] .refl R .nil
def oN(hk:SR K te k)(hr:SAr K tr r):SAr K (vB te tr)<|oC k r:=by
 intro H₀ l Hf S σ H E G I R e Q q;have(x,e1,e):=oBq.mp e;have(y,e2,e):=oMq.mp e;cases e;show hk R e1 _ λs J Fs1 v t u r1=>hr u e2 _ λz L Fs2 B n R2 r2=>?_;show q _ _ _ (v::B) (t.trans n) R2<|.cons (r1.mono n.sh) r2
def rV(a:MA):MK:=λS=>(a S).bind λx=>yP (x.1.length<=tL)<|bj %[.ow x.1|x.2]
def xq(a:MA):MK:=λS=>(a S).bind λx=>yP (x.1.length<=tL)<|bj %[.sh<|.tup<|x.1.map pA|x.2]
def tI(ha:SA K ta a):SK K (Z7 ta)<|rV a:=by
 intro H₀ l Hf S σ H L M O R e Q q;have(x,e1,e):=oBq.mp e;rcases rh e with⟨hl,e⟩|e
 .cases e;show ha R e1 _ λB P Fs1 T E s t r1 u=>(by rw[←r1.1];show hl,λp n=>?_);have(z,R2,G,U,X):=t.new n;show q _ _ _ (.ref p) (p::E.flatten) (s.trans z) R2 (rP.news pH G<|r1.stp u.out z) ?_;have I:=(Dx.one t n).back s;show(I.app u λq J m=>?_);rw[mSq.mp J]at m;show(r1.owned p m).1 n
 .cases e
def vp(ha:SA K ta a):SK K (alk ta)<|xq a:=by
 intro H₀ l Hf S σ H I J L R e Q q;have(x,e1,e):=oBq.mp e;rcases rh e with⟨hl,e⟩|e
 .cases e;show ha R e1 _ λs M Fs1 O P t u r1 z=>(by rw[←r1.1];show hl,λp B=>?_);have(R2,r2,E):=u.gives t r1 z;have(n,G):=R2.layF B;show q _ _ _ (.ref p) [] (E.trans n) G (.sh<|.mk_tup pH<|r2.mono n.sf) .nil
 .cases e
def Dq(a b:ML):MK:=λS=>(a S).bind λx=>(b x.2).bind λy=>yP (x.1.length+y.1.length<=tL)<|bj %[.ow<|(x.1++y.1).map .sh|y.2]
def FS(ha:SL K ta a)(hb:SL K tb b):SK K (tOp amB ta tb)<|Dq a b:=by
 intro H₀ n Hf S σ H U X Y R e Q q;have(x,e1,e):=oBq.mp e;have(y,e2,e):=oBq.mp e;rcases rh e with⟨hl,e⟩|e
 .cases e;show ha R e1 _ λB H1 Fs1 E s u G I r1=>hb G e2 _ λJ H2 Fs2 L t l R2 M r2=>?_;show(E,L,s,t,rfl,rfl,l.sh _ _ I,M,by rw[←r1.1,←r2.1];show hl,λp z=>?_);have(O,P,T,n2,n3):=R2.new z;show q _ _ _ (.ref p) [p] ((u.trans l).trans O) P (rP.new pH T<|(r1.mono l.sf).append r2)<|(Dx.one R2 z).back<|u.trans l
 .cases e
abbrev MO:=AS->Option (Option Int×AS)
def SO(K:Ζ)(to:TO)(m:MO):Prop:=∀{H₀ l Hf}{S}{σ}{H}{u}{o}{S'},rQ K H₀ l Hf S σ H u->m S=bj %[o|S']->∀Q:Option Int->Hp->Prop,
 (∀n t s,Eh Hf H u n t s->rQ K H₀ l n S' σ t s->Q o t)->to σ H Q
def wA:MO:=λS=>bj %[n_|S]
noncomputable def ud(m:ME):MO:=λS=>(m S).bind λx=>match x.1 with
 | .int i=>bj %[bj i|x.2]
 |_=>n_
def wW{α:Type}(xs:List α)(lo hi:Option Int):List α:=(xs.drop<|HT.xi xs.length 0 lo).take<|HT.xi xs.length xs.length hi-HT.xi xs.length 0 lo
def JJ(l:ML)(lo hi:MO):MK:=λS=>(l S).bind λx=>(lo x.2).bind λy=>(hi y.2).map λz=>%[.ow<|(wW x.1 y.1 z.1).map .sh|z.2]
def AW:SO K Vs wA:=by intro H₀ n Hf S σ H s o t R e Q q;cases e;show q _ _ _ .refl R
set_option tactic.hygienic true in
def wG(h:SR K te m):SO K (ahp te)<|ud m:=by
 intro H₀ n Hf S σ H B o E R e Q q;have(x,e1,e):=oBq.mp e;show h R e1 _ λs G Fs1 v t u r1=>?_;split at e;.rename_i i z;rw[z]at r1;cases r1;cases e;show(i,rfl,q _ _ _ t u)
 .cases e
def sI.cut(r:sI K H ds vs)lo hi:sI K H (wW ds lo hi)<|PD vs lo hi:=by unfold wW PD;rw[r.1];show(r.drop _).take _
def Fw(hl:SQ K te l)(t:SO K tl lo)(u:SO K th hi):SK K (tSl (alU K) te tl th)<|JJ l lo hi:=by
 intro H₀ B Hf S σ H Fs av S' R e Q q;have(x,e1,e):=oBq.mp e;have(y,e2,e):=oBq.mp e;have(z,L,e):=oMq.mp e;cases e;show hl R e1 _ λM H1 Fs1 O E G P T r1=>t P e2 _ λU H2 Fs2 n R2=>u R2 L _ λX H3 Y s I=>?_;show(O,E,rfl,(n.sh.trans s.sh).seq T,λp J=>?_);have(t4,R4,n1,n2,n3):=I.new J;show q _ _ _ (.ref p) [p] (((G.trans n).trans s).trans t4) R4 (rP.new pH n1<|(r1.mono<|n.sf.trans s.sf).cut _ _)<|(Dx.one I J).back<|(G.trans n).trans s
def Gw:D->D->Option D
 | .list ds,.int i=>atI ds i
 | .scr ns,.int i=>(atI ns i).map .int
 |_,_=>n_
def MN:D->D->Option D
 | .tup ds,.int i=>atI ds i
 |_,_=>n_
def kIx(l:ML)(b:ME):MK:=λS=>(l S).bind λx=>(b x.2).bind λy=>match y.1 with
 | .int i=>(atI x.1 i).map λd=>%[.sh d|y.2]
 |_=>n_
def adU(k:MK)(b:ME):MK:=λS=>(k S).bind λx=>(b x.2).bind λy=>match x.1,y.1 with
 | .sh (.tup ds),.int i=>(atI ds i).map λd=>%[.sh d|y.2]
 |_,_=>n_
theorem sI.atI(r:sI K H ds vs)(h:L2.atI ds i=bj d):∃v,L2.atI vs i=bj v/\uG K H d v:=by unfold L2.atI at h ⊢;rw[r.1]at h;have(j,l,n):=oBq.mp h;rw[l];show r.get n
set_option tactic.hygienic true in
def B0:Nr K (abJ K) Gw:=by
 intro x y H Q L M d u z e q;unfold Gw at e;split at e;.rename_i O i;cases z;have(p,B,rfl,h,r):=u.list_inv;have(l,E):=r;have(v,s,t):=sI.atI (l,E) e;show(p,B,i,v,rfl,rfl,vk.of h,s,q v t)
 .rename_i ns i;cases z;cases u;rename_i p h;have(n,s,t):=oMq.mp e;subst t;have(v,G,I):=sI.atI (Ag ns) (by unfold L2.atI at s ⊢;rw[lMq];have(j,J,g2):=oBq.mp s;rw[J];change(ns.map D.int)[j]?=_;rw[gMq,g2];rfl);show(p,_,i,v,rfl,rfl,h,G,q v I)
 .cases e
set_option tactic.hygienic true in
def UQ:Nr K (aeO K) MN:=by
 intro x y H Q z B d l n e q;unfold MN at e;split at e;.rename_i E i;cases n;have(p,s,rfl,h,r):=l.tup_inv;have(v,t,u):=sI.atI r e;show(p,s,i,v,rfl,rfl,FF.of h,t,q v u)
 .cases e
set_option tactic.hygienic true in
def aay(hl:SQ K ta l)(hb:SR K tb b):SK K (tOp (abJ K) ta tb)<|kIx l b:=by
 intro H₀ n Hf S σ H O P T R e Q q;have(x,e1,e):=oBq.mp e;have(y,e2,e):=oBq.mp e;show hl R e1 _ λu U Fs1 z s B E G r1=>hb E e2 _ λI X Fs2 Y t R2 r2=>?_;split at e;.rename_i i J;rw[J]at r2;cases r2;have(d,L,e):=oMq.mp e;cases e;have(v,M,g2):=(r1.mono t.sf).atI L;show(z,s,i,v,rfl,rfl,t.sh.seq G,M,q _ _ _ v [] (B.trans t) R2 (.sh g2) .nil)
 .cases e
set_option tactic.hygienic true in
def aa2(hk:SK K ta k)(hb:SR K tb b):SK K (tOp (aeO K) ta tb)<|adU k b:=by
 intro H₀ l Hf S σ H O P T R e Q q;have(x,e1,e):=oBq.mp e;have(y,e2,e):=oBq.mp e;show hk R (a:=x.1) (S':=x.2) e1 _ λs U Fs1 X F t u r1 Y=>hb u (d:=y.1) (S':=y.2) e2 _ λz H2 Fs2 v2 n R2 r2=>?_;split at e;.rename_i ds i B E;rw[E]at r2;rw[B]at r1;cases r2;have(d,G,e):=oMq.mp e;cases e;have(p,I,rfl,J,L):=(r1.sh_inv.2.mono n.sf).tup_inv;have(v,M,g2):=L.atI G;show(p,I,i,v,rfl,rfl,FF.of<|R2.sub _ _ J,M,q _ _ _ v [] (t.trans n) R2 (.sh g2) .nil)
 .cases e
def CbD(K:Ζ)(r:List V->Hp->VK->Prop)(f:List D->Option D):Prop:=∀{vs}{H}{Q}{ds}{d},sI K H ds vs->f ds=bj d->(∀v,uG K H d v->Q v H)->r vs H Q
noncomputable def yK(f:List D->Option D)(a:ML):ME:=λS=>(a S).bind λx=>(f x.1).map λd=>%[d|x.2]
def vA(hr:CbD K r f)(ha:SAr K n a):SR K (tCB r n)<|yK f a:=by intro H₀ l Hf S σ H G d I R e Q q;have(x,e1,e):=oBq.mp e;have(z,s,e):=oMq.mp e;cases e;show ha R e1 _ λt J Fs1 L u B r1=>hr r1 s λv E=>q _ _ _ v u B E
def vJ:List D->Option D
 | [.list ds]=>bj<|.int ds.length
 | [.tup ds]=>bj<|.int ds.length
 | [.scr ns]=>bj<|.int ns.length
 | [.str x]=>yP (x.length<=tL)<|bj<|.int x.length
 |_=>n_
noncomputable def ano:List D->Option D
 | [.int i]=>bj<|.int<|if i<0 then -i else i
 |_=>n_
noncomputable def aoy:List D->Option D
 | [.int i,.int j]=>bj<|.int<|if j>i then j else i
 |_=>n_
noncomputable def aoP:List D->Option D
 | [.int i,.int j]=>bj<|.int<|if j<i then j else i
 |_=>n_
noncomputable def aoE:List D->Option D
 | [.int i]=>bj<|.int i
 | [.bl k]=>bj<|.int<|if k then 1 else 0
 |_=>n_
noncomputable def SI:D->String->Option D
 | .int _,T=>if T = "int" then bj (.bl t_)else if T = "bool" then bj (.bl f_)else n_
 | .bl _,T=>if T = "bool" ∨ T = "int" then bj (.bl t_)else n_
 | .str _,T=>if T = "str" then bj (.bl t_)else n_
 | .list _,T=>if T = "list" then bj (.bl t_)else n_
 | .tup _,T=>if T = "tuple" then bj (.bl t_)else n_
 | .dict _,T=>if T = "dict" then bj (.bl t_)else n_
 |_,_=>n_
def EE:List D->Option D
 | [x,.ty T]=>SI x T
 |_=>n_
noncomputable def vt:List D->Option Ϝ
 | []=>bj []
 | .int i::ds=>(vt ds).map (i :: ·)
 |_=>n_
theorem BJ:∀{ds}{ns},vt ds=bj ns->ds=ns.map .int
 | [],ns,h=>by cases h;rfl
 |d::ds,ns,h=>by cases d with
  |int i=>have(s,l,n):=oMq.mp<|h;subst n;rw[BJ l];rfl
  |_=>cases h
@[simp] theorem vV ns:vt (ns.map .int)=bj ns:=by induction ns with
 |nil=>rfl
 |cons n ns l=>change(vt<|ns.map .int).map (n :: ·)=_;rw[l];rfl
theorem xj:∀{ns:Ϝ}{vs},sI K H (ns.map .int) vs->vs=ns.map V.int
 | [],vs,h=>h.nil_inv
 |n::ns,vs,h=>by have(v,t,rfl,l,s):=sI.cons_inv h;cases l;rw[xj s];rfl
noncomputable def P6:Ϝ->Option Int
 | []=>n_
 |n::ns=>bj<|ns.foldl min n
theorem Bi:∀(ns:Ϝ) n,ns.foldl min n∈n::ns
 | [],n=>by simp
 |m::ns,n=>by
  have h:=Bi ns<|min n m;rw[gi];rcases ag.mp h with e|e
  .rw[e];by_cases c:n<=m;.rw[Int.min_eq_left c];simp
   .rw[Int.min_eq_right ∅];simp
  .show mCo _<|mCo _ e
theorem zV:∀(ns:Ϝ) n,(ns.foldl min n<=n)/\∀x∈ns,ns.foldl min n<=x
 | [],n=>(gO _,λx h=>by cases h)
 |m::ns,n=>by
  have(t,l):=zV ns<|min n m;rw[gi];show(by lia,λx s=>?_);rcases ag.mp s with e|e;.lia
  .show l x e
def WO:List D->Option D
 | [.list ds]=>(vt ds).bind λns=>(P6 ns).map .int
 |_=>n_
def zB:CbD K (λxs H Q=>∃x n,xs=[x]/\amw K x H n/\Q (.int n) H) vJ:=by
 intro B H Q E d r e q;unfold vJ at e;split at e;.have(v,t,rfl,l,s):=r.cons_inv;rw[s.nil_inv];have(p,us,rfl,u,z):=l.list_inv;cases e;show(_,_,rfl,.inl (us,vk.of u,z.1),q _ .int)
 .have(v,t,rfl,l,s):=r.cons_inv;rw[s.nil_inv];have(p,us,rfl,u,z):=l.tup_inv;cases e;show(_,_,rfl,.inr (us,FF.of u,z.1),q _ .int)
 .have(v,t,rfl,l,s):=r.cons_inv;rw[s.nil_inv];cases e;cases l with
  |scr h=>show(_,_,rfl,.inl (_,h,(lMq _).symm),q _ .int)
 .rcases rh e with⟨hl,e⟩|e;.have(v,t,rfl,l,s):=r.cons_inv;rw[s.nil_inv];cases e;cases l;show(_,_,rfl,(by show hl,rfl),q _ .int)
  .cases e
 .cases e
def aiX:CbD K (λxs H Q=>∃(a:Addr) (ns:Ϝ),xs=[.ref a]/\vk K H a (ns.map V.int)/\0<ns.length/\∀M,M∈ns->(∀x,x∈ns->M<=x)->Q (.int M) H) WO:=by
 intro I H Q J d r e q;unfold WO at e;split at e;.have(v,L,rfl,l,u):=r.cons_inv;rw[u.nil_inv];have(ns,e1,e):=oBq.mp e;have(m,e2,e):=oMq.mp e;cases e;rw[BJ e1]at l;have(p,us,rfl,s,B):=l.list_inv;rw[xj B]at s;cases ns with
  |nil=>cases e2
  |cons n ns=>
   cases e2;show(p,_,rfl,vk.of s,by simp,λM E hm=>?_);have G:M=ns.foldl min n:=by
    have O:=hm _<|Bi ns n;have t:=zV ns n;have P:ns.foldl min n<=M:=by
     rcases ag.mp E with z|z;.cases z;show t.1
     .show t.2 M z
    lia
   rw[G];show q _ .int
 .cases e
set_option tactic.hygienic true in
def ajD:CbD K (λxs H Q=>∃x T b,xs=[x,.ty T]/\akj K x H T b/\Q (.bl b) H) EE:=by
 intro G H Q I d r e q;unfold EE at e;split at e;rotate_left;.cases e
 rename_i x T;have(v,J,rfl,n,z):=r.cons_inv;have(u,L,rfl,B,E):=z.cons_inv;rw[E.nil_inv];cases B;unfold SI at e;cases x <;> first|(cases e;)|dsimp only at e
 case int=>
  cases n;split at e;.rename_i l;cases e;show(_,_,_,rfl,.inl (l,rfl),q _ .bl)
  .split at e;.rename_i l;cases e;show(_,_,_,rfl,.inr (l,rfl),q _ .bl)
   .cases e
 case bl=>
  cases n;split at e
  .rename_i l;cases e;rcases l with l|l;.show(_,_,_,rfl,.inl (l,rfl),q _ .bl)
   .show(_,_,_,rfl,.inr (l,rfl),q _ .bl)
  .cases e
 case str=>
  cases n;split at e;.rename_i l;cases e;show(_,_,_,rfl,(l,rfl),q _ .bl)
  .cases e
 case list=>
  have(p,us,rfl,s,t):=n.list_inv;split at e;.rename_i l;cases e;show(_,_,_,rfl,.inl (l,rfl,us,vk.of s),q _ .bl)
  .cases e
 case tup=>
  have(p,us,rfl,s,t):=n.tup_inv;split at e;.rename_i l;cases e;show(_,_,_,rfl,.inr<|.inr (l,rfl,us,FF.of s),q _ .bl)
  .cases e
 case dict=>
  have(p,us,rfl,s,t):=n.dict_inv;split at e;.rename_i l;cases e;show(_,_,_,rfl,.inr<|.inl (l,rfl,us,s),q _ .bl)
  .cases e
abbrev MF:=List D->Option AV
def qQ(K:Ζ)(f:MF):Sp:=λvs H Q Z=>∃Hf ds a,rB Hf H/\sI K Hf ds vs/\f ds=bj a /\
 ∀l n v F,rB Hf l->rB H n->rB l n->(∀b,Hf b=n_->H b≠n_->l b=n_)->rP K l n a v F->F.Nodup->(∀q∈F,H q=n_)->Q v n
noncomputable def pd(f:MF)(a:MA):MK:=λS=>(a S).bind λx=>(f<|x.1.map pA).map λr=>%[r|x.2]
def oX(ha:SA K E a):SK K (xl (qQ K f) [] E0 E)<|pd f a:=by
 intro H₀ s Hf S σ H Fs J S' R e Q q;have(x,e1,e):=oBq.mp e;have(z,L,e):=oMq.mp e;cases e;show ha R e1 _ λt u Fs1 vs M G O r1 P=>?_;have(R2,r2,T):=O.gives G r1 P;rw[aNq];show(_,_,J,R2.sub,r2,L,λB U v F s1 s2 X l r nd fr=>?_);have Y:Eh (Z.frz t u M.flatten) u Fs1 B U Fs1:=(s1,s2,λW h=>h,λb h g=>.inl (by
  by_cases e:u b=n_;.show e
  .show absurd (l b h e) g));have hn:=λq n=>l q (R2.mem n).2 (R2.mem n).1;have R3:=R2.more s2 s1 X hn λb h1 I=>l b (R2.lim b h1 I)<|Wa R2.fr I;show q _ _ _ v F (T.trans Y) R3 r (nd,λq n=>R2.fr.free<|fr q n,λq n m=>(R2.mem m).1<|fr q n,λq n=>.inl<|G.sh.free<|fr q n)
inductive Ng where
 |nx (S:AS)|rt (a:AV)|bk (S:AS)|ct (S:AS)
abbrev MS:=AS->Option Ng
def HN(K:Ζ)(H₀ n Hf:Hp)(D:zG):Ng->Prop
 | .nx S=>∀l s t u,rB Hf l->rQ K H₀ n l S s t u->D.nx s t
 | .bk S=>∀l s t u,rB Hf l->rQ K H₀ n l S s t u->D.bk s t
 | .ct S=>∀l s t u,rB Hf l->rQ K H₀ n l S s t u->D.ct s t
 | .rt a=>∀l t v F,rB n l->rB H₀ t->rB l t->(∀b,n b=n_->H₀ b≠n_->l b=n_)->rP K l t a v F->F.Nodup->(∀q∈F,H₀ q=n_)->D.rt v t
def SS(K:Ζ)(t:TS)(m:MS):Prop:=∀{H₀ l Hf}{S}{σ}{H}{n}{o},rQ K H₀ l Hf S σ H n->m S=bj o->∀D:zG,HN K H₀ l Hf D o->t D σ H
def HN.mono{D}(s:rB Hf x)(h:HN K H₀ l Hf D o):HN K H₀ l x D o:=by cases o with
 |nx S=>show λn t z u s2 R=>h n t z u (s.trans s2) R
 |bk S=>show λn t z u s2 R=>h n t z u (s.trans s2) R
 |ct S=>show λn t z u s2 R=>h n t z u (s.trans s2) R
 |rt a=>show h
def pZ:MS:=λS=>bj<|.nx S
def anm:MS:=λS=>bj<|.bk S
def aoO:MS:=λS=>bj<|.ct S
def an7:MS:=λQ=>n_
noncomputable def oZ(a b:MS):MS:=λS=>(a S).bind λo=>match o with
 | .nx S'=>b S'
 |o=>bj o
noncomputable def pU(i:Nat)(k:MK):MS:=λS=>(k S).map λx=>.nx<|x.2.set i<|bj x.1
noncomputable def aoJ(k:MK):MS:=λS=>(k S).map λx=>.nx x.2
noncomputable def ql(k:MK):MS:=λS=>(k S).map λx=>.rt x.1
noncomputable def wm(c:MT)(a b:MS):MS:=λS=>(c S).bind λx=>if x.1=t_ then a x.2 else b x.2
def qi:SS K ahx pZ:=by intro H₀ l Hf S σ H n o R e D h;cases e;show h _ _ _ _ (.refl _) R
def pR(ha:SS K t a)(hb:SS K u b):SS K (Pd t u)<|oZ a b:=by intro H₀ l Hf S σ H G o R e D h;have(x,e1,e):=oBq.mp e;show ha R e1 _ ?_;cases x with
 |nx I=>show λn z J B s E=>hb E e D<|h.mono s
 |rt a=>cases e;show h
 |bk a=>cases e;show h
 |ct a=>cases e;show h
def qH(hk:SK K te k):SS K (OT te<|xa i)<|pU i k:=by
 intro H₀ l Hf S σ H G o R e D h;have(x,e1,e):=oMq.mp e;cases e;show hk R e1 _ λz I Fs1 v F B E r1 n=>?_;show h _ _ _ _ B.sf<|E.set i r1 n.nd λq s=>(n.fr q s,n.out q s)
def qf(hk:SK K te k):SS K (Yi te)<|ql k:=by intro H₀ n Hf S σ H B o R e D h;have(x,e1,e):=oMq.mp e;cases e;show hk R e1 _ λz E Fs1 v F G l r1 s=>h _ _ v F l.sf l.fr l.sub l.lim r1 s.nd s.fr
def tJ(B:LX K c m)(ha:SS K t a)(hb:SS K u b):SS K (YK c t u)<|wm m a b:=by
 intro H₀ n Hf S σ H G o R e D h;have(x,e1,e):=oBq.mp e;show B R e1 _ λE I Fs1 s z=>?_;split at e;.rename_i l;rw[l];show UC<|ha z e D<|h.mono s.sf
 .rename_i l;rw[dC]at l;rw[l];show Rv<|hb z e D<|h.mono s.sf
noncomputable def tW(S:AS)(i:Nat):Option<|List AV:=match S[i]?.join with
 |bj (.ow avs)=>bj avs
 |_=>n_
noncomputable def zK(S:AS)(i:Nat):Option<|List<|rD×D:=match S[i]?.join with
 |bj (.owd kvs)=>bj kvs
 |_=>n_
def zJ(i:Nat)(k:MK):MS:=λS=>(tW S i).bind λQ=>(k S).bind λx=>(tW x.2 i).bind λavs=>yP (avs.length<tL)<|bj<|.nx<|x.2.set i<|bj<|.ow<|avs++[x.1]
def Uu(i:Nat)(l:ML):MS:=λS=>(tW S i).bind λQ=>(l S).bind λx=>(tW x.2 i).bind λavs=>yP (avs.length+x.1.length<=tL)<|bj<|.nx<|x.2.set i<|bj<|.ow<|avs++x.1.map .sh
noncomputable def intOf:D->Option Int
 | .int i=>bj i
 |_=>n_
def apr(i:Nat)(b:ME)(k:MK):MS:=λS=>(yG k S).bind λx=>(tW x.2 i).bind λQ=>(b x.2).bind λy=>(tW y.2 i).bind λavs=>(intOf y.1).bind λj=>(Ql avs.length j).map λn=>.nx<|y.2.set i<|bj<|.ow<|((avs.map pA).set n<|pA x.1).map .sh
noncomputable def zt:D->Option rD
 | .int i=>bj<|.inl i
 | .str x=>bj<|.inr x
 |_=>n_
noncomputable def IM(kvs:List<|rD×D)(k:rD)(d:D):List<|rD×D:=if kvs.any (λl=>decide<|l.1=k)then kvs.map (λl=>if l.1=k then %[l.1|d]else l)else kvs++[%[k|d]]
noncomputable def getD(kvs:List<|rD×D)(k:rD):Option D:=(kvs.find? λl=>decide<|l.1=k).map (·.2)
def B1(i:Nat)(b:ME)(k:MK):MS:=λS=>(yG k S).bind λx=>(zK x.2 i).bind λQ=>(b x.2).bind λy=>(zK y.2 i).bind λkvs=>(zt y.1).bind λkey=>yP (kvs.length<tL)<|bj<|.nx<|y.2.set i<|bj<|.owd<|IM kvs key<|pA x.1
section
variable {Fs:List Δ}
def rQ.turn(R:rQ K H₀ Hf₀ Hf S σ H Fs)(s1:σ[i]?=bj (bj<|.ref p))(s2:Fs[i]?=bj F)(s:p∈F)(r:rP K Hf (rO H p o) B (.ref p) F')(nd:F'.Nodup)
  (I:∀q∈F',H₀ q=n_/\q∉(Fs.set i []).flatten):rQ K H₀ Hf₀ Hf (S.set i<|bj B) σ (rO H p o)<|Fs.set i F':=by
 have t:=mFq.mpr (F,mGq s2,s);have pn:=(R.mem t).2;have J:=R.fresh p t;have out:=yr R.nd s2 s;have L:rQ K H₀ Hf₀ Hf (S.set i n_) σ (rO H p o)<|Fs.set i []:=by
  show(by simp[R.len],by simp[R.lenF],λj a n=>?_,λj n=>?_,uI i R.nd aW (λp s=>by cases s),λp s=>R.fresh p<|tP s,λb u e=>?_,λb u e=>?_,R.lim,R.sf)
  .rw[bx]at n;by_cases l:i=j;.subst l;rw[qF rfl]at n;split at n <;> cases n
   .rw[qL l]at n;have(w,G,M,E,q):=R.rep j a n;show(w,G,M,by rw[ay l];show E,q.keep (.refl _) (λc x=>pB λe=>out ?_) λc x=>(q.owned c x).2);cases e;show mFq.mpr (G,mGq<|by rw[ay l];show E,x)
  .rw[bx]at n;by_cases l:i=j
   .subst l;rw[qF rfl]at n;split at n;.rename_i hi;rw[aV<|R.lenF.symm ▸ hi]
    .cases n
   .rw[qL l]at n;rw[ay l];show R.emp j n
  .rw[pB λz=>by rw[z,pn]at e;cases e];show R.sub b u e
  .rw[pB λz=>by rw[z,J]at e;cases e];show R.fr b u e
 show L.again (F:=F) s1 r nd I
def sO{i:Nat}(s2:Fs[i]?=bj F)(h:q∈F):q∈Fs.flatten:=mFq.mpr (F,mGq s2,h)
def qX.snoc(r:qX K Hf H as vs x)(s:rP K Hf H a v F):qX K Hf H (as++[a]) (vs++[v])<|x++[F]:=by
 have(n,t,z):=r;show(by simp[n],by simp[t],λi b w G e1 e2 l=>?_);by_cases hi:i<as.length;.rw[gZq hi]at e1;rw[gZq<|n ▸ hi]at e2;rw[gZq<|t ▸ hi]at l;show z i b w G e1 e2 l
 .have u:i=as.length:=by have:=(gSq.mp e1).1;rw[lAq,lSq]at this;lia
  subst u;rw[gYq<|ae _,cA]at e1;rw[n,gYq<|ae _,cA]at e2;rw[t,gYq<|ae _,cA]at l;cases e1;cases e2;cases l;show s
def qX.keepUpd(r:qX K Hf H as vs l)(t:p∉l.flatten):qX K Hf (rO H p o) as vs l:=(r.1,r.2.1,λi a v F u x s=>by
  have q:=r.2.2 i a v F u x s;show q.keep (.refl _) (λc n=>pB λe=>t ?_) λc n=>(q.owned c n).2;subst e;show mFq.mpr (F,mGq s,n))
def rP.keepUpd(q:rP K Hf H a v F)(n:p∉F):rP K Hf (rO H p o) a v F:=q.keep (.refl _) (λc l=>pB λe=>n<|e ▸ l) λc l=>(q.owned c l).2
def OP(r:sI K Hf ds vs):qX K Hf H (ds.map .sh) vs<|aC ds.length []:=(by simp[r.1],by simp,λi a v F l n s=>by rw[gMq]at l;cases q:ds[i]? with
  |none=>rw[q]at l;cases l
  |some d=>rw[q]at l;cases l;have:=eY<|mGq s;subst this;show .sh<|r.2 i d v q n)
def qX.append(r:qX K Hf H as vs x)(s:qX K Hf H bs u z):qX K Hf H (as++bs) (vs++u)<|x++z:=by
 have(n,t,B):=r;show(by simp[n,s.1],by simp[t,s.2.1],λi b w G e1 e2 l=>?_);by_cases hi:i<as.length;.rw[gZq hi]at e1;rw[gZq<|n ▸ hi]at e2;rw[gZq<|t ▸ hi]at l;show B i b w G e1 e2 l
 .rw[gYq<|by rfl']at e1;rw[gYq ∅,←n]at e2;rw[gYq ∅,←t]at l;show s.2.2 _ b w G e1 e2 l
end
set_option tactic.hygienic true in
def rE(h:tW S i=bj avs):S[i]?=bj (bj<|.ow avs):=by
 unfold tW at h;split at h;.rename_i z e;cases h;show sF e
 .cases h
set_option tactic.hygienic true in
def Ay(h:zK S i=bj kvs):S[i]?=bj (bj<|.owd kvs):=by
 unfold zK at h;split at h;.rename_i z e;cases h;show sF e
 .cases h
theorem rQ.ow(R:rQ K H₀ n Hf S σ H t)(h:S[i]?=bj (bj<|.ow avs)):∃p vs s,σ[i]?=bj (bj<|.ref p)/\t[i]?=bj (p::s.flatten)/\H p=bj (.lst vs)/\Hf p=n_/\qX K Hf H avs vs s /\
  p∉s.flatten/\s.flatten.Nodup/\∀q∈p::s.flatten,H₀ q=n_/\q∉(t.set i []).flatten:=by have(v,F,s1,s2,r,nd,o,_):=R.move h;have(p,vs,s,rfl,rfl,u,x,z):=r.ow_inv;show(p,vs,s,s1,s2,u,x,z,(aJ.mp nd).1,(aJ.mp nd).2,o)
def Bj(hk:SK K te k):SS K (Dj<|Vu K "list" E7 (xF i)<|vB te xH)<|zJ i k:=by
 intro H₀ G Hf S σ H Fs o R e D h;have(a0,T,e):=oBq.mp e;have(x,e1,e):=oBq.mp e;have(U,e2,e):=oBq.mp e;rcases rh e with⟨hl,e⟩|e
 .cases e;have(p,X,Gs,s1,_,Y,_):=R.ow<|rE T;show(.ref p,s1,.inl (rfl,X,vk.of Y),hk R e1 _ λHf1 H1 Fs1 v F t1 O r1 s=>?_);have(p',I,Gs',t,n,J,L,u,B,M,E):=O.ow<|rE e2;rw[s1]at t;cases t;have P:=λm=>s.out p m<|sO n ⋯;show(p,I,v,rfl,rfl,J,by rw[←u.1];show hl,h _ _ _ _ t1.sf<|O.turn s1 n ⋯ (rP.news pH L<|(u.keepUpd B).snoc<|r1.keepUpd P) ?_ λq Q=>?_);.rw[fAq,aK];show aJ.mpr (λm=>(mAq.mp m).elim B P,nAq.mpr (M,s.nd,λa ha b hb e=>s.out b hb<|sO n<|mCo _<|e ▸ ha))
  .rw[fAq,aK]at Q;rcases ag.mp Q with z|z;.show E q<|by rw[z];simp
   .rcases mAq.mp z with z|z;.show E q<|mCo _ z
    .show(s.fr q z,λm=>s.out q z<|tP m)
 .cases e
def ajm(hl:SL K te l):SS K (Dj<|Vu K "list" JL (xF i)<|vB te xH)<|Uu i l:=by
 intro H₀ u Hf S σ H Fs o R e D h;have(a0,P,e):=oBq.mp e;have(x,e1,e):=oBq.mp e;have(Q,e2,e):=oBq.mp e;rcases rh e with⟨z,e⟩|e
 .cases e;have(p,T,Gs,s1,_,U,_):=R.ow<|rE P;show(.ref p,s1,.inl (rfl,T,vk.of U),hl R e1 _ λX H1 Fs1 b Y t1 M hb r1=>?_);have(p',B,Gs',n,E,G,I,s,t,J,L):=M.ow<|rE e2;rw[s1]at n;cases n;show(p,b,B,Y,rfl,rfl,G,hb,by rw[←s.1,←r1.1];show z,h _ _ _ _ t1.sf<|M.turn s1 E ⋯ (rP.news pH I<|(s.keepUpd t).append<|OP r1) ?_ λq O=>?_);.rw[fAq,we,aNq];show aJ.mpr (t,J)
  .rw[fAq,we,aNq]at O;show L q O
 .cases e
theorem Hd:∀{ds}{kvs}{key},yJ K H ds kvs->match getD ds key with
  |bj d=>∃v,G1 kvs key=bj v/\uG K H d v
  |n_=>G1 kvs key=n_
 | [],kvs,key,h=>by
  have:kvs=[]:=by have:=congrArg cH h.1;simpa using this.symm
  subst this;rfl
 |d::ds,[],key,h=>by have:=congrArg cH h.1;simp at this
 |d::ds,v::kvs,key,h=>by
  have n:d.1=v.1/\ds.map (·.1)=kvs.map (·.1):=by have:=h.1;simpa using this
  have s:uG K H d.2 v.2:=h.2 0 d v rfl rfl;have ht:yJ K H ds kvs:=(n.2,λi a b e1 e2=>h.2 (i+1) a b (by show e1)<|by show e2);unfold getD G1;by_cases c:d.1=key
  .rw[fG<|by simp[c],fG<|by simp[←n.1,c]];show(v.2,rfl,s)
  .rw[fJ<|by simp[c],fJ<|by simp[←n.1,c]];show Hd ht
def BB(h:zt d=bj key)(r:uG K H d v):v=kV key:=by
 cases r <;> simp only[zt]at h;all_goals first|(simp at h;done)|skip
 all_goals (cases h;rfl)
def yJ.key(h:yJ K H ds kvs){i:Nat}(e1:ds[i]?=bj d)(e2:kvs[i]?=bj v):d.1=v.1:=by
 have:=congrArg (λl=>l[i]?) h.1;simp only[gMq,e1,e2,bK]at this;show bj.inj this
def yJ.len(h:yJ K H ds kvs):ds.length=kvs.length:=by have:=congrArg cH h.1;simpa using this
def Qr(h:yJ K H ds kvs)(r:uG K H d v):yJ K H (IM ds key d)<|DP kvs key v:=by
 have ha:(ds.any λn=>decide<|n.1=key)=kvs.any λn=>decide<|n.1=key:=by
  have e1:(ds.any λn=>decide<|n.1=key)=(ds.map (·.1)).any λk=>decide<|k=key:=by rw[jn];rfl
  have e2:(kvs.any λn=>decide<|n.1=key)=(kvs.map (·.1)).any λk=>decide<|k=key:=by rw[jn];rfl
  rw[e1,e2,h.1]
 unfold IM DP;rw[ha];split
 .show(?_,λi a b e1 e2=>?_)
  .rw[mPq,mPq];have e1:((λn=>n.1)∘λn=>if n.1=key then %[n.1|d]else n)=λn=>n.1:=by
    funext n;change(if n.1=key then %[n.1|d]else n).1=n.1;split <;> rfl
   have e2:((λn=>n.1)∘λn=>if n.1=key then %[n.1|v]else n)=λn=>n.1:=by
    funext n;change(if n.1=key then %[n.1|v]else n).1=n.1;split <;> rfl
   rw[e1,e2];show h.1
  .rw[gMq]at e1 e2;have(t,u,rfl):=oMq.mp e1;have(z,x,rfl):=oMq.mp e2;have hk:=h.key u x;by_cases c:t.1=key;.rw[qF c,qF<|hk ▸ c];show r
   .rw[qL c,qL<|hk ▸ c];show h.2 i t z u x
 .show(by rw[mBq,mBq,h.1];rfl,λi a b e1 e2=>?_);by_cases hi:i<ds.length;.rw[gZq hi]at e1;rw[gZq<|h.len ▸ hi]at e2;show h.2 i a b e1 e2
  .have s:i=ds.length:=by have:=(gSq.mp e1).1;rw[lAq,lSq]at this;lia
   subst s;rw[gYq<|ae _,cA]at e1;rw[h.len,gYq<|ae _,cA]at e2;cases e1;cases e2;show r
noncomputable def BO:MK:=λS=>bj %[.owd []|S]
def aeb:SK K abx BO:=by intro H₀ n Hf S σ H x z B R e Q q;cases e;intro p s;have(t,R2,u,E,G):=R.new s;show q _ _ _ (.ref p) [p] t R2 (.owd pH u (rfl,λi d v h=>by simp at h))<|Dx.one R s
theorem rQ.owd(R:rQ K H₀ n Hf S σ H s)(h:S[i]?=bj (bj<|.owd ds)):∃p kvs,σ[i]?=bj (bj<|.ref p)/\s[i]?=bj [p]/\H p=bj (.dK kvs)/\Hf p=n_/\yJ K Hf ds kvs /\
  H₀ p=n_/\p∉(s.set i []).flatten:=by have(v,F,s1,s2,r,nd,o,_):=R.move h;have(p,kvs,rfl,rfl,t,u,x):=r.owd_inv;show(p,kvs,s1,s2,t,u,x,(o p ⋯).1,(o p ⋯).2)
def afI(hk:SK K te k)(hb:SR K tb b):SS K (Zq (xF i) tb te)<|B1 i b k:=by
 intro H₀ u Hf S σ H Fs o R e D h;have(x,e1,e):=oBq.mp e;have(a0,O,e):=oBq.mp e;have(y,e2,e):=oBq.mp e;have(P,Q,e):=oBq.mp e;have(key,T,e):=oBq.mp e;rcases rh e with⟨hl,e⟩|e
 .cases e;have z:SK K te<|yG k:=SK.frz hk;show z R e1 _ λU H1 Fs1 v F X L r1 o1=>?_;have(Y,_,s1,_):=L.owd<|Ay O;show(_,s1,hb L e2 _ λHf2 H2 Fs2 w M R2 r2=>?_);have(q',kv,n,B,E,G,s,I,J):=R2.owd<|Ay Q;rw[s1]at n;cases n;obtain⟨x1,t⟩:∃d,x.1 = .sh d:=by have(w,_,e):=oMq.mp e1;rw[←e];show(_,rfl)
  rw[t]at r1;have rv:=(r1.sh_inv.2).mono M.sf;have hw:=BB T r2;subst hw;show(Y,_,rfl,Xa.k E<|by rw[←s.len];show hl,h _ _ _ _ (X.sf.trans M.sf)<|R2.turn s1 B ⋯ (.owd pH G ?_) ⋯ λq hq=>by rw[mSq.mp hq];show(I,J));rw[t];show Qr s rv
 .cases e
def aoj(a b:ME):ME:=λS=>(a S).bind λx=>(b x.2).bind λy=>match y.1 with
 | .dict kvs=>(zt x.1).map λkey=>%[.bl (getD kvs key).isSome|y.2]
 |_=>n_
def wC(a b:ME):ME:=λS=>(a S).bind λx=>(b x.2).bind λy=>match y.1 with
 | .dict kvs=>(zt x.1).map λkey=>%[.bl<|!(getD kvs key).isSome|y.2]
 |_=>n_
def GJ(a b:ME):ME:=λS=>(a S).bind λx=>(b x.2).bind λy=>match x.1 with
 | .dict kvs=>(zt y.1).bind λkey=>(getD kvs key).map λd=>%[d|y.2]
 |_=>n_
def Yv(r:uG K H (.dict kvs) x)(e:getD kvs key=bj d):∃a v,x = .ref a/\K4 H a (kV key) (bj v)/\uG K H d v:=by have(p,u,rfl,n,s):=r.dict_inv;have g:=Hd (key:=key) s;rw[e]at g;have(v,t,g2):=g;show(p,v,rfl,by rw[←t];show K4.k n,g2)
def abB(r:uG K H (.dict kvs) x):∃a o,x = .ref a/\K4 H a (kV key) o/\o.isSome=(getD kvs key).isSome:=by have(p,u,rfl,n,s):=r.dict_inv;have g:=Hd (key:=key) s;show(p,_,rfl,K4.k n,?_);cases e:getD kvs key with
 |none=>rw[e]at g;rw[g];rfl
 |some d=>rw[e]at g;have(v,t,_):=g;rw[t];rfl
def YM(ha:SR K ta a)(hb:SR K tb b):SR K (PK ta tb)<|wC a b:=by
 intro H₀ n Hf S σ H L d M R e Q q;have(x,e1,e):=oBq.mp e;have(y,e2,e):=oBq.mp e;show ha R e1 _ λs O Fs1 P t u r1=>hb u e2 _ λz T Fs2 U B R2 r2=>?_;split at e
 .rename_i E G;rw[G]at r2;have(key,I,e):=oMq.mp e;cases e;have(p,o,rfl,J,g2):=abB r2;show(p,o,rfl,by rw[BB I r1];show J,?_);rw[g2];show q _ _ _ _ (t.trans B) R2 .bl
 .cases e
def afk(ha:SR K ta a)(hb:SR K tb b):SR K (aaX ta tb)<|GJ a b:=by
 intro H₀ n Hf S σ H M d O R e Q q;have(x,e1,e):=oBq.mp e;have(y,e2,e):=oBq.mp e;show ha R e1 _ λt P Fs1 T u z r1=>hb z e2 _ λB U Fs2 X s R2 r2=>?_;split at e;.rename_i E G;rw[G]at r1;have(key,I,e):=oBq.mp e;have(Y,J,e):=oMq.mp e;cases e;have(p,v,rfl,L,g2):=Yv (r1.mono s.sh) J;show(p,v,rfl,by rw[BB I r2];show L,q _ _ _ _ (u.trans s) R2 g2)
 .cases e
noncomputable def vw(x:Nat)(body:MS):List D->AS->Option Ng
 | [],S=>bj<|.nx S
 |d::ds,S=>(body<|S.set x<|bj<|.sh d).bind λo=>match o with
  | .nx S'=>vw x body ds S'
  | .ct S'=>vw x body ds S'
  | .bk S'=>bj<|.nx S'
  | .rt a=>bj<|.rt a
noncomputable def vT:D->Option (List D)
 | .list ds=>bj ds
 | .scr ns=>bj<|ns.map .int
 |_=>n_
def Fk(x:Nat)(k:MK)(body:MS):MS:=λS=>(yG k S).bind λy=>(vT<|pA y.1).bind λds=>vw x body ds y.2
noncomputable def sV(lo:Int)(n:Nat):List D:=(bQ n).map λi:Nat=>.int<|lo+i
def J9:List D->Option (List D)
 | [.int j]=>yP (-(2 ^ 62)<=j/\j<2 ^ 62)<|bj<|sV 0 j.toNat
 |_=>n_
def anp:List D->Option (List D)
 | [.int i,.int j]=>yP (-(2 ^ 62)<=i/\i<2 ^ 62/\-(2 ^ 62)<=j/\j<2 ^ 62)<|bj<|sV i (j-i).toNat
 |_=>n_
def DB(x:Nat)(a:ML)(body:MS):MS:=λS=>(a S).bind λy=>(J9 y.1).bind λds=>vw x body ds y.2
def aol(x:Nat)(a:ML)(body:MS):MS:=λS=>(a S).bind λy=>(anp y.1).bind λds=>vw x body ds y.2
noncomputable def SU(x y:Nat)(body:MS):Nat->List D->AS->Option Ng
 |_,[],S=>bj<|.nx S
 |i,d::ds,S=>(body<|(S.set x<|bj<|.sh<|.int i).set y<|bj<|.sh d).bind λo=>match o with
  | .nx S'=>SU x y body (i+1) ds S'
  | .ct S'=>SU x y body (i+1) ds S'
  | .bk S'=>bj<|.nx S'
  | .rt a=>bj<|.rt a
def alG(x y:Nat)(k:MK)(body:MS):MS:=λS=>(yG k S).bind λz=>(vT<|pA z.1).bind λds=>SU x y body 0 ds z.2
noncomputable def HV(x y:Nat)(body:MS):List D->List D->AS->Option Ng
 |d::ds,e::es,S=>(body<|(S.set x<|bj<|.sh d).set y<|bj<|.sh e).bind λo=>match o with
  | .nx S'=>HV x y body ds es S'
  | .ct S'=>HV x y body ds es S'
  | .bk S'=>bj<|.nx S'
  | .rt a=>bj<|.rt a
 |_,_,S=>bj<|.nx S
def Z1(x y:Nat)(k l:MK)(body:MS):MS:=λS=>(yG k S).bind λz=>(yG l z.2).bind λw=>(vT<|pA z.1).bind λds=>(vT<|pA w.1).bind λn=>if ds.length=n.length then HV x y body ds n w.2 else n_
noncomputable def wO(c:MT)(body:MS):Nat->MS
 |0,_=>n_
 |n+1,S=>(c S).bind λx=>if x.1=t_ then (body x.2).bind λo=>match o with
   | .nx S'=>wO c body n S'
   | .ct S'=>wO c body n S'
   | .bk S'=>bj<|.nx S'
   | .rt a=>bj<|.rt a
  else bj<|.nx x.2
def Bv(e:vT d=bj ds)(r:uG K H d v):∃a vs,v = .ref a/\vk K H a vs/\sI K H ds vs:=by cases d with
 |list t=>cases e;have(p,vs,rfl,n,s):=r.list_inv;show(p,vs,rfl,vk.of n,s)
 |scr ns=>cases e;cases r with
  |scr h=>show(_,_,rfl,h,Ag ns)
 |_=>cases e
def Ew{te:TE}(e:yG k S=bj z):∃d,z.1 = .sh d:=by have(w,_,e):=oMq.mp e;rw[←e];show(_,rfl)
def rQ.setD(R:rQ K H₀ n Hf S σ H s)i(r:uG K Hf d v):rQ K H₀ n Hf (S.set i<|bj<|.sh d) (σ.set i<|bj v) H<|s.set i []:=R.set i (.sh r) aW λq h=>(by cases h)
def OG(hk:SK K te k)(hb:SS K tb body):SS K (Xl (U8 K te) (xa x) tb)<|Fk x k body:=by
 intro H₀ E Hf S σ H Fs o R e D h;have(z,e1,e):=oBq.mp e;have(ds,e2,e):=oBq.mp e;have X:SK K te<|yG k:=SK.frz hk;show X R e1 _ λI H1 Fs1 v F t1 R1 r1 o1=>?_;have(d,hd):=Ew (te:=te) e1;rw[hd]at r1;rw[hd]at e2;have(a,vs,rfl,g1,g2):=Bv e2 r1.sh_inv.2;show(a,rfl,(vs,R1.sub.seq g1),RK (λi s Q=>∃n J t,rQ K H₀ E n J s Q t/\rB I n/\vw x body (ds.drop i) J=bj o) (I,z.2,Fs1,R1,.refl _,e)
  (λi s Q _ ⟨n,J,t,L,B,_⟩=>L.sub.seq<|B.seq g1) ?_ ?_);.rintro i w s Q hw ⟨n,J,t,L,B,G⟩;have(di,M,Y):=g2.get' hw;have hlt:=(gSq.mp M).1;rw[aS hlt]at G;have O:=(gSq.mp M).2;rw[O]at G;have(ob,e3,T):=oBq.mp G;show hb (L.setD x<|Y.mono B) e3 _ ?_;cases ob with
  |nx U=>show λu P H2 Fs2 s2 R2=>(u,U,Fs2,R2,B.trans s2,T)
  |ct U=>show λu P H2 Fs2 s2 R2=>(u,U,Fs2,R2,B.trans s2,T)
  |bk U=>cases T;show λu P H2 Fs2 s2 R2=>h _ _ _ _ ((t1.sf.trans B).trans s2) R2
  |rt a=>cases T;show h
 .rintro s Q ⟨n,J,t,L,B,G⟩;rw[←g2.1,cU]at G;cases G;show h _ _ _ _ (t1.sf.trans B) L
def WR{D}(hb:SS K tb body)(Y:rQ K H₀ s Hf1 Q σ U Fs1)(e:vw x body (sV lo n) Q=bj o)(h:HN K H₀ s Hf1 D o) :
  ∃W:Nat->Nat->St->Hp->Prop,(∃m,W 0 m σ U)/\∀i m σ H,W i m σ H ->
   ((Itr lo n).stop i H/\D.nx σ H)∨((Itr lo n).go i H/\∃N:St->Hp->Prop,(∀t u,N t u->∃X,X<m/\W (i+1) X t u)/\∀v u,(Itr lo n).yld i H v u->xa x v σ u λz L=>tb { D with nx:=N,ct:=N,bk:=D.nx } z L):=by
 show YF (λi t u=>∃B M G,rQ K H₀ s B M t u G/\rB Hf1 B/\vw x body ((sV lo n).drop i) M=bj o) (Hf1,Q,Fs1,Y,.refl _,e) ?_ ?_
 .rintro i t u hi ⟨B,M,G,R,J,I⟩;have S:i<(sV lo n).length:=by unfold sV;rw[lMq,bo];show hi
  rw[aS S]at I;have T:(sV lo n)[i] = .int (lo+i):=by simp[sV]
  rw[T]at I;have(ob,e3,O):=oBq.mp I;show hb (R.setD x .int) e3 _ ?_;cases ob with
  |nx P=>show λE z L Fs2 s2 R2=>(E,P,Fs2,R2,J.trans s2,O)
  |ct P=>show λE z L Fs2 s2 R2=>(E,P,Fs2,R2,J.trans s2,O)
  |bk P=>cases O;show λE z L Fs2 s2 R2=>h _ _ _ _ (J.trans s2) R2
  |rt a=>cases O;show h
 .rintro t u ⟨B,M,G,R,J,I⟩;have hl:(sV lo n).length=n:=by unfold sV;rw[lMq,bo]
  rw[cJ<|fj hl]at I;cases I;show h _ _ _ _ J R
set_option tactic.hygienic true in
def Lc(ha:SAr K s a)(hb:SS K tb body):SS K (Xl (Y8 s) (xa x) tb)<|DB x a body:=by
 intro H₀ n Hf S σ H L o R e D h;have(z,e1,e):=oBq.mp e;have(M,e2,e):=oBq.mp e;show ha R e1 _ λu O Fs1 P B E r1=>?_;unfold J9 at e2;split at e2
 .rename_i j G;rcases rh e2 with⟨t,e2⟩|e2;.cases e2;rw[G]at r1;have(v,Q,rfl,I,J):=r1.cons_inv;rw[J.nil_inv];cases I;show(j,rfl,t.1,t.2,WR hb E e<|h.mono B.sf)
  .cases e2
 .cases e2
def ae3(hk:SK K te k)(hl:SK K tf l)(hb:SS K tb body):SS K (Xl (alA K<|vB te<|vB tf xH) (aaO K 2<|Ji (xa x)<|Ji (xa y) aai) tb)<|Z1 x y k l body:=by
 intro H₀ G Hf S σ H Fs o R e D h;have(z,e1,e):=oBq.mp e;have(w,J,e):=oBq.mp e;have(ds,e2,e):=oBq.mp e;have(es,L,e):=oBq.mp e;split at e
 .rename_i M;have hk':SK K te<|yG k:=SK.frz hk;have hl':SK K tf<|yG l:=SK.frz hl;show hk' R e1 _ λHf1 H1 Fs1 v F t1 R1 r1 o1=>hl' R1 J _ λn H2 Fs2 v2 F2 t2 R2 r2 o2=>?_;have(d,hd):=Ew (te:=te) e1;have(d2,O):=Ew (te:=te) J;rw[hd]at r1;rw[hd]at e2;rw[O]at r2;rw[O]at L;have(a,vs,rfl,g1,g2):=Bv e2<|r1.sh_inv.2.mono t2.sf;have(b,ws,rfl,g3,g4):=Bv L r2.sh_inv.2;show(a,b,rfl,(vs,R2.sub.seq g1),(ws,R2.sub.seq g3),afC (λi B H'=>∃s P E,rQ K H₀ G s P B H' E/\rB n s/\HV x y body (ds.drop i) (es.drop i) P=bj o) (n,w.2,Fs2,R2,.refl _,e) (by rw[←g2.1,←g4.1,M])
   (λi B H' _ ⟨s,P,E,I,t,_⟩=>(I.sub.seq<|t.seq g1,I.sub.seq<|t.seq g3)) ?_ ?_);.rintro i u u' B H' T hu hu' ⟨s,P,E,I,t,Q⟩ hT;have(di,U,rw'):=g2.get' hu;have(ei,X,rw2):=g4.get' hu';have hlt:=(gSq.mp U).1;have Y:=(gSq.mp X).1;simp only[aS hlt,aS Y,(gSq.mp U).2,(gSq.mp X).2]at Q;have(ob,e3,e4):=oBq.mp Q;have R3:=(I.new (o:=.tup [u,u']) hT).2.1;show hb ((R3.setD x<|rw'.mono t).setD y<|rw2.mono t) e3 _ ?_;cases ob with
   |nx S2=>show λn σ2 H2 Fs2 s2 R2=>(n,S2,Fs2,R2,t.trans s2,e4)
   |ct S2=>show λn σ2 H2 Fs2 s2 R2=>(n,S2,Fs2,R2,t.trans s2,e4)
   |bk S2=>cases e4;show λn σ2 H2 Fs2 s2 R2=>h _ _ _ _ (((t1.sf.trans t2.sf).trans t).trans s2) R2
   |rt a=>cases e4;show h
  .rintro B H' ⟨s,P,E,I,t,Q⟩;have e0:ds.drop vs.length=[]:=by rw[←g2.1,cU]
   rw[e0]at Q;cases Q;show h _ _ _ _ ((t1.sf.trans t2.sf).trans t) I
 .cases e
def acJ{c}n(Y:LX K c m)(hb:SS K tb body):SS K (acq c tb)<|wO m body n:=by
 intro H₀ t Hf S σ H Fs o R e D h;show(λn I T=>∃s G B,rQ K H₀ t s G I T B/\rB Hf s/\wO m body n G=bj o,(n,Hf,S,Fs,R,.refl _,e),?_);rintro n I T ⟨s,G,B,R',L,U⟩;cases n with
 |zero=>cases U
 |succ n=>
  have(z,e1,e2):=oBq.mp U;show Y R' e1 _ λHf1 H1 Fs1 M X=>?_;split at e2
  .rename_i O;rw[O];show UC (λu J=>∃s G B,rQ K H₀ t s G u J B/\rB Hf s/\wO m body n G=bj o,λu J w=>(n,dA n,w),?_);have(ob,e3,P):=oBq.mp e2;show hb X e3 _ ?_;cases ob with
   |nx Q=>show λE u J Fs2 s2 R2=>(E,Q,Fs2,R2,(L.trans M.sf).trans s2,P)
   |ct Q=>show λE u J Fs2 s2 R2=>(E,Q,Fs2,R2,(L.trans M.sf).trans s2,P)
   |bk Q=>cases P;show λE u J Fs2 s2 R2=>h _ _ _ _ ((L.trans M.sf).trans s2) R2
   |rt a=>cases P;show h
  .rename_i O;rw[dC]at O;rw[O];cases e2;show Rv<|h _ _ _ _ (L.trans M.sf) X
noncomputable def tK(l n:Nat)(m:MS):MF:=λds=>if ds.length=l then (m<|ds.map (λd=>bj<|.sh d)++aC (n-ds.length) n_).bind λo=>match o with
  | .rt a=>bj a
  | .nx _=>bj<|.sh .non
  |_=>n_
 else n_
def M7{K}N(s:rB Hf H)(r:sI K Hf ds vs) :
  rQ K H Hf Hf (ds.map (λd=>bj<|.sh d)++aC (N.length-ds.length) n_) (L2.wc N vs) H<|aC (ds.length+(N.length-ds.length)) []:=by
 have fl:=we<|ds.length+(N.length-ds.length);show(by simp[L2.wc,r.1],by simp,λi x e=>?_,λi e=>?_,by rw[fl];show aW,λp l=>(by rw[fl]at l;cases l),s,rB.refl _,λb h Q=>h,rB.refl _)
 .by_cases hi:i<ds.length
  .rw[gZq<|by simpa using hi,gMq]at e;have(d,e1,e2):=oMq.mp e;cases e2;have(v,n,t):=r.get e1;show(v,[],?_,?_,.sh t)
   .unfold L2.wc;rw[gZq<|by simpa[←r.1]using hi,gMq,n];rfl
   .rw[bT,qF ∅]
  .rw[gYq<|by simpa using hi]at e;have:=mGq e;have u:=eY this;cases u
 .rw[bT];have hi:=(gSq.mp e).1;rw[lAq,lMq,bA]at hi;rw[qF hi]
def GY{K}N(h:SS K t m)(B:qQ K (tK z N.length m) vs H Q E):t { nx:=λZ u=>Q .non u,rt:=Q } (L2.wc N vs) H:=by
 have(Hf,L,a,s,r,e,q):=B;unfold tK at e;split at e;.have(o,e1,e2):=oBq.mp e;show h (M7 N s r) e1 _ ?_;cases o with
  |rt M=>cases e2;show λn u v F s1 s2 G l r nd fr=>q n u v F s1 s2 G l r nd fr
  |nx x=>cases e2;show λn I u J s1 R=>q n u .non [] R.sf R.fr R.sub R.lim (.sh .non) aW λq h=>(by cases h)
  |bk x=>cases e2
  |ct x=>cases e2
 .cases e
def N6(t:qQ K (tK l n m) vs H Q E):vs.length=l:=by
 have(Hf,u,a,s,r,e,q):=t;unfold tK at e;split at e;.rename_i h;rw[←r.1,h]
 .cases e
noncomputable def fzAll:Θ->AS->Option AS
 | [],S=>bj S
 |j::js,S=>(S[j]?.join).bind λa=>fzAll js<|S.set j<|bj<|.sh<|pA a
noncomputable def ai3:Option AV->Option AV
 |bj (.sh d)=>bj<|.sh d
 |_=>n_
def L3(S:AS):Θ->Option AS
 | []=>bj []
 |j::js=>(ai3 S[j]?.join).bind λa=>(L3 S js).map (bj a :: ·)
noncomputable def ui(l:MT)(te:MK)(cap:AS):List D->Option (List AV)
 | []=>bj []
 |d::ds=>(l<|bj (.sh d)::cap).bind λb=>if b.1=t_ then (te b.2).bind λa=>(ui l te cap ds).map (a.1 :: ·)else ui l te cap ds
abbrev MI:=AS->Option (List D×AS)
def Bu(k:MK):MI:=λS=>(yG k S).bind λy=>(vT<|pA y.1).map λds=>%[ds|y.2]
def iR1(a:ML):MI:=λS=>(a S).bind λy=>(J9 y.1).map λds=>%[ds|y.2]
def wH(l:MI)(fr:Θ)(s:MT)(te:MK):MK:=λS=>(l S).bind λy=>(fzAll fr y.2).bind λn=>(L3 n fr).bind λcap=>yP (y.1.length<=tL)<|(ui s te cap y.1).map λavs=>%[.ow avs|n]
def uS:MT:=λS=>bj %[t_|S]
def rQ.fz(R:rQ K H₀ Hf₀ Hf S σ H Fs)(e:S[j]?.join=bj a):∃Hf' Fs',Eh Hf H Fs Hf' H Fs'/\rQ K H₀ Hf₀ Hf' (S.set j<|bj<|.sh<|pA a) σ H Fs':=by
 have(v,F,s1,s2,r,nd,o,s):=R.move<|sF e;have n:=λq l=>(r.owned q l).2;have R2:=s.frz o n;have r2:=r.frozen (vc n) λq l=>Eg l;have t:=R2.again (F:=F) s1 (.sh r2) aW λq h=>(by cases h);show(_,_,(vc n,.refl _,λp u=>tP u,λb h g=>?_),t);by_cases m:b∈F;.show .inr<|mFq.mpr (F,mGq s2,m)
 .rw[zi m]at g;show absurd h g
theorem rQ.fzAll:∀{fr}{Hf}{S S'}{Fs},rQ K H₀ Hf₀ Hf S σ H Fs->fzAll fr S=bj S'->∃Hf' Fs',Eh Hf H Fs Hf' H Fs'/\rQ K H₀ Hf₀ Hf' S' σ H Fs'
 | [],Hf,S,S',Fs,R,e=>by cases e;show(Hf,Fs,.refl,R)
 |j::js,Hf,S,S',Fs,R,e=>by have(a,e1,e2):=oBq.mp e;have(n,Fs1,s,t):=R.fz e1;have(l,Fs2,u,R2):=rQ.fzAll t e2;show(l,Fs2,s.trans u,R2)
theorem RD(R:rQ K H₀ Hf₀ Hf S σ H Fs):∀{fr}{cap},L3 S fr=bj cap->cap.length=fr.length/\∀(k:Nat) a,cap[k]?=bj (bj a)->∃d v,a = .sh d/\(slots σ fr)[k]?=bj (bj v)/\uG K Hf d v
 | [],cap,e=>by cases e;show(rfl,λk a h=>by simp at h)
 |j::js,cap,e=>by
  have(a,e1,e2):=oBq.mp e;have(n,s,t):=oMq.mp e2;subst t;have(u,x):=RD R s;show(by simp[u],λk b hk=>?_);cases k with
  |zero=>cases hk;cases l:S[j]?.join with
   |none=>rw[l]at e1;cases e1
   |some c=>rw[l]at e1;cases c with
    |sh d=>cases e1;have(v,F,s1,s2,r):=R.rep j _<|sF l;show(d,v,rfl,?_,r.sh_inv.2);change bj ((σ[j]?).join)=_;rw[s1];rfl
    |_=>cases e1
  |succ k=>show x k b<|by show hk
def Xy(R:rQ K H₀ Hf₀ Hf S σ H Fs)(e:L3 S fr=bj cap)(s:uG K Hf d x) :
  rQ K H₀ Hf₀ Hf (bj (.sh d)::cap) (bj x::slots σ fr) H<|aC (cap.length+1) []:=by
 have(t,u):=RD R e;have fl:=we<|cap.length+1;show(by simp[slots,t],by simp,λi z l=>?_,λi l=>?_,by rw[fl];show aW,λp n=>(by rw[fl]at n;cases n),R.sub,R.fr,R.lim,R.sf);.cases i with
  |zero=>cases l;show(x,[],rfl,by rfl,.sh s)
  |succ k=>
   have hk:=(gSq.mp<|by show l).1;have(B,v,rfl,s1,r):=u k z<|by show l
   show(v,[],by show s1,by rw[bT,qF<|by rfl'],.sh r)
 .rw[bT];have hi:=(gSq.mp l).1;rw[qF<|by show hi]
def rQ.updOut(R:rQ K H₀ Hf₀ Hf S σ H Fs)(l:p∉Fs.flatten)(n:Hf p=n_)(s:H₀ p=n_):rQ K H₀ Hf₀ Hf S σ (rO H p o) Fs where
 len:=R.len
 lenF:=R.lenF
 rep:=λi t e=>by have(v,F,s1,s2,r):=R.rep i t e;show(v,F,s1,s2,r.keepUpd λm=>l<|sO s2 m)
 emp:=R.emp
 nd:=R.nd
 fresh:=R.fresh
 sub:=λb u e=>by
  rw[pB λz=>by rw[z,n]at e;cases e];show R.sub b u e
 fr:=λb u e=>by
  rw[pB λz=>by rw[z,s]at e;cases e];show R.fr b u e
 lim:=R.lim
 sf:=R.sf
def rQ.outer(R:rQ K H₀ Hf₀ Hf S σ H Fs)(E:rQ K H₀ Hf₀ l I u s n)(t:Eh Hf H Fs2 l s n)(J:Fs2.flatten=[]):Eh Hf H Fs l s Fs/\rQ K H₀ Hf₀ l S σ s Fs:=by
 have g:=λb x B=>by
  by_cases e:l b=n_;.show e
  .rcases t.gr b x e with z|z;.show absurd z B
   .rw[J]at z;cases z
 show((t.sf,t.sh,λQ h=>h,λb x B=>.inl (by
  by_cases e:H b=n_;.show e
  .show absurd (g b x e) B)),R.more t.sh t.sf E.sub (λq G=>g q (R.mem G).2 (R.mem G).1) E.lim)
def Xi{rest}{N:Hp->Prop}(hf:LX K tf mf)(he:SK K te me)
  (R:rQ K H₀ n Hf S1 σ H Fs1) (t:Eh Hf1 O Fs1 Hf H Fs1) (ha:H l=bj (.lst vs)) (hfa:Hf l=n_) (ra:qX K Hf H as vs P) (ow:Dx H₀ O Fs1 Fs1<|l::P.flatten) (la:as.length<=i) (hlm:as.length<tL) (ea:avs=as++rest)
  (Ri:rQ K H₀ n Hf Si J H<|aC nn []) (er:((mf Si).bind λb=>if b.1=t_ then (me b.2).bind λa=>nx.map (a.1 :: ·)else nx)=bj rest) (Q:O l=n_) (n2:H₀ l=n_) (n3:l∉Fs1.flatten)
  (hN:∀{Hf H}{as}{vs}{P}{rest},rQ K H₀ n Hf S1 σ H Fs1->Eh Hf1 O Fs1 Hf H Fs1->H l=bj (.lst vs)->Hf l=n_->qX K Hf H as vs P->Dx H₀ O Fs1 Fs1 (l::P.flatten)->as.length<=i+1->nx=bj rest->avs=as++rest->N H) :
  tf J H λb Y=>if b=t_ then te J Y λy H3=>∃ys,H3 l=bj (.lst ys)/\ys.length<ky/\N (rO H3 l<|.lst<|ys++[y])else N Y:=by
 have(b,e1,e2):=oBq.mp er;have fl:=we nn;show hf Ri (b:=b.1) (S':=b.2) e1 _ λS Y Fs2 t2 R2=>?_;have(B,L):=R.outer R2 t2 fl;have u:Y l=bj (.lst vs):=t2.sh _ _ ha;have E:S l=n_:=by
  by_cases z:S l=n_;.show z
  .rcases t2.gr l hfa z with z|z;.rw[ha]at z;cases z
   .rw[fl]at z;cases z
 have M:=ra.stp (λq x=>ow.out q<|mCo _ x) B;split at e2
 .rename_i hb;rw[hb];have(a,e3,e4):=oBq.mp e2;have(rest',e5,e6):=oMq.mp e4;subst e6;show he R2 e3 _ λT H3 Fs3 v F t3 R3 r3 o3=>?_;have fl2:Fs2.flatten=[]:=by cases hz:Fs2.flatten with
   |nil=>rfl
   |cons z zs=>
    have:=t2.own z<|by rw[hz];simp
    rw[fl]at this;cases this
  have(U,R3'):=L.outer R3 t3 fl2;have ha3:=t3.sh _ _ u;have G:T l=n_:=by
   by_cases z:T l=n_;.show z
   .rcases t3.gr l E z with z|z;.rw[u]at z;cases z
    .rw[fl2]at z;cases z
  have ra3:=M.stp (λq x=>ow.out q<|mCo _ x) U;have s:=λq x=>(o3.new q x).elim id λz=>by rw[fl2]at z;cases z
  have I:l∉F:=λm=>by rw[s l m]at u;cases u
  have X:=(aJ.mp ow.nd).1;have tt:=(t.trans B).trans U;show(vs,ha3,?_,?_);.rw[FC,←ra.1];rfl'
  .show hN (R3'.updOut n3 G n2) (tt.sf,λb o eb=>?_,λZ h=>h,tt.gr) pH G ((ra3.keepUpd X).snoc<|r3.keepUpd I) ?_ (by rw[lAq,lSq];rfl') e5<|by rw[ea];simp
   .rw[pB λz=>by rw[z,Q]at eb;cases eb];show tt.sh b o eb
   .rw[fAq,aK];have oF:Dx H₀ O Fs1 Fs1 F:=(o3.nd,o3.fr,λq x m=>(L.mem m).1<|s q x,λq x=>.inl<|(t.trans B).sh.free<|s q x);show(ow.app oF λq x m=>?_);rcases ag.mp x with z|z;.rw[z]at m;show I m
    .show(M.owned q z).1<|s q m
 .rename_i hb;rw[dC]at hb;rw[hb];show Rv<|hN L (t.trans B) u E M ow (by rfl') e2 ea
def Ni{J:It}{Q:VK}(hf:LX K tf mf)(he:SK K te me)
  (R1:rQ K H₀ s Hf1 I σ B Fs1) (ec:L3 I fr=bj cap) (hl:ds.length<=tL) (e:ui mf me cap ds=bj avs)
  (O:∀i H,rB Hf1 H->i<ds.length->J.go i H) (S:∀H,rB Hf1 H->J.stop ds.length H) (hy:∀i H x n,rB Hf1 H->i<ds.length->J.yld i H x n->n=H/\∃d,ds[i]?=bj d/\uG K Hf1 d x)
  (q:∀E n v F,Eh Hf1 B Fs1 E n Fs1->rQ K H₀ s E I σ n Fs1->rP K E n (.ow avs) v F->Dx H₀ B Fs1 Fs1 F->Q v n) :
  ∀l,B l=n_->∃W:Nat->Nat->Hp->Prop,(∃m,W 0 m<|rO B l<|.lst [])/\∀i m H,W i m H ->
   (J.stop i H/\Q (.ref l) H) ∨
   (J.go i H/\∃N:Hp->Prop,(∀n,N n->∃m',m'<m/\W (i+1) m' n)/\∀x n,J.yld i H x n->tf (bj x::slots σ fr) n λb H2=>if b=t_ then te (bj x::slots σ fr) H2 λy H3=>∃T,H3 l=bj (.lst T)/\T.length<ky/\N (rO H3 l<|.lst<|T++[y])else N H2):=by
 intro l u;have(t0,R0,n1,n2,n3):=R1.new u;let P:=λi H=>∃Hf L U X rest,rQ K H₀ s Hf I σ H Fs1/\Eh Hf1 B Fs1 Hf H Fs1/\H l=bj (.lst U)/\Hf l=n_/\qX K Hf H L U X/\Dx H₀ B Fs1 Fs1 (l::X.flatten)/\L.length<=i /\
  ui mf me cap (ds.drop i)=bj rest/\avs=L++rest;show(λi m H=>m=ds.length-i/\i<=ds.length/\P i H,(ds.length,by simp,aY _,Hf1,[],[],[],avs,R0,t0,pH,n1,.nil,Dx.one R1 u,aY _,e,rfl),?_);rintro i m H ⟨rfl,hi,Hf,L,U,X,rest,R,t,ha,G,ra,ow,la,M,Y⟩;have hs:=t.sf.trans R.sub;by_cases z:i<ds.length
 .show .inr (O i H hs z,P<|i+1,λn p=>(ds.length-(i+1),by omega,rfl,z,p),λx n y=>?_);have(rfl,d,hd,rx):=hy i H x n hs z y;rw[aS z,(gSq.mp hd).2]at M;show Xi hf he R t ha G ra ow la ∅ Y (Xy R ec<|rx.mono t.sf) M u n2 n3 λa b c d e f g h i=>(_,_,_,_,_,a,b,c,d,e,f,g,h,i)
 .have e0:i=ds.length:=by rfl'
  subst e0;rw[cU]at M;cases M;rw[aNq]at Y;subst Y;show .inl (S H hs,q Hf H (.ref l) _ t R (rP.news ha G ra) ow)
def AI(hk:SK K tl k)(J:LX K tf mf)(L:SK K te me):SK K (Vl (U8 K tl) fr tf te)<|wH (Bu k) fr mf me:=by
 intro H₀ u Hf S σ H Fs av S' R e Q q;have(y,e1,e):=oBq.mp e;have(z,G,e1):=oBq.mp e1;have(ds,e2,e1):=oMq.mp e1;subst e1;have(S2,M,e):=oBq.mp e;have(O,P,e):=oBq.mp e;rcases rh e with⟨hl,e⟩|e
 .have(T,U,e):=oMq.mp e;cases e;have B:SK K tl<|yG k:=SK.frz hk;show B R G _ λX H1 Fs1 v F I Y r1 o1=>?_;have(d,hd):=Ew (te:=tl) G;rw[hd]at r1;rw[hd]at e2;have(Hf2,Fs2,E,R2):=Y.fzAll M;have(a,l,rfl,n,g2):=Bv e2<|r1.sh_inv.2.mono E.sf;show(a,rfl,(l,R2.sub.seq n),Ni J L R2 P hl U (λi H s hi=>(l,l[i]'(g2.1 ▸ hi),s.seq n,gEg<|g2.1 ▸ hi)) (λH s=>(l,s.seq n,fj g2.1.symm)) (λi H x H' s hi y=>?_) λHf' H' v F t R' r o=>q _ _ _ v F ((I.trans E).trans t) R' r<|o.back<|I.trans E);have(y1,y2):=y;have(di,h1,h2):=g2.get'<|y2 l<|s.seq n;show(y1,di,h1,h2)
 .cases e
def Gf(h:i<n):(sV lo n)[i]?=bj (.int<|lo+i):=by unfold sV;rw[gMq,eX h];rfl
def uJ(lo)n:(sV lo n).length=n:=by unfold sV;rw[lMq,bo]
set_option tactic.hygienic true in
def XJ(ha:SAr K n a)(G:LX K tf mf)(I:SK K te me):SK K (Vl (Y8 n) fr tf te)<|wH (iR1 a) fr mf me:=by
 intro H₀ l Hf S σ H Fs av S' R e Q q;have(y,e1,e):=oBq.mp e;have(z,J,e1):=oBq.mp e1;have(ds,e2,e1):=oMq.mp e1;subst e1;have(S2,L,e):=oBq.mp e;have(M,O,e):=oBq.mp e;rcases rh e with⟨hl,e⟩|e
 .have(P,T,e):=oMq.mp e;cases e;show ha R J _ λU H1 Fs1 vs u X r1=>?_;unfold J9 at e2;split at e2
  .rename_i j Y;rcases rh e2 with⟨B,e2⟩|e2
   .cases e2;rw[Y]at r1;have(v,ws,rfl,h1,h2):=r1.cons_inv;rw[h2.nil_inv];cases h1;have(Hf2,Fs2,E,R2):=X.fzAll L;show(j,rfl,B.1,B.2,Ni G I R2 O hl T (λi H s hi=>(by rw[uJ]at hi;show hi)) (λH s=>(by rw[uJ];show ae _)) (λi H x H' s hi y=>?_) λHf' H' v F t R' r o=>q _ _ _ v F ((u.trans E).trans t) R' r<|o.back<|u.trans E);have(y1,y2):=y;rw[uJ]at hi;show(y1,_,Gf hi,by rw[y2];show .int)
   .cases e2
  .cases e2
 .cases e
def Gi:LX K amK uS:=by intro H₀ l Hf S σ H n b s R e Q q;cases e;show q _ _ _ .refl R
mutual
noncomputable def py:D->Option PyData
 | .non=>bj .none
 | .bl b=>bj<|.bool b
 | .int i=>bj<|.int i
 | .str x=>bj<|.str x
 | .list ds=>(pyL ds).map .list
 | .tup ds=>(pyL ds).map .tuple
 |_=>n_
noncomputable def pyL:List D->Option (List PyData)
 | []=>bj []
 |d::ds=>(py d).bind λx=>(pyL ds).map (x :: ·)
end
noncomputable def Zd(d e:D):Option D:=(py d).bind λa=>(py e).bind λb=>if SeqAt.shaped a=t_/\SeqAt.shaped b=t_/\SeqAt.noMix a b=t_ then bj (.bl<|PySem.Spec.same a b)else n_
def apf(d e:D):Option D:=(Zd d e).bind Yr
noncomputable abbrev dI(ns:Ϝ):D:=.list<|ns.map .int
abbrev dM(rs:Λ):D:=.list<|rs.map dI
def Zu(ns:Ϝ):pyL (ns.map .int)=bj (ns.map PyData.int):=by induction ns with
 |nil=>rfl
 |cons n ns l=>simp[pyL,py,l]
def ajG ns:py (dI ns)=bj (BP ns):=by simp only[py,Zu];rfl
def Y0(rs:Λ):pyL (rs.map dI)=bj (rs.map BP):=by induction rs with
 |nil=>rfl
 |cons r rs l=>change pyL (dI r::rs.map dI)=_;simp only[pyL,ajG,l];rfl
def alm rs:py (dM rs)=bj (Lv rs):=by simp only[py,Y0];rfl
def Lw r:SeqAt.shaped (BP r)=t_:=by
 have n:=W.depthAll_ints r;have l:PyData.depth (BP r)<=64:=by simp only[BP,PyData.depth];lia
 change(PyData.canLay0 (BP r) && decide (PyData.depth (BP r)<=64))=t_;rw[cS];show(by show W.canLayAll0_ints r,d0 l)
@[simp] theorem an8 ns ms:Zd (dI ns) (dI ms)=bj (.bl<|decide<|ns=ms):=by
 unfold Zd;rw[ajG,ajG];change(if _ then _ else _)=_;rw[qF (Lw ns,Lw ms,by show W.noMix_ints ns ms)];simp only[BP,PySem.Spec.same,W.same_ints]
@[simp] theorem anl rs l:Zd (dM rs) (dM l)=bj (.bl<|decide<|rs=l):=by
 unfold Zd;rw[alm,alm];change(if _ then _ else _)=_;rw[qF (Js rs,Js l,by show K8 rs l)];simp only[Lv,PySem.Spec.same,M1]
noncomputable def Dk(l:ML):MK:=λS=>(l S).map λx=>%[.ow<|x.1.map .sh|x.2]
def U0(l:ML):MK:=λS=>(l S).bind λx=>(vt x.1).map λns=>%[.ow<|(Ga ns).map λn=>.sh<|.int n|x.2]
def AB:List D->Option Λ
 | []=>bj []
 | .list ds::es=>(vt ds).bind λr=>(AB es).map (r :: ·)
 |_=>n_
theorem EM:∀{ds}{rs},AB ds=bj rs->ds=rs.map dI
 | [],rs,h=>by cases h;rfl
 |d::ds,rs,h=>by cases d with
  |list t=>have(r,l,h):=oBq.mp<|h;have(u,n,s):=oMq.mp h;subst s;rw[EM n,BJ l];rfl
  |_=>cases h
@[simp] theorem TU rs:AB (rs.map dI)=bj rs:=by induction rs with
 |nil=>rfl
 |cons r rs l=>
  change(vt<|r.map .int).bind (λr=>(AB<|rs.map dI).map (r :: ·))=_;rw[vV,l];rfl
def an6(l:ML):MK:=λS=>(l S).bind λx=>(AB x.1).map λrs=>%[.ow<|(AO rs).map λr=>.sh<|dI r|x.2]
def Pf(hl:SQ K te l):SK K (tCB (λxs H Q=>∃p n,xs=[.ref p]/\(vk K H p n∨FF K H p n)/\∀l,H l=n_->Q (.ref l) (rO H l<|.lst n))<|vB te xH)<|Dk l:=by
 intro H₀ s Hf S σ H O P T R e Q q;have(x,e1,e):=oMq.mp e;cases e;show hl R e1 _ λE U Fs1 G t u z I r1=>(G,t,rfl,.inl I,λp B=>?_);have(J,L,M,X,Y):=z.new B;show q _ _ _ (.ref p) [p] (u.trans J) L (rP.new pH M r1)<|(Dx.one z B).back u
def IV(ns:Ϝ):(ns.map λn=>AV.sh<|.int n)=(ns.map D.int).map .sh:=by rw[mPq];rfl
def abb(hl:SQ K te l):SK K (tCB (λxs H Q=>∃a ns,xs=[.ref a]/\vk K H a (ns.map V.int)/\∀p,H p=n_->Q (.ref p) (rO H p<|.lst<|(Ga ns).map V.int))<|vB te xH)<|U0 l:=by
 intro H₀ n Hf S σ H M O P R e Q q;have(x,e1,e):=oBq.mp e;have(ns,e2,e):=oMq.mp e;cases e;show hl R e1 _ λB T Fs1 E G s t u r1=>?_;rw[BJ e2]at r1;rw[xj r1]at u;show(E,ns,rfl,u,λp z=>?_);have(I,J,L,U,X):=t.new z;rw[IV]at q;show q _ _ _ (.ref p) [p] (s.trans I) J (rP.new pH L<|Ag _)<|(Dx.one t z).back s
theorem zg:∀{rs}{vs},sI K H (rs.map dI) vs->∃ps,vs=ps.map V.ref/\uB H ps rs
 | [],vs,h=>([],h.nil_inv,.nil)
 |r::rs,vs,h=>by have(v,z,rfl,s,t):=sI.cons_inv h;have(p,us,rfl,n,u):=s.list_inv;rw[xj u]at n;have(ps,rfl,x):=zg t;show(p::ps,rfl,uB.cons_iff.mpr (n,x))
noncomputable def tyD:String->D->Bool
 |T,.list _=>T == "list"
 |T,.scr _=>T == "list"
 |T,.str _=>T == "str"
 |_,_=>f_
def rBM(T:String)(f:D->List D->Option D)(a:ME)(as:ML):ME:=λS=>(a S).bind λx=>if tyD T x.1=t_ then (as x.2).bind λy=>(f x.1 y.1).map λd=>%[d|y.2]else n_
def BmD(K:Ζ)(r:V->List V->Hp->VK->Prop)(f:D->List D->Option D):Prop:=∀{x}{vs}{H}{Q}{l}{ds}{d},uG K H l x->sI K H ds vs->f l ds=bj d->(∀v,uG K H d v->Q v H)->r x vs H Q
set_option tactic.hygienic true in
def ajg(h:tyD T d=t_)(s:uG K H d v):tyV K T v H:=by
 cases s <;> simp only[tyD]at h;all_goals first|(simp at h;done)|skip
 .show eq_of_beq h
 .rename_i p t u n l e;show .inl (eq_of_beq h,t,vk.of n)
 .rename_i p ns n;show .inl (eq_of_beq h,_,n)
def al3(hr:BmD K r f)(ha:SR K te a)(s:SAr K ta as):SR K (Vu K T r te ta)<|rBM T f a as:=by
 intro H₀ l Hf S σ H L d M R e Q q;have(x,e1,e):=oBq.mp e;split at e
 .rename_i t;have(y,e2,e):=oBq.mp e;have(z,u,e):=oMq.mp e;cases e;show ha R e1 _ λB O Fs1 v E G r1=>(ajg t r1,s G e2 _ λI P Fs2 U n R2 r2=>?_);show hr (r1.mono n.sh) r2 u λv J=>q _ _ _ v (E.trans n) R2 J
 .cases e
def C1:D->List D->Option D
 | .list ds,[.int k]=>(vt ds).bind λns=>if k∈ns then bj<|.int (ns.idxOf k:Nat)else n_
 |_,_=>n_
set_option tactic.hygienic true in
def acu:BmD K (abi K) C1:=by
 intro x B H Q E G d l s e q;unfold C1 at e;split at e
 .rename_i I k;have(ns,e1,e):=oBq.mp e;split at e;.rename_i hk;cases e;have(v,J,rfl,t,u):=s.cons_inv;rw[u.nil_inv];cases t;rw[BJ e1]at l;have(p,us,rfl,n,z):=l.list_inv;rw[xj z]at n;show(p,ns,k,rfl,rfl,vk.of n,hk,q _ .int)
  .cases e
 .cases e
def acp(a:ME):ME:=λS=>(a S).bind λx=>match x.1 with
 | .list ds=>(AB ds).map λrs=>%[.int (rs.countP (·=([]:Ϝ)):Nat)|x.2]
 |_=>n_
def afF(ha:SR K te a):SR K (Vu K "list" acV te<|vB (Z7 xH) xH)<|acp a:=by
 intro H₀ l Hf S σ H M d O R e Q q;have(x,e1,e):=oBq.mp e;show ha R (d:=x.1) (S':=x.2) e1 _ λu z Fs1 v B E r1=>?_;split at e
 .rename_i P G;have(I,e2,e):=oMq.mp e;cases e;rw[G,EM e2]at r1;have(p,us,rfl,n,J):=r1.list_inv;have(ps,rfl,s):=zg J;show(.inl (rfl,_,vk.of n),aY _,λb hb=>?_);have(t,L,U,X,Y):=E.new (o:=.lst []) hb;show(p,b,ps,I,[],rfl,rfl,(by rw[pB<|tZ n hb];show n),s.same t.sh,pH,s.free (H:=z) hb,q _ _ _ _ (B.trans t) L .int)
 .cases e
noncomputable def Mz:D->Option Bool
 | .non=>bj f_
 | .bl b=>bj b
 | .int i=>bj<|i != 0
 | .list ds=>bj<|!ds.isEmpty
 | .tup ds=>bj<|!ds.isEmpty
 | .dict ds=>bj<|!ds.isEmpty
 |_=>n_
def R5(a:ME):MT:=λS=>(a S).bind λx=>(Mz x.1).map λb=>%[b|x.2]
def DJ{α β:Type}{xs:List α}{l:List β}(h:xs.length=l.length):(!xs.isEmpty) = !l.isEmpty:=by cases xs <;> cases l <;> simp at h ⊢
def Zt(ha:SR K te a):LX K (λσ H Q=>te σ H λx t=>∃k,ai5 K x t k/\Q k t)<|R5 a:=by
 intro H₀ s Hf S σ H G b I R e Q q;have(x,e1,e):=oBq.mp e;have(c,e2,e):=oMq.mp e;cases e;show ha R e1 _ λu J Fs1 v z B r1=>(_,?_,q _ _ _ z B);cases E:x.1 <;> rw[E]at e2 r1 <;> simp only[Mz]at e2;all_goals first|(simp at e2;done)|skip
 .cases r1;cases e2;rfl
 .cases r1;cases e2;rfl
 .cases r1;cases e2;rfl
 .have(p,us,rfl,l,n):=r1.list_inv;cases e2;show .inl (us,vk.of l,DJ n.1)
 .have(p,us,rfl,l,n):=r1.tup_inv;cases e2;show .inr<|.inl (us,FF.of l,DJ n.1)
 .have(p,us,rfl,l,n):=r1.dict_inv;cases e2;show .inr<|.inr (us,l,DJ n.len)
noncomputable def sH:AV->Θ->Option (List AV)
 | .ow avs,[]=>bj avs
 | .ow avs,j::js=>(avs[j]?).bind λa=>sH a js
 |_,_=>n_
noncomputable def putAt:AV->Θ->List AV->AV
 | .ow _,[],as=>.ow as
 | .ow avs,j::l,as=>match avs[j]? with
  |bj a=>.ow<|avs.set j<|putAt a l as
  |n_=>.ow avs
 |a,_,_=>a
def Pb(H:Hp):V->Θ->V->Prop
 |v,[],w=>v=w
 |v,j::js,w=>∃p vs u,v = .ref p/\H p=bj (.lst vs)/\vs[j]?=bj u/\Pb H u js w
section
variable {S:AS}
theorem Dl:∀{Fs:List Δ}{F G}i,Fs.flatten.Nodup->Fs[i]?=bj G->F.Nodup->(∀p∈F,p∈G∨p∉Fs.flatten)->(Fs.set i F).flatten.Nodup
 | [],F,G,i,h,e,_,_=>by simp at e
 |E::Gs,F,G,0,h,e,hF,hd=>by
  simp at e;subst e;rw[fh,fCq,nAq];rw[fCq,nAq]at h;show(hF,h.2.1,λa ha b hb e=>?_);subst e;rcases hd a ha with z|z;.show h.2.2 a z a hb rfl
  .show z<|by show aH _ hb
 |E::Gs,F,G,i+1,h,e,hF,hd=>by
  rw[gG,fCq,nAq];rw[fCq,nAq]at h;have l:=by show e
  show(h.1,Dl i h.2.1 l hF λp n=>(hd p n).imp id λz m=>z<|by show aH _ m,λa ha b hb e=>?_);subst e;rcases vW hb with q|q
  .rcases hd a q with z|z;.show h.2.2 a ha a (mFq.mpr (G,mGq l,z)) rfl
   .show z<|by show cx _ ha
  .show h.2.2 a ha a q rfl
theorem KN:∀{Fs:List Δ}{F G}{i j:Nat}{p},Fs.flatten.Nodup->Fs[i]?=bj F->Fs[j]?=bj G->i≠j->p∈F->p∉G
 | [],F,G,i,j,p,_,e,_,_,_,_=>by simp at e
 |E::Es,F,G,0,0,p,h,e,f,n,_,_=>n rfl
 |E::Es,F,G,0,j+1,p,h,e,f,n,hp,m=>by simp at e;subst e;rw[fCq,nAq]at h;show h.2.2 p hp p (mFq.mpr (G,mGq<|by show f,m)) rfl
 |E::Es,F,G,i+1,0,p,h,e,f,n,hp,m=>by simp at f;subst f;rw[fCq,nAq]at h;show h.2.2 p m p (mFq.mpr (F,mGq<|by show e,hp)) rfl
 |E::Es,F,G,i+1,j+1,p,h,e,f,n,hp,m=>by rw[fCq,nAq]at h;show KN h.2.1 (by show e) (by show f) (λz=>n<|by rw[z]) hp m
theorem rP.path:∀{path}{M}{v}{F}{as},rP K Hf H M v F->F.Nodup->sH M path=bj as->∃p vs J,Pb H v path (.ref p)/\H p=bj (.lst vs)/\Hf p=n_/\qX K Hf H as vs J/\p∈F/\p∉J.flatten/\J.flatten.Nodup/\(∀q∈J.flatten,q∈F) /\
  ∀t s l,qX K Hf (rO H p<|.lst s) t s l->(p::l.flatten).Nodup->(∀q∈l.flatten,q∈J.flatten∨q∉F)->∃F',rP K Hf (rO H p<|.lst s) (putAt M path t) v F'/\F'.Nodup/\∀q∈F',q∈F∨q∈l.flatten
 | [],M,v,F,as,r,nd,e=>by cases M with
  |ow u=>
   cases e;have(p,vs,J,rfl,rfl,U,X,E):=r.ow_inv;have n:=aJ.mp nd;show(p,vs,J,rfl,U,X,E,by simp,n.1,n.2,λq B=>mCo _ B,λt s l r' O Z=>(p::l.flatten,rP.news pH X r',O,λq B=>?_));rcases ag.mp B with z|z;.show .inl<|by rw[z];simp
   .show .inr z
  |_=>cases e
 |j::js,M,v,F,as,r,nd,e=>by cases M with
  |ow u=>
   have(a,e1,e2):=oBq.mp<|show(u[j]?).bind (λa=>sH a js)=bj as from e;have(L,I,Gs0,rfl,rfl,U,X,E):=r.ow_inv;have n:=aJ.mp nd;have Q:j<u.length:=(gSq.mp e1).1;have Y:I[j]?=bj (I[j]'(E.1 ▸ Q)):=gEg _;have R:Gs0[j]?=bj (Gs0[j]'(E.2.1 ▸ Q)):=gEg _;generalize I[j]'(E.1 ▸ Q)=vj at Y;generalize Gs0[j]'(E.2.1 ▸ Q)=Fj at R;have rj:=E.2.2 j a vj Fj e1 Y R;have ndj:Fj.Nodup:=bD.sublist (aN<|mGq R) n.2;have sub:∀q∈Fj,q∈Gs0.flatten:=λq B=>sO R B;have(p,vs,J,g1,g2,g3,g4,g5,g6,g6',g7,g8):=rP.path rj ndj e2;have pne:L≠p:=λz=>n.1<|z ▸ sub p g5;show(p,vs,J,(L,I,vj,rfl,U,Y,g1),g2,g3,g4,mCo _<|sub p g5,g6,g6',λq B=>mCo _<|sub q<|g7 q B,λt s l r' O hd=>?_);have(F',k1,k2,k3):=g8 t s l r' O λq B=>(hd q B).imp id λz m=>z<|mCo _<|sub q m;have hF':∀q∈F',q∈Fj∨q∉Gs0.flatten:=λq B=>by
    rcases k3 q B with z|z;.show .inl z
    .rcases hd q z with y|y;.show .inl<|g7 q y
     .show .inr λm=>y<|mCo _ m
   show(L::(Gs0.set j F').flatten,?_,aJ.mpr (λm=>?_,Dl j n.2 R k2 hF'),λq B=>?_)
   .change rP K Hf (rO H p<|.lst s) (match u[j]? with|bj a=>.ow<|u.set j<|putAt a js t|n_=>.ow u) (.ref L) _;rw[e1];show .ow (vs:=I) (by rw[pB pne];show U) X (by rw[lZq];show E.1) (by rw[lZq,lZq];show E.2.1) λi b w G q1 q2 T=>?_;rw[bx]at q1 T;by_cases P:j=i;.subst P;rw[qF rfl,qF Q]at q1;rw[qF rfl,qF<|E.2.1 ▸ Q]at T;rw[Y]at q2;cases q1;cases q2;cases T;show k1
    .rw[qL P]at q1 T;show(E.2.2 i b w G q1 q2 T).keepUpd λm=>KN n.2 R T P g5 m
   .rcases vW m with z|z
    .rcases k3 L z with y|y;.show n.1<|sub L y
     .rcases hd L y with x|x;.show n.1<|sub L<|g7 L x
      .show x ⋯
    .show n.1 z
   .rcases ag.mp B with z|z;.show .inl<|by rw[z];simp
    .rcases vW z with z|z;.show(k3 q z).imp (λy=>mCo _<|sub q y) id
     .show .inl<|mCo _ z
  |_=>cases e
def rQ.turnAny(R:rQ K H₀ Hf₀ Hf S σ H Fs)(s1:σ[i]?=bj (bj v))(s2:Fs[i]?=bj F)(s:p∈F)(r:rP K Hf (rO H p o) B v F')(nd:F'.Nodup)
  (I:∀q∈F',H₀ q=n_/\q∉(Fs.set i []).flatten):rQ K H₀ Hf₀ Hf (S.set i<|bj B) σ (rO H p o)<|Fs.set i F':=by
 have t:=mFq.mpr (F,mGq s2,s);have pn:=(R.mem t).2;have J:=R.fresh p t;have out:=yr R.nd s2 s;have L:rQ K H₀ Hf₀ Hf (S.set i n_) σ (rO H p o)<|Fs.set i []:=by
  show(by simp[R.len],by simp[R.lenF],λj a n=>?_,λj n=>?_,uI i R.nd aW (λp s=>by cases s),λp s=>R.fresh p<|tP s,λb u e=>?_,λb u e=>?_,R.lim,R.sf)
  .rw[bx]at n;by_cases l:i=j;.subst l;rw[qF rfl]at n;split at n <;> cases n
   .rw[qL l]at n;have(w,G,M,E,q):=R.rep j a n;show(w,G,M,by rw[ay l];show E,q.keep (.refl _) (λc x=>pB λe=>out ?_) λc x=>(q.owned c x).2);cases e;show mFq.mpr (G,mGq<|by rw[ay l];show E,x)
  .rw[bx]at n;by_cases l:i=j
   .subst l;rw[qF rfl]at n;split at n;.rename_i hi;rw[aV<|R.lenF.symm ▸ hi]
    .cases n
   .rw[qL l]at n;rw[ay l];show R.emp j n
  .rw[pB λz=>by rw[z,pn]at e;cases e];show R.sub b u e
  .rw[pB λz=>by rw[z,J]at e;cases e];show R.fr b u e
 show L.again (F:=F) s1 r nd I
def rQ.kill(R:rQ K H₀ Hf₀ Hf S σ H Fs)x:rQ K H₀ Hf₀ Hf (S.set x n_) σ H<|Fs.set x []:=by
 show(by simp[R.len],by simp[R.lenF],λj a n=>?_,λj n=>?_,uI x R.nd aW (λp s=>by cases s),λp s=>R.fresh p<|tP s,R.sub,R.fr,R.lim,R.sf)
 .rw[bx]at n;by_cases l:x=j;.subst l;rw[qF rfl]at n;split at n <;> cases n
  .rw[qL l]at n;have(w,G,t,u,q):=R.rep j a n;show(w,G,t,by rw[ay l];show u,q)
 .rw[bx]at n;by_cases l:x=j
  .subst l;rw[qF rfl]at n;split at n;.rename_i hi;rw[aV<|R.lenF.symm ▸ hi]
   .cases n
  .rw[qL l]at n;rw[ay l];show R.emp j n
def rQ.any(R:rQ K H₀ Hf₀ Hf (S.set x n_) σ H Fs)v:rQ K H₀ Hf₀ Hf (S.set x n_) (σ.set x<|bj v) H Fs where
 len:=by rw[R.len,lZq]
 lenF:=R.lenF
 rep:=λi n e=>by
  by_cases l:x=i;.subst l;rw[bx]at e;rw[qF rfl]at e;split at e <;> cases e
  .have(w,G,s,t,q):=R.rep i n e;show(w,G,by rw[ay l];show s,t,q)
 emp:=R.emp
 nd:=R.nd
 fresh:=R.fresh
 sub:=R.sub
 fr:=R.fr
 lim:=R.lim
 sf:=R.sf
end
def abc(d:D):List AV->Option (List AV)
 | []=>bj []
 | .ow as::r=>yP (as.length<tL) ((abc d r).map (.ow (as++[.sh d]) :: ·))
 |_=>n_
def ahF(i x:Nat)(d:D):MS:=λS=>if i=x∨S.length<=x then n_ else if d.scal=t_ then (tW S i).bind λavs=>(abc d avs).map λbs=>.nx ((S.set i<|bj<|.ow bs).set x n_)else n_
noncomputable abbrev aI(ns:Ϝ):AV:=.ow<|ns.map λn=>.sh<|.int n
noncomputable def Nb:List AV->Option Ϝ
 | []=>bj []
 | .sh (.int i)::r=>(Nb r).map (i :: ·)
 |_=>n_
def NO:List AV->Option Λ
 | []=>bj []
 | .ow as::r=>(Nb as).bind λns=>(NO r).map (ns :: ·)
 |_=>n_
theorem QH:∀{as}{ns},Nb as=bj ns->as=ns.map λn=>.sh<|.int n
 | [],ns,h=>by cases h;rfl
 |a::as,ns,h=>by cases a with
  |sh d=>cases d with
   |int i=>have(t,l,s):=oMq.mp<|h;subst s;rw[QH l];rfl
   |_=>cases h
  |_=>cases h
theorem Sf:∀{as}{rs},NO as=bj rs->as=rs.map aI
 | [],rs,h=>by cases h;rfl
 |a::as,rs,h=>by cases a with
  |ow t=>have(r,l,h):=oBq.mp<|h;have(u,n,s):=oMq.mp h;subst s;rw[Sf n,QH l];rfl
  |_=>cases h
@[simp] theorem WS ns:Nb (ns.map λn=>.sh<|.int n)=bj ns:=by induction ns with
 |nil=>rfl
 |cons n ns l=>change(Nb<|ns.map λn=>.sh<|.int n).map (n :: ·)=_;rw[l];rfl
@[simp] theorem Xn rs:NO (rs.map aI)=bj rs:=by induction rs with
 |nil=>rfl
 |cons r rs l=>change(Nb<|r.map λn=>.sh<|.int n).bind (λns=>(NO<|rs.map aI).map (ns :: ·))=_;rw[WS,l];rfl
def JU(k:MK):MK:=λS=>(k S).bind λx=>match x.1 with
 | .ow avs=>(NO avs).map λrs=>%[.ow<|(AO rs).map aI|x.2]
 |_=>n_
def Ta(h:rP K Hf H (aI ns) v F):∃p,v = .ref p/\F=[p]/\H p=bj (.lst<|ns.map V.int)/\Hf p=n_:=by
 have(p,l,s,rfl,rfl,t,u,x):=h.ow_inv;have e:∀{ns:Ϝ}{l:List V}{s:List Δ},qX K Hf H (ns.map λn=>AV.sh<|.int n) l s->l=ns.map V.int/\s.flatten=[]:=by
  intro ns;induction ns with
  |nil=>intro l s h;have(a,b):=h.nil_inv;show(a,by rw[b];rfl)
  |cons n ns z=>intro l s h;have(v,J,F,B,rfl,rfl,r1,r2):=qX.cons_inv h;have(E,G):=r1.sh_inv;subst E;cases G;have(I,g2):=z r2;rw[I];show(rfl,by rw[fCq,g2];rfl)
 have(e1,e2):=e x;rw[e2];subst e1;show(p,rfl,rfl,t,u)
def aj3(l:H p=bj (.lst<|ns.map V.int))(n:Hf p=n_):rP K Hf H (aI ns) (.ref p) [p]:=by have:=rP.new (K:=K) l n<|Ag ns;rw[←IV]at this;show this
theorem DA:∀{rs}{vs}{l},qX K Hf H (rs.map aI) vs l->∃ps,vs=ps.map V.ref/\l=ps.map (λp=>[p])/\uB H ps rs/\∀p∈ps,Hf p=n_
 | [],vs,l,h=>by have(a,b):=h.nil_inv;show([],a,b,.nil,λp n=>by cases n)
 |r::rs,vs,l,h=>by have(v,E,F,s,rfl,rfl,r1,r2):=qX.cons_inv h;have(p,rfl,rfl,t,u):=Ta r1;have(ps,rfl,rfl,x,z):=DA r2;show(p::ps,rfl,rfl,uB.cons_iff.mpr (t,x),λq B=>(ag.mp B).elim (λe=>e ▸ u)<|z q)
theorem LV:∀{rs}{ps},uB H ps rs->(∀p∈ps,Hf p=n_)->qX K Hf H (rs.map aI) (ps.map V.ref) (ps.map λp=>[p])
 | [],[],_,_=>.nil
 | [],_::_,h,_=>by have:=h.length;simp at this
 |_::_,[],h,_=>by have:=h.length;simp at this
 |r::rs,p::ps,h,n=>by have(l,s):=uB.cons_iff.mp h;show .cons (aj3 l<|n p ⋯)<|LV s λq t=>n q<|mCo _ t
def Rq(ps:Δ):(ps.map λp=>[p]).flatten=ps:=by induction ps with
 |nil=>rfl
 |cons p ps l=>rw[aq,fCq,l];rfl
def Xj(hk:SK K te k):SK K (tCB (λxs H Q=>∃a ps rs,xs=[.ref a]/\vk K H a (ps.map V.ref)/\uB H ps rs /\
  ∀p n,H p=n_->n.Perm ps->uB (rO H p<|.lst<|n.map V.ref) n (AO rs)->Q (.ref p) (rO H p<|.lst<|n.map V.ref))<|vB te xH)<|JU k:=by
 intro H₀ u Hf S σ H Fs av S' R e Q q;have(x,e1,e):=oBq.mp e;show hk R e1 _ λL M Fs1 v F G O r1 s=>?_;split at e
 .rename_i P T;have(rs,e2,e):=oMq.mp e;cases e;rw[T,Sf e2]at r1;have(I,vs,Gs,rfl,rfl,U,h2,X):=r1.ow_inv;have(ps,rfl,rfl,J,hn):=DA X;rw[Rq]at s;show(I,ps,rs,rfl,vk.of U,J,λp n B t E=>?_);have(Y,R4,n1,n2,n3):=O.new B;have pq:=λm=>J.free (H:=M) B<|t.mem_iff.mp m;have hm:∀z∈n,z∈I::ps:=λz l=>mCo _<|t.mem_iff.mp l;show q _ _ _ (.ref p) (p::(n.map λp=>[p]).flatten) (G.trans Y) R4 (rP.news pH n1<|LV E λz l=>hn z<|t.mem_iff.mp l) ?_;rw[Rq];show(aJ.mpr (pq,t.nodup_iff.mpr (aJ.mp s.nd).2),λz l=>?_,λz l=>?_,λz l=>?_)
  .rcases ag.mp l with y|y;.rw[y];show n2
   .show s.fr z<|hm z y
  .rcases ag.mp l with y|y;.rw[y];show n3
   .show s.out z<|hm z y
  .rcases ag.mp l with y|y;.rw[y];show .inl<|G.sh.free B
   .show s.new z<|hm z y
 .cases e
def aaS:AV->Option D
 | .sh d=>if d.scal=t_ then bj d else n_
 |_=>n_
def rK(f:MF)(a:ML):ME:=λS=>(a S).bind λx=>(f x.1).bind λr=>(aaS r).map λd=>%[d|x.2]
def ur(ha:SAr K u a):SR K (xl (qQ K f) [] E0 u)<|rK f a:=by
 intro H₀ t Hf S σ H P d T R e Q q;have(x,e1,e):=oBq.mp e;have(r,e2,e):=oBq.mp e;have(z,n,e):=oMq.mp e;cases e;show ha R e1 _ λs B Fs1 U E G r1=>?_;rw[aNq];show(B,x.1,r,.refl _,r1,e2,λI J v F s1 s2 X l L nd fr=>?_);have M:Eh s B Fs1 s J Fs1:=(.refl _,s2,λZ h=>h,λb h g=>absurd h g);cases r with
 |sh Y=>
  simp only[aaS]at n;split at n;.rename_i O;cases n;show q _ _ _ v (E.trans M) (G.laid s2)<|L.sh_inv.2.scal O
  .cases n
 |_=>cases n
section
variable (S:AS)
@[simp] theorem alv i:oE i S=(S[i]?.join).map λa=>%[pA a|S]:=rfl
@[simp] theorem alp i:oR i S=(S[i]?.join).map λa=>%[.sh<|pA a|S.set i<|bj<|.sh<|pA a]:=rfl
@[simp] theorem akT i:Br i S=(S[i]?.join).map λa=>%[a|S.set i n_]:=rfl
@[simp] theorem anD k:rOf k S=(k S).map λx=>%[pA x.1|x.2]:=rfl
@[simp] theorem anA m:kSc m S=(m S).bind λx=>if x.1.scal then bj %[.sh x.1|x.2]else n_:=rfl
@[simp] theorem akP k:yG k S=(k S).map λx=>%[.sh<|pA x.1|x.2]:=rfl
@[simp] theorem rC_ d:rC d S=if d.scal then bj %[d|S]else n_:=rfl
@[simp] theorem anq f a b:qE f a b S=(a S).bind λx=>(b x.2).bind λy=>(f x.1 y.1).map λd=>%[d|y.2]:=rfl
@[simp] theorem akX f a:vX f a S=(a S).bind λx=>(f x.1).map λd=>%[d|x.2]:=rfl
@[simp] theorem ak7 a:ail a S=(a S).bind λx=>(Yr x.1).map λd=>%[d|x.2]:=rfl
@[simp] theorem akd a b:ND a b S=(a S).bind λx=>if x.1=t_ then b x.2 else bj %[f_|x.2]:=rfl
@[simp] theorem amJ a b:L8 a b S=(a S).bind λx=>if x.1=t_ then bj %[t_|x.2]else b x.2:=rfl
@[simp] theorem ajJ a:uK a S=(a S).map λx=>%[!x.1|x.2]:=rfl
noncomputable def ajI:D->Option Bool
 | .bl b=>bj b
 |_=>n_
@[simp] theorem aob a:tG a S=(a S).bind λx=>(ajI x.1).map λb=>%[b|x.2]:=by change(a S).bind _=_;congr 1;funext x;have(d,l):=x;cases d <;> rfl
set_option tactic.hygienic true in
@[simp] theorem ak3 a b:Xc a b S=(a S).bind λx=>(ajI x.1).bind λc=>if c=t_ then b x.2 else bj %[.bl f_|x.2]:=by
 change(a S).bind _=_;congr 1;funext x;have(d,l):=x;cases d <;> try rfl
 rename_i c;cases c <;> rfl
@[simp] theorem agg b:ajI (.bl b)=bj b:=rfl
@[simp] theorem amF:oS S=bj %[[]|S]:=rfl
@[simp] theorem ajr k r:oz k r S=(k S).bind λx=>(r x.2).map λy=>%[x.1::y.1|y.2]:=rfl
@[simp] theorem ahX:oW S=bj %[[]|S]:=rfl
@[simp] theorem afw k r:oC k r S=(k S).bind λx=>(r x.2).map λy=>%[x.1::y.1|y.2]:=rfl
@[simp] theorem aln a:rV a S=(a S).bind λx=>yP (x.1.length<=tL)<|bj %[.ow x.1|x.2]:=rfl
@[simp] theorem al5 a:xq a S=(a S).bind λx=>yP (x.1.length<=tL)<|bj %[.sh<|.tup<|x.1.map pA|x.2]:=rfl
@[simp] theorem amA a b:Dq a b S=(a S).bind λx=>(b x.2).bind λy=>yP (x.1.length+y.1.length<=tL)<|bj %[.ow<|(x.1++y.1).map .sh|y.2]:=rfl
@[simp] theorem ahK:wA S=bj %[n_|S]:=rfl
@[simp] theorem ajX m:ud m S=(m S).bind λx=>(intOf x.1).map λi=>%[bj i|x.2]:=by change(m S).bind _=_;congr 1;funext x;have(d,l):=x;cases d <;> rfl
@[simp] theorem XZ i:intOf (.int i)=bj i:=rfl
@[simp] theorem anh l lo hi:JJ l lo hi S=(l S).bind λx=>(lo x.2).bind λy=>(hi y.2).map λz=>%[.ow<|(wW x.1 y.1 z.1).map .sh|z.2]:=rfl
@[simp] theorem aoc l b:kIx l b S=(l S).bind λx=>(b x.2).bind λy=>(intOf y.1).bind λi=>(atI x.1 i).map λd=>%[.sh d|y.2]:=by change(l S).bind _=_;congr 1;funext x;congr 1;funext y;have(d,n):=y;cases d <;> rfl
@[simp] theorem aon f a:yK f a S=(a S).bind λx=>(f x.1).map λd=>%[d|x.2]:=rfl
@[simp] theorem aj5 f a:pd f a S=(a S).bind λx=>(f<|x.1.map pA).map λr=>%[r|x.2]:=rfl
@[simp] theorem ah4 f a:rK f a S=(a S).bind λx=>(f x.1).bind λr=>(aaS r).map λd=>%[d|x.2]:=rfl
@[simp] theorem ahG:pZ S=bj (.nx S):=rfl
noncomputable def abp(o:Option Ng)(b:MS):Option Ng:=o.bind λo=>match o with
 | .nx S'=>b S'
 |o=>bj o
@[simp] theorem abo b:abp (bj<|.nx S) b=b S:=rfl
@[simp] theorem acz a b:abp (bj<|.rt a) b=bj (.rt a):=rfl
@[simp] theorem al1 a b:oZ a b S=abp (a S) b:=rfl
@[simp] theorem alr i k:pU i k S=(k S).map λx=>.nx<|x.2.set i<|bj x.1:=rfl
@[simp] theorem alY k:ql k S=(k S).map λx=>.rt x.1:=rfl
@[simp] theorem anr c a b:wm c a b S=(c S).bind λx=>if x.1=t_ then a x.2 else b x.2:=rfl
@[simp] theorem alO i k:zJ i k S=(tW S i).bind λQ=>(k S).bind λx=>(tW x.2 i).bind λavs=>yP (avs.length<tL)<|bj<|.nx<|x.2.set i<|bj<|.ow<|avs++[x.1]:=rfl
@[simp] theorem aml i l:Uu i l S=(tW S i).bind λQ=>(l S).bind λx=>(tW x.2 i).bind λavs=>yP (avs.length+x.1.length<=tL)<|bj<|.nx<|x.2.set i<|bj<|.ow<|avs++x.1.map .sh:=rfl
@[simp] theorem ajc i b k:B1 i b k S=(yG k S).bind λx=>(zK x.2 i).bind λQ=>(b x.2).bind λy=>(zK y.2 i).bind λkvs=>(zt y.1).bind λkey=>yP (kvs.length<tL)<|bj<|.nx<|y.2.set i<|bj<|.owd<|IM kvs key<|pA x.1:=rfl
noncomputable def dictOf:D->Option (List<|rD×D)
 | .dict kvs=>bj kvs
 |_=>n_
@[simp] theorem RA kvs:dictOf (.dict kvs)=bj kvs:=rfl
@[simp] theorem XS i:zt (.int i)=bj (.inl i):=rfl
@[simp] theorem Xt i:zt (.str i)=bj (.inr i):=rfl
@[simp] theorem Zp a b:wC a b S=(a S).bind λx=>(b x.2).bind λy=>(dictOf y.1).bind λkvs=>(zt x.1).map λkey=>%[.bl<|!(getD kvs key).isSome|y.2]:=by change(a S).bind _=_;congr 1;funext x;congr 1;funext y;have(d,l):=y;cases d <;> rfl
@[simp] theorem aii a b:GJ a b S=(a S).bind λx=>(b x.2).bind λy=>(dictOf x.1).bind λkvs=>(zt y.1).bind λkey=>(getD kvs key).map λd=>%[d|y.2]:=by change(a S).bind _=_;congr 1;funext x;have(d,l):=x;cases d <;> rfl
@[simp] theorem aiB:BO S=bj %[.owd []|S]:=rfl
@[simp] theorem alS x k body:Fk x k body S=(yG k S).bind λy=>(vT<|pA y.1).bind λds=>vw x body ds y.2:=rfl
@[simp] theorem afy x a body:DB x a body S=(a S).bind λy=>(J9 y.1).bind λds=>vw x body ds y.2:=rfl
@[simp] theorem aki x y k l body:Z1 x y k l body S=(yG k S).bind λz=>(yG l z.2).bind λw=>(vT<|pA z.1).bind λds=>(vT<|pA w.1).bind λn=>if ds.length=n.length then HV x y body ds n w.2 else n_:=rfl
@[simp] theorem ajh l fr n te:wH l fr n te S=(l S).bind λy=>(fzAll fr y.2).bind λs=>(L3 s fr).bind λcap=>yP (y.1.length<=tL)<|(ui n te cap y.1).map λavs=>%[.ow avs|s]:=rfl
@[simp] theorem alD k:Bu k S=(yG k S).bind λy=>(vT<|pA y.1).map λds=>%[ds|y.2]:=rfl
@[simp] theorem an3 a:iR1 a S=(a S).bind λy=>(J9 y.1).map λds=>%[ds|y.2]:=rfl
@[simp] theorem Yx:fzAll [] S=bj S:=rfl
@[simp] theorem Ts j(l:Θ):fzAll (j::l) S=(S[j]?.join).bind λa=>fzAll l<|S.set j<|bj<|.sh<|pA a:=rfl
@[simp] theorem acK:L3 S []=bj []:=rfl
@[simp] theorem YD j(l:Θ):L3 S (j::l)=(ai3 S[j]?.join).bind λa=>(L3 S l).map (bj a :: ·):=rfl
@[simp] theorem ahH l:Dk l S=(l S).map λx=>%[.ow<|x.1.map .sh|x.2]:=rfl
@[simp] theorem aek l:U0 l S=(l S).bind λx=>(vt x.1).map λns=>%[.ow<|(Ga ns).map λn=>.sh<|.int n|x.2]:=rfl
noncomputable def ai8:AV->Option (List AV)
 | .ow avs=>bj avs
 |_=>n_
@[simp] theorem afe avs:ai8 (.ow avs)=bj avs:=rfl
@[simp] theorem abN k:JU k S=(k S).bind λx=>(ai8 x.1).bind λavs=>(NO avs).map λrs=>%[.ow<|(AO rs).map aI|x.2]:=by change(k S).bind _=_;congr 1;funext x;have(d,l):=x;cases d <;> rfl
@[simp] theorem anP T f a as:rBM T f a as S=(a S).bind λx=>if tyD T x.1=t_ then (as x.2).bind λy=>(f x.1 y.1).map λd=>%[d|y.2]else n_:=rfl
noncomputable def agM:D->Option (List D)
 | .list ds=>bj ds
 |_=>n_
@[simp] theorem Tz ds:agM (.list ds)=bj ds:=rfl
@[simp] theorem ahP a:acp a S=(a S).bind λx=>(agM x.1).bind λds=>(AB ds).map λrs=>%[.int (rs.countP (·=([]:Ϝ)):Nat)|x.2]:=by change(a S).bind _=_;congr 1;funext x;have(d,l):=x;cases d <;> rfl
@[simp] theorem al7 a:R5 a S=(a S).bind λx=>(Mz x.1).map λb=>%[b|x.2]:=rfl
noncomputable def lsA:AV->Option (List D)
 | .sh (.list ds)=>bj ds
 | .ow avs=>bj<|avs.map pA
 |_=>n_
@[simp] theorem aje ds:lsA (.sh<|.list ds)=bj ds:=rfl
@[simp] theorem ahy avs:lsA (.ow avs)=bj (avs.map pA):=rfl
@[simp] theorem anM k:lOf k S=(k S).bind λx=>(lsA x.1).map λds=>%[ds|x.2]:=by change(k S).bind _=_;congr 1;funext x;have(a,l):=x;cases a with
 |sh d=>cases d <;> rfl
 |_=>rfl
end
@[simp] theorem ab0 (ds:List D):(ds.map AV.sh).map pA=ds:=by
 rw[mPq];have:pA∘AV.sh=id:=by funext d;rfl
 rw[this,cW]
noncomputable def hlf:AV->AV
 | .ow avs=>.ow<|(avs.map pA).map .sh
 |a=>a
@[simp] theorem aiJ d:hlf (.sh d) = .sh d:=rfl
@[simp] theorem akv avs:hlf (.ow avs) = .ow ((avs.map pA).map .sh):=rfl
def KI{S:AS}(h:S[i]?=bj (bj a)):S.set i (bj a)=S:=by have(hk,l):=gSq.mp h;rw[←l];show fQ hk
@[simp] theorem alh S i:Em i S=(S[i]?.join).bind λa=>(lsA a).map λds=>%[ds|S.set i<|bj<|hlf a]:=by unfold Em;cases e:S[i]?.join with
 |none=>rfl
 |some a=>cases a with
  |sh d=>cases d with
   |list ds=>change bj %[ds|S]=bj %[ds|S.set i<|i4 ds];rw[KI<|sF e]
   |_=>rfl
  |ow n=>rfl
  |owd l=>rfl
  |owl l=>rfl
noncomputable def lsQ:AV->Option (List D)
 | .sh (.scr ns)=>bj<|ns.map .int
 |a=>lsA a
@[simp] theorem af0 ns:lsQ (.sh<|.scr ns)=bj (ns.map .int):=rfl
@[simp] theorem akz ds:lsQ (.sh<|.list ds)=bj ds:=rfl
@[simp] theorem ah6 avs:lsQ (.ow avs)=bj (avs.map pA):=rfl
@[simp] theorem akZ S i:vq i S=(S[i]?.join).bind λa=>(lsQ a).map λds=>%[ds|S.set i<|bj<|hlf a]:=by unfold vq;cases e:S[i]?.join with
 |none=>rfl
 |some a=>cases a with
  |sh d=>cases d with
   |list ds=>change bj %[ds|S]=bj %[ds|S.set i<|i4 ds];rw[KI<|sF e]
   |scr ns=>change bj %[ns.map D.int|S]=bj %[ns.map D.int|S.set i<|bj<|.sh<|.scr ns];rw[KI<|sF e]
   |_=>rfl
  |ow n=>rfl
  |owd l=>rfl
  |owl l=>rfl
@[simp] theorem ZA i:(D.int i).scal=t_:=rfl
@[simp] theorem aeP i:(D.bl i).scal=t_:=rfl
@[simp] theorem Zn i:(D.str i).scal=t_:=rfl
@[simp] theorem aco:D.non.scal=t_:=rfl
@[simp] theorem adm i:(D.ty i).scal=t_:=rfl
@[simp] theorem ack i:aaS (.sh<|.int i)=bj (.int i):=rfl
@[simp] theorem ae4 i:aaS (.sh<|.bl i)=bj (.bl i):=rfl
@[simp] theorem agk i j:Ep (.int i) (.int j)=bj (.bl<|decide<|i=j):=rfl
@[simp] theorem Oy i j:Ep (.str i) (.str j)=bj (.bl<|decide<|i=j):=rfl
@[simp] theorem aeQ b:Yr (.bl b)=bj (.bl<|!b):=rfl
@[simp] theorem adN i j:dNe (.int i) (.int j)=bj (.bl<|!decide (i=j)):=rfl
@[simp] theorem YG ds:vJ [.list ds]=bj (.int ds.length):=rfl
@[simp] theorem aag ns:vJ [.scr ns]=bj (.int ns.length):=rfl
@[simp] theorem aaF ds:vJ [.tup ds]=bj (.int ds.length):=rfl
@[simp] theorem OA ds:vT (.list ds)=bj ds:=rfl
@[simp] theorem acZ ds i:Gw (.list ds) (.int i)=atI ds i:=rfl
@[simp] theorem adn ns i:Gw (.scr ns) (.int i)=(atI ns i).map .int:=rfl
@[simp] theorem afr d:ai3 (bj<|.sh d)=bj (.sh d):=rfl
@[simp] theorem acn ds:tyD "list" (.list ds)=t_:=rfl
def ae7(S)i:tW S i=(S[i]?.join).bind ai8:=by unfold tW;cases S[i]?.join with
 |none=>rfl
 |some a=>cases a <;> rfl
noncomputable def abV:AV->Option (List<|rD×D)
 | .owd kvs=>bj kvs
 |_=>n_
@[simp] theorem X8 kvs:abV (.owd kvs)=bj kvs:=rfl
def ZD(S)i:zK S i=(S[i]?.join).bind abV:=by unfold zK;cases S[i]?.join with
 |none=>rfl
 |some a=>cases a <;> rfl
theorem Qx(P:Nat->AS->Prop):∀{ds}{S}{k},P k S->(∀i d S,ds[i]?=bj d->P (k+i) S->∃S',(body (S.set x<|bj<|.sh d)=bj (.nx S')∨body (S.set x<|bj<|.sh d)=bj (.ct S'))/\P (k+i+1) S')->∃S',vw x body ds S=bj (.nx S')/\P (k+ds.length) S'
 | [],S,k,l,_=>(S,rfl,l)
 |d::ds,S,k,l,hs=>by
  have(S',e,s):=hs 0 d S rfl l;have n:=λi d S h p=>by
   have:=hs (i+1) d S (by show h)<|by rw[show k+(i+1)=k+1+i by lia];show p
   rw[show k+(i+1)=k+1+i by lia]at this;show this
  have(t,e2,u):=Qx P s n;show(t,?_,by rw[lCq,show k+(ds.length+1)=k+1+ds.length by rfl'];show u);change(body _).bind _=_;rcases e with e|e <;> (rw[e];show e2)
def Ai(P:Nat->AS->Prop)(l:P 0 S)(n:∀i d S,ds[i]?=bj d->P i S->∃S',body (S.set x<|bj<|.sh d)=bj (.nx S')/\P (i+1) S'):∃S',vw x body ds S=bj (.nx S')/\P ds.length S':=by
 have:=Qx P l λi d S h p=>by rw[cO]at p ⊢;have(S',e,q):=n i d S h p;show(S',.inl e,q)
 rw[cO]at this;show this
theorem ahq(P:Nat->AS->Prop):∀{ds l}{S}{k},ds.length=l.length->P k S->(∀i d e S,ds[i]?=bj d->l[i]?=bj e->P (k+i) S->∃S',body ((S.set x<|bj<|.sh d).set y<|bj<|.sh e)=bj (.nx S')/\P (k+i+1) S')->∃S',HV x y body ds l S=bj (.nx S')/\P (k+ds.length) S'
 | [],[],S,k,_,n,_=>(S,rfl,n)
 | [],_::_,S,k,hl,_,_=>by simp at hl
 |_::_,[],S,k,hl,_,_=>by simp at hl
 |d::ds,b::l,S,k,hl,n,hs=>by
  have(S',e,t):=hs 0 d b S rfl rfl n;have s:=λi d e S h u p=>by
   have:=hs (i+1) d e S (by show h) (by show u)<|by rw[show k+(i+1)=k+1+i by lia];show p
   rw[show k+(i+1)=k+1+i by lia]at this;show this
  have(z,e2,B):=ahq P (by simpa using hl) t s;show(z,?_,by rw[lCq,show k+(ds.length+1)=k+1+ds.length by rfl'];show B);change(body _).bind _=_;rw[e];show e2
theorem ye{cap:AS}g:∀{ds},(∀d∈ds,∃S',te (bj (.sh d)::cap)=bj %[g d|S'])->ui uS te cap ds=bj (ds.map g)
 | [],_=>rfl
 |d::ds,h=>by
  have(S',e):=h d ⋯;change(te<|bj (.sh d)::cap).bind (λa=>(ui uS te cap ds).map (a.1 :: ·))=_;rw[e,ye g λx l=>h x<|mCo _ l];rfl
theorem wN{cap:AS}p g:∀{ds},(∀d∈ds,∃n,l (bj (.sh d)::cap)=bj %[p d|n]/\(p d=t_->∃S',te n=bj %[g d|S']))->ui l te cap ds=bj ((ds.filter p).map g)
 | [],_=>rfl
 |d::ds,h=>by
  have(n,e1,e2):=h d ⋯;have s:=wN p g λx t=>h x<|mCo _ t;change(l<|bj (.sh d)::cap).bind _=_;rw[e1];change(if p d=t_ then _ else _)=_;by_cases c:p d=t_;.have(S',u):=e2 c;rw[qF c,u,cB c];rw[s];rfl
  .rw[qL c,eC c,s]
def zp(f:α->β)xs lo hi:wW (xs.map f) lo hi=(wW xs lo hi).map f:=by unfold wW;rw[lMq,jd,List.map_drop]
def yO(xs:List α)i(h:i<=xs.length):wW xs (bj (i:Int)) n_=xs.drop i:=by unfold wW;rw[HT.A4,eF h,bJ<|by rw[au];show ae _]
def ES(xs:List α)i(h:i<=xs.length):wW xs n_ (bj (i:Int))=xs.take i:=by unfold wW;simp only[HT.A4,HT.Lu,eF h,fA,jQ]
def Lj(xs:List α)(i j:Nat):wW xs (bj (i:Int)) (bj (j:Int))=(xs.drop i).take (j-i):=by
 unfold wW;rw[HT.A4,HT.A4];by_cases h:i<=xs.length
 .rw[eF h];by_cases l:j<=xs.length;.rw[eF l]
  .rw[fR ∅,bJ<|by rw[au];show ae _,bJ<|by rw[au];lia]
 .have e:min i xs.length=xs.length:=fR ∅;rw[e,dB<|ae xs.length,dB ∅];simp
def PQ{xs:List α}(l:0<=i):atI xs i=xs[i.toNat]?:=by
 unfold atI Ql;rw[qF l];by_cases h:i<xs.length;.rw[qF h];rfl
 .rw[qL h,bF ∅];rfl
def Ve(h:i<n):Ql n (i:Int)=bj i:=by
 unfold Ql;rw[qF<|by rfl',qF<|by ac_nf];simp
def Hv(ns:Ϝ):(ns.map D.int).map AV.sh=ns.map λn=>AV.sh<|.int n:=by rw[mPq];rfl
def P2(ns:Ϝ):(ns.map λn=>AV.sh<|.int n).map pA=ns.map D.int:=by rw[mPq];show mCq λn Q=>by rfl
def tj(rs:Λ):(rs.map aI).map pA=rs.map dI:=by
 rw[mPq];show mCq λr Q=>?_;change pA (.ow<|r.map λn=>AV.sh<|.int n)=_;rw[vY,P2]
def Vn(rs:Λ):(rs.map dI).map AV.sh=rs.map λr=>AV.sh<|dI r:=by rw[mPq];rfl
def Ot(rs:Λ):(rs.map λr=>AV.sh<|dI r).map pA=rs.map dI:=by rw[mPq];show mCq λn Q=>by rfl
def rG ns:pA (aI ns)=dI ns:=by rw[vY,P2]
def afl i j:yf (.int i) (.int j)=bj (.int<|i+j):=BI _
def agw i j:aep (.int i) (.int j)=bj (.int<|i-j):=BI _
def aiH i j:XF (.int i) (.int j)=bj (.bl<|decide<|i<j):=BI _
def ajQ i j:dGt (.int i) (.int j)=bj (.bl<|decide<|j<i):=BI _
def akh i:yy (.int i)=bj (.int<|-i):=rfl
def p58:Jy (.int 10) (.int 58)=bj (.int<|10 ^ 58):=xx (by decide,by decide,by decide) _
def p59:Jy (.int 10) (.int 59)=bj (.int<|10 ^ 59):=xx (by decide,by decide,by decide) _
def p57:Jy (.int 10) (.int 57)=bj (.int<|10 ^ 57):=xx (by decide,by decide,by decide) _
def amt(l:-(2 ^ 64)<i)(n:i<2 ^ 64):MM (.int i) (.int j)=bj (.int<|i*j):=xx (.inl (l,n)) _
def ahn(l:-(2 ^ 64)<j)(n:j<2 ^ 64):MM (.int i) (.int j)=bj (.int<|i*j):=xx (.inr (l,n)) _
def uW(h:0<j):xh (.int i) (.int j)=bj (.int<|i % j):=xx h _
def Cz(h:0<j)(l:j<1073741824):Ih (.int i) (.int j)=bj (.int<|i / j):=xx (h,l) _
def akO:(0:Nat)<=tL:=by decide
def alw:(1:Nat)<=tL:=by decide
def amg:(2:Nat)<=tL:=by decide
def amu:(3:Nat)<=tL:=by decide
def amf:(4:Nat)<=tL:=by decide
def tY(h:n<=16777216):n<=tL:=h
def UI(h:n<16777216):n<tL:=h
def zT{n:Nat}(h:n<1000000):J9 [.int (n:Int)]=bj (sV 0 n):=by
 have e:J9 [.int<|n]=bj (sV 0 (n:Int).toNat):=xx (by rfl',by lia) _;rw[e,eI]
def DR n:sV 0 n=(bQ n).map λi:Nat=>D.int i:=by show mCq λi Q=>by rw[jR]
def alV(l n)m ds:tK l n m ds=if ds.length=l then (m<|ds.map (λd=>bj<|.sh d)++aC (n-ds.length) n_).bind λo=>match o with
  | .rt a=>bj a
  | .nx _=>bj<|.sh .non
  |_=>n_
 else n_:=rfl
def gt1{α:Type}{a b:α}{l}:(a::b::l)[1]?=bj b:=rfl
def st1{α:Type}{a b v:α}{l}:(a::b::l).set 1 v=a::v::l:=rfl
def gt2{α:Type}{a b c:α}{l}:(a::b::c::l)[2]?=bj c:=rfl
def Qj{α:Type}{a b c v:α}{l}:(a::b::c::l).set 2 v=a::b::v::l:=rfl
def gt3{α:Type}{a b c d:α}{l}:(a::b::c::d::l)[3]?=bj d:=rfl
def st3{α:Type}{a b c d v:α}{l}:(a::b::c::d::l).set 3 v=a::b::c::v::l:=rfl
def gt4{α:Type}{a b c d:α}{l}:(a::b::c::d::l)[n+4]?=l[n]?:=rfl
def st4{α:Type}{a b c d v:α}{l}:(a::b::c::d::l).set (n+4) v=a::b::c::d::l.set n v:=rfl
def aeF(h:∀ns:Ϝ,ns.length<=63->f [.scr ns]=i6 t_):∀vs H Q E,Vv K vs H Q E->qQ K f vs H Q E:=by
 rintro vs H Q E ⟨a,ns,rfl,l,hl,q⟩;show(H,[.scr ns],_,.refl _,.cons (.scr l) .nil,h ns hl,λn s v F Z Z Z Z r Z Z=>?_);cases r.sh_inv.2;show q s
end Z
namespace Mr
open PySem PySem.Spec PyProof.Rows L2
def UV{α:Type}(P:α->Prop):List α->Prop
 | []=>True
 |a::l=>P a/\UV P l
theorem UV.mem{P:α->Prop}:∀{l},UV P l->∀a∈l,P a
 | [],_,a,h=>by cases h
 |b::l,hp,a,h=>(ag.mp h).elim (λe=>e ▸ hp.1)<|UV.mem hp.2 a
def xr.of(n:N.Nodup)(s:N[0]?=bj x)(t:N.length=fr.length+1)
  (u:UV (λp=>X.env.cells.lookup p.1=bj p.2) cl) (l:UV (λp=>(p.2 = .cell∨p.2 = .free)->∃c,cl.lookup p.1=bj c) (lQ scope X.env).names)
  (z:UV (λp=>X.N[p.1]?=bj p.2/\X.env.scope.names.lookup p.2=bj .cell/\(lQ scope X.env).names.lookup p.2=bj .cell)<|fr.zip<|N.drop 1):xr X scope cl x N fr where
 names:=n
 own:=s
 len:=t
 sub:=λy c e=>u.mem %[y|c]<|PySem.mem_of_lookup e
 has:=λy e=>by
  rcases e with e|e;.show l.mem _ (PySem.mem_of_lookup e)<|.inl rfl
  .show l.mem _ (PySem.mem_of_lookup e)<|.inr rfl
 get:=λk j y e1 e2=>by
  have hm:%[j|y]∈fr.zip (N.drop 1):=by show mGq (i:=k) ?_;rw[dU];show(e1,by rw[dF,gw];show e2)
  show z.mem _ hm
end Mr
namespace Mr
open PySem PySem.W PySem.Spec PyProof.Rows L2
abbrev g2(K:Ζ):TG:=aaO K 2<|Ji (xa 0)<|Ji (xa 1) aai
end Mr
namespace Xe
open PySem PySem.Spec PySem.W PyProof.Rows L2 Mr
noncomputable def Itk(o:Obj)(d:Addr)(kvs:List<|rD×V):It:=(λi H=>H d=bj (.frz o<|.dK kvs)/\∃p,kvs[i]?=bj p,
   λi H x l=>l=H/\∃p,kvs[i]?=bj p/\x=kV p.1,
   λi H=>H d=bj (.frz o<|.dK kvs)/\kvs.length<=i)
def Yp{K:Frag}o d n kvs vs Y(hne:d≠n)
  (ho:∀h:Heap,h.get? d=bj o->h.DictAt (uR P w) d vs Y) (kv:KV kvs vs):T3 P w K tg (Itk o d kvs) [n] n<|λi h=>h.IsKeyIter n d i vs.length Y where
 mem:=by simp
 obj:=λi h st b hb=>by
  have e:b=n:=by simpa using hb
  subst e;have(G,e,c,dd):=st;show(G,e,λv z=>by rw[dd]at z;cases z)
 keep:=λi h h' st k=>by have(G,e,c,dd):=st;show(G,k n ⋯ _ e,c,dd)
 item:=by
  intro X L hw M hc i ou s σ H E I J st O;subst L hw M;have(hd,p,hp):=O;have e1:s.heap.get? d=bj o:=(show tT X.prog X.w H s.heap d (.frz o<|.dK kvs)from I.hok d _ hd).1;have(u,hx,ru):=kv_get kv hp;have(Q,R,f2,S,T,U):=J n ⋯;show wpAny_pyNext_dict_item st (ho _ e1) hx λkey h' x B sb=>?_;have I1:L2.qt X ou σ H { s with heap:=h' }:=I.turned (t':=s.toks) (λb o hb e=>(sb.2 b hb).trans e) Q R S T U;have rk:rS (kV p.1) key:=by
   rcases uz x with⟨j,t,e,rfl⟩|⟨z,t,e,rfl⟩;.rw[e];show(t,rfl)
   .rw[e];show(t,rfl)
  have(G,e,c,dd):=id B;show(key,rfl,go_of (s:={ s with heap:=h' }) e c dd (by rfl) (_,H,I1,rk,(rfl,p,hp,rfl),B,λb hb=>(J b hb).1))
 done:=by
  intro X L hw M hc i ou s σ H E I J st O;subst L hw M;have(hd,hl):=O;have e1:s.heap.get? d=bj o:=(show tT X.prog X.w H s.heap d (.frz o<|.dK kvs)from I.hok d _ hd).1;have l:=Paired.length kv;have(Q,R,f2,S,T,U):=J n ⋯;show wpAny_pyNext_dict_end (I.ok.hd hc) st (ho _ e1) (bF ∅) λh' eb=>(rfl,I.turned (t':=s.toks) (λb o hb e=>eb b o hb e) Q R S T U)
 self:=λZ Z Z Z Z st h=>wpAny_pyIter_keyiter st h
def aho(te:TE):TI:=λσ H R=>te σ H λx l=>∃d kvs,x = .ref d/\l d=bj (.dK kvs)/\∀o,R (Itk o d kvs)<|rO l d<|.frz o<|.dK kvs
def adp(S:PE X o te):PI X Q o<|aho te:=by
 intro M s σ H R I h;show uQ (S M s σ H _ I h) λv s1 J=>?_;have(x,O,E,r1,d,n,ex,ha,q):=J;subst ex;obtain rfl:=(show v=ah d from r1);have(T,sa,z,P,U):=(show tT X.prog X.w O s1.heap d (.dK n)from E.hok d _ ha);have(G,t,Y,l,rest):=U.dictAt;have L:∀h:Heap,h.get? d=bj t->h.DictAt (uR X.prog X.w) d z G:=λh e=>(t,Y,e,rest);have B:d<s1.heap.objs.size:=ai l;show wpAny_pyIter_dict sa (L _ l) ?_;have kp:∀b u,s1.heap.get? b=bj u->(s1.heap.push { cls:=.type "dict_keyiterator", data:=.fields #[.ref d,.int 0 0,.int z.length 0,.int G 0] }).get? b=bj u:=λb u e=>aa _ e;have I2:L2.qt X M σ (rO O d<|.frz t<|.dK n) { s1 with heap:=s1.heap.push { cls:=.type "dict_keyiterator", data:=.fields #[.ref d,.int 0 0,.int z.length 0,.int G 0] } }:=(E.kept (t':=s1.toks) kp).write (x:=d) (e:=d) (o:=.frz t<|.dK n) (t':=s1.toks) (by rw[ha];trivial) (.inl rfl) (λb u Z e=>e) (_,kp _ _ l) (kp _ _ l,T,sa,z,P,(L _<|kp _ _ l).dictOf);show(s1.heap.objs.size,[s1.heap.objs.size],_,_,_,rfl,I2,Yp t d _ n z G (aB B) L P,?_,λb hb=>?_,q t);.show(_,bp _ rfl,rfl,rfl)
 .have e:b=s1.heap.objs.size:=by simpa using hb
  subst e;show E.fpOk (ae _)<|by rw[pB<|ef B];show E.hok.fresh<|ae _
end Xe
namespace Z
open PySem L2 Mr
def aet(c)body n S:wO c body (n+1) S=(c S).bind λx=>if x.1=t_ then (body x.2).bind λo=>match o with
   | .nx l=>wO c body n l
   | .ct l=>wO c body n l
   | .bk l=>bj<|.nx l
   | .rt a=>bj<|.rt a
  else bj<|.nx x.2:=rfl
end Z
namespace Z
open PySem L2 Mr Xe
inductive XW where
 |ok (a:AV)|ex (c:Str) (fs:List<|Str×Int)
abbrev uU:=List D->Option XW
def ag9(K:Ζ)(Hf H:Hp)(Q:VK)(E:XK):XW->Prop
 | .ok a=>∀l n v F,rB Hf l->rB H n->rB l n->(∀b,Hf b=n_->H b≠n_->l b=n_)->rP K l n a v F->F.Nodup->(∀q∈F,H q=n_)->Q v n
 | .ex c fs=>∀l n e od,rB Hf l->rB H n->rB l n->(∀b,Hf b=n_->H b≠n_->l b=n_)->uG K l (.exc c fs) (.ref e)->E (.ref e) od n
def vm(K:Ζ)(f:uU):Sp:=λvs H Q E=>∃Hf ds r,rB Hf H/\sI K Hf ds vs/\f ds=bj r/\ag9 K Hf H Q E r
noncomputable def okR:XW->Option AV
 | .ok a=>bj a
 |_=>n_
def okX(f:uU):MF:=λds=>(f ds).bind okR
def akm(h:qQ K (okX f) vs H Q E):vm K f vs H Q E:=by have(Hf,l,a,s,r,e,q):=h;have(z,e1,e2):=oBq.mp e;cases z with
 |ok b=>cases e2;show(Hf,l,_,s,r,e1,q)
 |ex c fs=>cases e2
inductive Fh where
 |ok (o:Ng)|ex (c:Str) (fs:List<|Str×Int)
abbrev MX:=AS->Option Fh
def KF(K:Ζ)(H₀ l Hf:Hp)(D:zG)(E:XK):Fh->Prop
 | .ok o=>HN K H₀ l Hf D o
 | .ex c fs=>∀n s e od,rB l n->rB H₀ s->rB n s->(∀b,l b=n_->H₀ b≠n_->n b=n_)->uG K n (.exc c fs) (.ref e)->E (.ref e) od s
theorem KF.mono{D}(s:rB Hf n)(h:KF K H₀ l Hf D E o):KF K H₀ l n D E o:=by cases o with
 |ok o=>show HN.mono s h
 |ex c fs=>show h
def Kn(K:Ζ)(E:XK)(t:TS)(m:MX):Prop:=∀{H₀ l Hf}{S}{σ}{H}{n}{o},rQ K H₀ l Hf S σ H n->m S=bj o->∀D:zG,KF K H₀ l Hf D E o->t D σ H
noncomputable def B7(m:MS):MX:=λS=>(m S).map .ok
noncomputable def wk(a b:MX):MX:=λS=>(a S).bind λo=>match o with
 | .ok (.nx S')=>b S'
 |o=>bj o
noncomputable def Wf(c:MT)(a b:MX):MX:=λS=>(c S).bind λx=>if x.1=t_ then a x.2 else b x.2
noncomputable def DN(c fld:Str)(a:ML):MX:=λS=>(a S).bind λx=>match x.1 with
 | [.int n]=>bj<|.ex c [%[fld|n]]
 |_=>n_
section
variable {K:Ζ}
def uF(h:SS K t m):Kn K E t<|B7 m:=by intro H₀ l Hf S σ H s o R e D q;have(z,e1,e2):=oMq.mp e;subst e2;show h R e1 D q
def ue(ha:Kn K E t a)(hb:Kn K E u b):Kn K E (Pd t u)<|wk a b:=by
 intro H₀ l Hf S σ H L o R e D q;have(z,e1,e2):=oBq.mp e;show ha R e1 { D with nx:=u D } ?_;cases z with
 |ok z=>cases z with
  |nx x=>show λB G M I s J=>hb J e2 D<|q.mono s
  |bk x=>cases e2;show q
  |ct x=>cases e2;show q
  |rt a=>cases e2;show q
 |ex c fs=>cases e2;show q
def Et(G:LX K tt c)(ha:Kn K E t a)(hb:Kn K E u b):Kn K E (YK tt t u)<|Wf c a b:=by
 intro H₀ l Hf S σ H J o R e D q;have(x,e1,e2):=oBq.mp e;show G R (b:=x.1) (S':=x.2) e1 _ λI L Fs1 z B=>?_;split at e2;.rename_i s;rw[qF s];show ha B e2 D<|q.mono z.sf
 .rename_i s;rw[qL s];show hb B e2 D<|q.mono z.sf
def Sq{n}(r:uG K H (.int n) v):v = .int n:=by cases r;rfl
set_option tactic.hygienic true in
def Ib(rf:Ref K J C M)(nf:W.findIn K (.ref C) fld=bj n_)(hl:SAr K ta l):Kn K E (tRs E C<|aly K J fld ta)<|DN J fld l:=by
 intro H₀ L Hf S σ H Fs o R e D q;have(x,e1,e2):=oBq.mp e;show hl R (ds:=x.1) (S':=x.2) e1 _ λs Y Fs1 vs t1 G r1=>?_;split at e2
 .rename_i k hk;cases e2;rw[hk]at r1;have(v,ws,rfl,r2,r3):=r1.cons_inv;obtain rfl:=r3.nil_inv;obtain rfl:=Sq r2;show(_,C,M,rfl,rf,nf,λex B O P Q=>(ex,bj B,rfl,pH,?_));rw[EO];have T:s ex=n_:=G.sub.free O;have U:s B=n_:=G.sub.free P;have s1:rB s<|rO (rO s B<|.xd [%[fld|.int k]]) ex<|J4 ex C<|bj B:=(uH U).trans<|uH<|by rw[pB<|Ne.symm Q];show T
  have s2:rB Y<|rO (rO Y B<|.xd [%[fld|.int k]]) ex<|J4 ex C<|bj B:=(uH P).trans<|uH<|by rw[pB<|Ne.symm Q];show O
  show q (rO (rO s B<|.xd [%[fld|.int k]]) ex<|J4 ex C<|bj B) _ ex (bj B) (G.sf.trans s1) (G.fr.trans s2) (λb o' z=>?_) (λb z1 X=>?_)<|.exc rf (λp hp=>?_) pH ?_
  .by_cases hb:b=ex;.cases hb;rw[pH]at z ⊢;show z
   .rw[pB hb]at z ⊢;by_cases I:b=B;.subst I;rw[pH]at z ⊢;show z
    .rw[pB I]at z ⊢;show G.sub b o' z
  .have h1:b≠ex:=λz=>X<|by rw[z];show G.fr.free O
   have h2:b≠B:=λz=>X<|by rw[z];show G.fr.free P
   rw[pB h1,pB h2];show G.lim b z1 X
  .simp only[mSq]at hp;subst hp;show nf
  .rw[pB Q,pH];rfl
 .cases e2
end
noncomputable def uT(l n:Nat)(m:MX):uU:=λds=>if ds.length=l then (m<|ds.map (λd=>bj<|.sh d)++aC (n-ds.length) n_).bind λo=>match o with
  | .ok (.rt a)=>bj<|.ok a
  | .ok (.nx _)=>bj<|.ok<|.sh .non
  | .ex c fs=>bj<|.ex c fs
  |_=>n_
 else n_
def YQ{K}N(h:Kn K E t m)(B:vm K (uT z N.length m) vs H Q E):t { nx:=λZ u=>Q .non u,rt:=Q } (L2.wc N vs) H:=by
 have(Hf,M,r,s,G,e,q):=B;unfold uT at e;split at e;.have(o,e1,e2):=oBq.mp e;show h (M7 N s G) e1 _ ?_;cases o with
  |ok o=>cases o with
   |rt O=>cases e2;show λn u v F s1 s2 I l r nd fr=>q n u v F s1 s2 I l r nd fr
   |nx x=>cases e2;show λn J u L s1 R=>q n u .non [] R.sf R.fr R.sub R.lim (.sh .non) aW λq h=>(by cases h)
   |bk x=>cases e2
   |ct x=>cases e2
  |ex c fs=>cases e2;show q
 .cases e
def aeE(t:vm K (uT l n m) vs H Q E):vs.length=l:=by
 have(Hf,u,a,s,r,e,q):=t;unfold uT at e;split at e;.rename_i h;rw[←r.1,h]
 .cases e
abbrev MH:=Str->List (Str×Int)->MS
def SH(K:Ζ)(n:XH)(hm:MH):Prop:=∀{H₀ l Hf}{S}{σ}{H}{s}{o}{c}{fs}{e},rQ K H₀ l Hf S σ H s->hm c fs S=bj o ->
 uG K Hf (.exc c fs) (.ref e)->∀D:zG,HN K H₀ l Hf D o->∀C M od,Ref K c C M->H e=bj (J4 e C od)->n e C od D σ H
noncomputable def under(c l:Str):Bool:=decide<|l=c∨l = "MapError"
noncomputable def clr(i:Nat):Ng->Ng
 | .nx S=>.nx<|S.set i n_
 | .bk S=>.bk<|S.set i n_
 | .ct S=>.ct<|S.set i n_
 | .rt a=>.rt a
def xAs(l:Str)(i:Nat)(n:MS)(rest:MH):MH:=λc fs S=>if under c l=t_ then (n<|S.set i<|bj<|.sh<|.exc c fs).map (clr i)else rest c fs S
def xNo(l:Str)(n:MS)(rest:MH):MH:=λc fs S=>if under c l=t_ then n S else rest c fs S
noncomputable def X2:MH:=λQ Q Q=>n_
def Ref.mro{K:Ζ}(rf:Ref K c C M)(h:IsC K s C'):W.mroIn K C (.ref C')=bj (under c s):=by
 have(_,(O,t,hm,hn),_):=AL rf.xc;unfold W.mroIn;rw[t,bP,hm];simp only[fE,bW,if_false,bj.injEq];have key:(ah C::ah M::AM).contains (ah C')=decide (C'=C∨C'=M):=by
  have e1:AM.contains (ah C')=f_:=by rfl
  rw[bE,bE,e1];by_cases u:C'=C;.simp[u]
  .by_cases x:C'=M;.simp[x]
   .have G:(ah C' == ah C)=f_:=by simp[u]
    have H:(ah C' == ah M)=f_:=by simp[x]
    rw[G,H];simp[u,x]
 rw[key];unfold under;rcases h with⟨B,⟨I,l⟩|⟨n,P⟩⟩
 .obtain rfl:M=I:=by have z:=rf.nmM.symm.trans l.nmM;simpa using z
  have E:C'≠M:=λz=>by cases z;have y:=(Wp l.xc rf.xm).2;simp at y
  have J:s ≠ "MapError" := λz=>by subst z;have y:=l.nm.symm.trans rf.nmM;simp at y;show E y
  by_cases n:s=c;.subst n;have y:=(rf.one l).1;simp[y]
  .have L:C'≠C:=λz=>by cases z;show n<|(Wp l.xc rf.xc).1
   simp[E,J,L,n]
 .subst n;obtain rfl:M=C':=by have z:=rf.nmM.symm.trans B;simpa using z
  simp
section
variable {K:Ζ}
def aer(r:uG K H (.exc c fs)<|.ref e):∃C M od,Ref K c C M/\H e=bj (J4 e C od):=by cases r with
 |exc rf nf h l=>show(_,_,_,rf,h)
 |exc0 rf h=>show(_,_,_,rf,h)
def rQ.clear(R:rQ K H₀ s Hf S σ H u)i:rQ K H₀ s Hf (S.set i n_) (σ.set i n_) H<|u.set i []:=by
 show(by simp[R.len],by simp[R.lenF],λj a n=>?_,λj n=>?_,uI i R.nd aW (λp t=>by cases t),λp t=>R.fresh p<|tP t,R.sub,R.fr,R.lim,R.sf)
 .rw[bx]at n;by_cases l:i=j;.subst l;rw[qF rfl]at n;split at n <;> cases n
  .rw[qL l]at n;have(w,G,x,z,q):=R.rep j a n;show(w,G,by rw[ay l];show x,by rw[ay l];show z,q)
 .rw[bx]at n;by_cases l:i=j
  .subst l;rw[qF rfl]at n;split at n;.rename_i hi;rw[aV<|R.lenF.symm ▸ hi]
   .cases n
  .rw[qL l]at n;rw[ay l];show R.emp j n
def Jq(I:IsC K c' C')(hb:SS K tb mb)(hr:SH K tr mr):SH K (hAs K C' i tb tr)<|xAs c' i mb mr:=by
 intro H₀ E Hf S σ H Q o c fs e R B J D q C M O rf P;unfold xAs at B;split at B
 .rename_i G;show(c,M,t_,rf,by rw[Ref.mro rf I,G],?_);rw[qF rfl];have(z,e1,e2):=oMq.mp B;subst e2;show hb (R.setD i J) e1 _ ?_;cases z with
  |nx L=>show λl n t u s x=>q l _ t _ s<|rQ.clear x i
  |bk L=>show λl n t u s x=>q l _ t _ s<|rQ.clear x i
  |ct L=>show λl n t u s x=>q l _ t _ s<|rQ.clear x i
  |rt a=>show q
 .rename_i G;show(c,M,f_,rf,by rw[Ref.mro rf I,gY.mpr G],?_);rw[qL ⋯];show hr R B J D q C M O rf P
def D5:SH K alQ X2:=by intro H₀ l Hf S σ H s o c fs e R n t D q;cases n
end
noncomputable def aoM(f:uU)(a:MA)(hm:MH):MS:=λS=>(a S).bind λx=>(f<|x.1.map pA).bind λr=>match r with
 | .ok _=>bj<|.nx x.2
 | .ex c fs=>hm c fs x.2
noncomputable def Ka(i:Nat)(f:uU)(a:MA)(hm:MH):MS:=λS=>(a S).bind λx=>(f<|x.1.map pA).bind λr=>match r with
 | .ok r=>bj<|.nx<|x.2.set i<|bj r
 | .ex c fs=>hm c fs x.2
def Ae(R2:rQ K H₀ n Hf1 S σ t Fs1)(s1:rB Hf1 s)(s2:rB t u)(s3:rB s u)(l:∀b,Hf1 b=n_->t b≠n_->s b=n_):rQ K H₀ n s S σ u Fs1:=R2.more s2 s1 s3 (λq x=>l q (R2.mem x).2 (R2.mem x).1) λb B z=>l b (R2.lim b B z)<|Wa R2.fr z
def A2(ha:SA K ta a)(hh:SH K th hm):SS K (Ze i (vm K f) ta th)<|Ka i f a hm:=by
 intro H₀ s Hf S σ H X o R e D q;have(x,e1,e):=oBq.mp e;have(r,e2,e):=oBq.mp e;show ha R (as:=x.1) (S':=x.2) e1 _ λJ Y Fs1 vs Gs L O r1 P=>?_;have(R2,r2,B):=O.gives L r1 P;show(_,_,r,R2.sub,r2,e2,?_);cases r with
 |ok av=>cases e;show λt Q v F s1 s2 u l T nd fr=>q _ _ _ _ (B.sf.trans s1)<|(Ae R2 s1 s2 u l).set i T nd λq E=>(R2.fr.free<|fr q E,λm=>(R2.mem m).1<|fr q E)
 |ex c fs=>intro t Q ex od s1 s2 u l G e0 U;cases U;have z:=Ae R2 s1 s2 u l;have(C,M,n,rf,I):=aer G;show(C,n,z.sub _ _ I,hh z e G D (q.mono<|B.sf.trans s1) C M n rf<|z.sub _ _ I)
noncomputable def NR(f:Str):D->Option D
 | .exc _ fs=>(fs.lookup f).map .int
 |_=>n_
section
variable {K:Ζ}
def LU{fs:List<|Str×Int}(h:fs.lookup f=bj n):%[f|n]∈fs/\(fs.map λp=>%[p.1|V.int p.2]).lookup f=bj (.int n):=by induction fs with
 |nil=>cases h
 |cons p fs l=>have(g,k):=p;simp only[cG]at h ⊢;cases e:f == g with
  |true=>rw[e]at h;cases h;simp[cG,e,eq_of_beq e]
  |false=>rw[e]at h;have(a,b):=l h;show(mCo _ a,by simp[cG,e,b])
set_option tactic.hygienic true in
def Vy(ha:SR K te m):SR K (tXF K te f)<|vX (NR f) m:=by
 intro H₀ l Hf S σ H G d I R e Q q;have(x,e1,e):=oBq.mp e;have(z,e2,e):=oMq.mp e;cases e;show ha R (d:=x.1) (S':=x.2) e1 _ λu J Fs1 v B E r1=>?_;cases s:x.1 <;> rw[s]at e2 r1 <;> simp only[NR]at e2;all_goals first|(exfalso;simp at e2;done)|skip
 rename_i c fs;have(n,t,rfl):=oMq.mp e2;cases r1 with
 |exc rf nf h s=>show(_,c,_,_,_,_,n,rfl,h,s,rf,nf _ (LU t).1,(LU t).2,q _ _ _ _ B E .int)
 |exc0 rf h=>simp at t
def Xp(c:Str):ME:=λS=>bj %[.cls c|S]
def OY(h:IsC K c C):SR K (λZ H Q=>Q (.ref C) H)<|Xp c:=by intro H₀ l Hf S σ H n d s R e Q q;cases e;show q _ _ _ _ .refl R<|.cls h
def Iy(c:Str):D->Option Bool
 | .cls l=>bj<|under c l
 | .ty T=>if T = "ValueError" then bj t_ else n_
 |_=>n_
def GC(c:Str):List D->Option Bool
 | []=>bj f_
 |d::ds=>(Iy c d).bind λb=>(GC c ds).map λb2=>b || b2
def MB:List D->Option D
 | [.exc c _,.tup ds]=>(GC c ds).map .bl
 | [.exc c _,d]=>(Iy c d).map .bl
 |_=>n_
def aaU(h:IsC K s C'):(W.clsIn K C').isSome=t_/\W.typeIn K (.ref C')=bj (.type "type"):=by
 have key:∀{t:Ξ},Bl K s C' t=t_->(W.clsIn K C').isSome=t_/\W.typeIn K (.ref C')=bj (.type "type"):=λ{t} e=>by
  have((N,B,bs,E,sub,G,u,H,I,J,L,M,O,x),(P,l,_,_),_):=AL e;show(by rw[l];rfl,?_);change(K.lookup C').map (·.cls)=_;rw[x];rfl
 rcases h with⟨_,⟨Q,n⟩|⟨rfl,z⟩⟩;.show key n.xc
 .show key z
set_option tactic.hygienic true in
def NN(rf:Ref K c C M)(r:uG K H d v)(e:Iy c d=bj b):∃u,Oe v=bj u/\W.kitOne K (.ref C) u=bj b:=by
 cases r <;> simp only[Iy]at e;all_goals first|(exfalso;simp at e;done)|skip
 .rename_i n;split at e
  .rename_i hn;subst hn;cases e;show(_,rfl,?_);have(_,(z,l,hm,hn),_):=AL rf.xc;have s:W.mroIn K C (.type "ValueError")=bj t_:=by unfold W.mroIn;rw[l,bP,hm];simp only[fE,bW,if_false,bj.injEq];rw[bE,bE,show AM.contains (cI "ValueError")=t_ by rfl,eh,eh]
   change(if (ah C == cI "ValueError")=t_ then bj t_ else if W.kitMeta "ValueError" = t_ then W.mroIn K C<|.type "ValueError"else n_)=bj t_;rw[s,show W.kitMeta "ValueError" = t_ by trivial];rfl
  .cases e
 .rename_i E C' h;cases e;show(_,rfl,?_);have(B,g2):=aaU h;have s:=Ref.mro rf h;change(if (ah C == ah C')=t_ then bj t_ else if ((W.clsIn K C').isSome && W.typeIn K (.ref C') == bj (.type "type"))=t_ then W.mroIn K C (.ref C')else n_)=_;rw[B,g2,s];by_cases t:(ah C == ah C')=t_;.have x:C=C':=ah.inj<|beq_iff_eq.mp t;subst x;rw[qF t];have(_,(z,l,hm,hn),_):=AL rf.xc;unfold W.mroIn at s;rw[l,bP,hm]at s;simp only[fE,bW,if_false,bj.injEq]at s;rw[←s];simp
  .rw[qL t];rfl
theorem VW(rf:Ref K c C M):∀{ds}{vs}{b},sI K H ds vs->GC c ds=bj b->∃us,vs.mapM Oe=bj us/\W.kitAny K (.ref C) us=bj b
 | [],vs,b,r,e=>by obtain rfl:=r.nil_inv;cases e;show([],rfl,rfl)
 |d::ds,vs,b,r,e=>by
  have(v,B,rfl,r1,r2):=r.cons_inv;have(b1,e1,e2):=oBq.mp e;have(b2,l,n):=oMq.mp e2;have(u,s,t):=NN rf r1 e1;have(us,x,z):=VW rf r2 l;show(u::us,by rw[jJ,s,x];rfl,?_);subst n;unfold W.kitAny;rw[t];cases b1 with
  |true=>rfl
  |false=>show z
set_option tactic.hygienic true in
def KR:CbD K (aiI K) MB:=by
 intro I H Q J d r e q;have l:∀(c:Str) (fs:List<|Str×Int) (x:D),J=[.exc c fs,x]->((∃z b,x = .tup z/\GC c z=bj b/\d = .bl b)∨∃b,Iy c x=bj b/\d = .bl b)->aiI K I H Q:=by
  intro c fs x hd hb;subst hd;have(v,U,rfl,r1,r2):=r.cons_inv;have(X,L,rfl,E,O):=r2.cons_inv;obtain rfl:=O.nil_inv;obtain⟨t,C,M,B,P,rf,G⟩:∃t C M B,v = .ref t/\Ref K c C M/\H t=bj (J4 t C B):=by cases r1 with
   |exc rf nf h Y=>show(_,_,_,_,rfl,rf,h)
   |exc0 rf h=>show(_,_,_,_,rfl,rf,h)
  subst P;rcases hb with⟨z,b,rfl,hb,rfl⟩|⟨b,hb,rfl⟩;.have(p,us,rfl,n,s):=E.tup_inv;have(R,S,T):=VW rf s hb;show(t,c,C,M,B,_,b,rfl,G,rf,.inr (p,us,R,rfl,n,S,T),q _ .bl)
  .have(u,n,s):=NN rf E hb;show(t,c,C,M,B,_,b,rfl,G,rf,.inl (u,n,s),q _ .bl)
 unfold MB at e;split at e;.rename_i c fs z;have(b,n,s):=oMq.mp e;show l c fs _ rfl<|.inl (z,b,rfl,n,s.symm)
 .rename_i c fs x _;have(b,n,s):=oMq.mp e;show l c fs _ rfl<|.inr (b,n,s.symm)
 .cases e
end
noncomputable def kD:rD->D
 | .inl i=>.int i
 | .inr x=>.str x
def afE{K}k:uG K H (kD k)<|kV k:=by cases k with
 |inl i=>show .int
 |inr x=>show .str
def UJ(x y:Nat)(body:MS):List (rD×D)->AS->Option Ng
 | [],S=>bj<|.nx S
 |p::ps,S=>(body<|(S.set x<|bj<|.sh<|kD p.1).set y<|bj<|.sh p.2).bind λo=>match o with
  | .nx S'=>UJ x y body ps S'
  | .ct S'=>UJ x y body ps S'
  | .bk S'=>bj<|.nx S'
  | .rt a=>bj<|.rt a
def aoI(x y:Nat)(k:MK)(body:MS):MS:=λS=>(k S).bind λz=>(abV z.1).bind λkvs=>UJ x y body kvs z.2
def rQ.fix(R:rQ K H₀ l Hf S σ H B)(I:p∉B.flatten)(J:Hf p=n_)(E:H₀ p=n_):rQ K H₀ l (rO Hf p o) S σ (rO H p o) B:=by
 have s:rB Hf<|rO Hf p o:=uH J;show(R.len,R.lenF,λi L e=>?_,R.emp,R.nd,R.fresh,λb u z=>?_,λb u z=>?_,λb M G=>?_,R.sf.trans s)
 .have(v,F,e1,e2,r):=R.rep i L e;have t:∀q∈F,q≠p:=λq n z=>I<|by rw[←z];show mFq.mpr (F,mGq e2,n)
  show(v,F,e1,e2,r.keep s (λq n=>pB<|t q n) λq n=>by rw[pB<|t q n];show(r.owned q n).2)
 .by_cases hb:b=p;.subst hb;rw[pH]at z ⊢;show z
  .rw[pB hb]at z ⊢;show R.sub b u z
 .have hb:b≠p:=λq=>by rw[q,E]at z;cases z
  rw[pB hb];show R.fr b u z
 .have hb:b≠p:=λq=>G<|by rw[q];show E
  rw[pB hb];show R.lim b M G
def aoh(a:ME):MK:=λS=>(a S).bind λx=>(dictOf x.1).map λkvs=>%[.ow<|kvs.map λp=>.sh<|kD p.1|x.2]
def afZ:lO "ValueError" = bj (.type "ValueError"):=by trivial
structure ajL (K:Ζ)(mg:Str->Υ)(cn:Str)(C:Addr)(bm:Ξ):Prop where
 c:IsC K cn C
 xc:Bl K cn C bm=t_
 base:bm.contains (.type "BaseException")=t_
 mgc:mg cn=bj (.ref C)
structure UX (P:kx)(w:kB)(K:Ζ)(mg:Str->Υ)(bs:Heap)(cn fld prm:Str)(C M f:Addr)(fd:kz):Prop where
 c:IsC K cn C
 xc:Bl K cn C (.ref M::AM)=t_
 base:(ah M::AM).contains (.type "BaseException")=t_
 mgc:mg cn=bj (.ref C)
 i:Ini P w K mg bs 1 cn fld prm C M f fd
def Tf M:(ah M::AM).contains (.type "BaseException")=t_:=by rw[bE,show AM.contains (cI "BaseException")=t_ by rfl,eh]
section
variable {K:Ζ}{mg:Str->Υ}
def P5(a:W.nsIn K kr c=bj (bj<|.ref C))(n:W.nsIn K kr "MapError" = bj (bj<|.ref M))(x:Bl K c C (.ref M::AM)=t_)(s:Bl K "MapError" M AM=t_)(l:lk0 K C=t_):Ref K c C M:=(a,n,x,s,l)
def afM(X:K.In h)(G:h.Ns kr mg)(l:W.nsIn K kr "MapError" = bj (bj<|.ref M))(n:Bl K "MapError" M AM=t_):ajL K mg "MapError" M AM:=((l,.inr (rfl,n)),n,by rfl,W.mg_of X G l)
end
section
variable {K:Ζ}
def R8(t:aau K c fld vs H Q E) :
  Pd (Dj<|tBI K<|vB (xF 0)<|vB (tC<|.str s) xH) (sXF K (xF 0) (xF 1) fld) { nx:=λZ u=>Q .non u,rt:=Q } (wc ["self", l] vs) H:=by have(e,v,C,M,rfl,n,rf,nf,q):=t;show(_,rfl,e,_,c,C,M,rfl,n,rf,_,rfl,_,rfl,e,c,C,M,rfl,n,rf,nf,q)
end
def abu(G:Lr X.prog X.w X.K X.mg X.base k x st ps (vm X.K g) f fd)(hr:um k X.A)(ha:PA X (e::l) t)(u:↑(Gl X x))(n:⇑((x == ("__debug__" : Str))=f_))
  (z:↑(ku (e::l) X.env=%[f_|eval e X.env]::ku l X.env)) (s:↑((kN pos<|ku l X.env).any (·.1)=f_)) :
  PE X (.Call (.Name x p) (e::l) [] pos)<|xl (qQ X.K<|okX g) [] E0 t:=Ph (G.ok.imp λQ Q Q Q h=>akm h) hr u G.D.m G.D.F.kp G.D.b .nil ah8 ha n z s
noncomputable def apy(c:Str):MK:=λS=>bj %[.sh<|.cls c|S]
noncomputable def Vo:Option Fh->MX->Option Fh
 |n_,_=>n_
 |bj (.ok (.nx S)),b=>b S
 |bj o,_=>bj o
noncomputable def VP(c fld:Str):List D->Option Fh
 | [.int n]=>bj<|.ex c [%[fld|n]]
 |_=>n_
noncomputable def WJ:Fh->Option XW
 | .ok (.rt a)=>bj<|.ok a
 | .ok (.nx _)=>bj<|.ok<|.sh .non
 | .ex c fs=>bj<|.ex c fs
 |_=>n_
noncomputable def apa(hm:MH)(S:AS):XW->Option Ng
 | .ok _=>bj<|.nx S
 | .ex c fs=>hm c fs S
noncomputable def ah7(i:Nat)(hm:MH)(S:AS):XW->Option Ng
 | .ok r=>bj<|.nx<|S.set i<|bj r
 | .ex c fs=>hm c fs S
section
variable (S:AS)
def anB m:B7 m S=(m S).map .ok:=rfl
def Y5 b:Vo (bj<|.ok<|.nx S) b=b S:=rfl
def aae(a)b:Vo (bj<|.ok<|.rt a) b=bj (.ok<|.rt a):=rfl
def aa0(c)fs b:Vo (bj<|.ex c fs) b=bj (.ex c fs):=rfl
def amI a b:wk a b S=Vo (a S) b:=by change(a S).bind _=_;cases a S with
 |none=>rfl
 |some o=>cases o with
  |ok o=>cases o <;> rfl
  |ex c fs=>rfl
def anj(c)a b:Wf c a b S=(c S).bind λx=>if x.1=t_ then a x.2 else b x.2:=rfl
def RU(c fld)n:VP c fld [.int n]=bj (.ex c [%[fld|n]]):=rfl
def agh(c fld)a:DN c fld a S=(a S).bind λx=>VP c fld x.1:=rfl
def ZH a:WJ (.ok<|.rt a)=bj (.ok a):=rfl
def abL:WJ (.ok<|.nx S)=bj (.ok<|.sh .non):=rfl
def abW(c)fs:WJ (.ex c fs)=bj (.ex c fs):=rfl
def V1(l n)m ds:uT l n m ds=if ds.length=l then (m<|ds.map (λd=>bj<|.sh d)++aC (n-ds.length) n_).bind WJ else n_:=by
 change(if ds.length=l then (m _).bind _ else n_)=_;first|rfl|(congr 2;funext o;cases o with
 |ok o=>cases o <;> rfl
 |ex c fs=>rfl)
def ah1 a:okR (.ok a)=bj a:=rfl
def aog(f)ds:okX f ds=(f ds).bind okR:=rfl
def afN(i)hm a:ah7 i hm S (.ok a)=bj (.nx<|S.set i<|bj a):=rfl
def aec(i)hm c fs:ah7 i hm S (.ex c fs)=hm c fs S:=rfl
def ajk(i)f a hm:Ka i f a hm S=(a S).bind λx=>(f<|x.1.map pA).bind<|ah7 i hm x.2:=by change(a S).bind _=_;congr 1
def ana(l)i n rest c fs:xAs l i n rest c fs S=if under c l=t_ then (n<|S.set i<|bj<|.sh<|.exc c fs).map (clr i)else rest c fs S:=rfl
def akt i:clr i (.nx S) = .nx (S.set i n_):=rfl
def S5 c:under c c=t_:=by simp[under]
def acW(c l)fs:MB [.exc c fs,.cls l]=bj (.bl<|under c l):=rfl
def aex(c)fs:MB [.exc c fs,.ty "ValueError"]=bj (.bl t_):=by rfl
def WU(f c)n:NR f (.exc c [%[f|n]])=bj (.int n):=by simp[NR,cG]
def ale c:Xp c S=bj %[.cls c|S]:=rfl
end
noncomputable def En(x:Nat)(body:MX):List D->AS->Option Fh
 | [],S=>bj<|.ok<|.nx S
 |d::ds,S=>(body<|S.set x<|bj<|.sh d).bind λo=>match o with
  | .ok (.nx S')=>En x body ds S'
  | .ok (.ct S')=>En x body ds S'
  | .ok (.bk S')=>bj<|.ok<|.nx S'
  | .ok (.rt a)=>bj<|.ok<|.rt a
  | .ex c fs=>bj<|.ex c fs
def U2(x:Nat)(k:MK)(body:MX):MX:=λS=>(yG k S).bind λy=>(vT<|pA y.1).bind λds=>En x body ds y.2
noncomputable def wZ(f:AV->Option Fh):XW->Option Fh
 | .ok r=>f r
 | .ex c fs=>bj<|.ex c fs
def zL(f:uU)(a:MA):MX:=λS=>(a S).bind λx=>(f<|x.1.map pA).bind<|wZ λQ=>bj<|.ok<|.nx x.2
def Ii(i:Nat)(f:uU)(a:MA):MX:=λS=>(a S).bind λx=>(f<|x.1.map pA).bind<|wZ λr=>bj<|.ok<|.nx<|x.2.set i<|bj r
def Fe(f:uU)(a:MA):MX:=λS=>(a S).bind λx=>(f<|x.1.map pA).bind<|wZ λr=>bj<|.ok<|.rt r
noncomputable def CF(c:Str):MX:=λQ=>bj<|.ex c []
section
variable {K:Ζ}
def VU(hk:SK K te k)(hb:Kn K E tb body):Kn K E (Xl (U8 K te) (xa x) tb)<|U2 x k body:=by
 intro H₀ B Hf S σ H Fs o R e D h;have(z,e1,e):=oBq.mp e;have(X,e2,e):=oBq.mp e;have Y:SK K te<|yG k:=SK.frz hk;show Y R (a:=z.1) (S':=z.2) e1 _ λI H1 Fs1 v F t1 R1 r1 o1=>?_;have(d,hd):=Ew (te:=te) e1;rw[hd]at r1;rw[hd,xk]at e2;have(a,vs,rfl,g1,g2):=Bv e2 r1.sh_inv.2;show(a,rfl,(vs,R1.sub.seq g1),RK (xs:=vs) (λi n T=>∃l J s,rQ K H₀ B l J n T s/\rB I l/\En x body (X.drop i) J=bj o) (I,z.2,Fs1,R1,.refl _,e)
  (λi n T _ ⟨l,J,s,L,u,_⟩=>L.sub.seq<|u.seq g1) ?_ ?_);.rintro i w n T hw ⟨l,J,s,L,u,G⟩;have(di,M,rw'):=g2.get' hw;have hlt:i<X.length:=(gSq.mp M).1;rw[aS hlt]at G;have O:X[i]=di:=(gSq.mp M).2;rw[O]at G;have(ob,e3,P):=oBq.mp G;show hb (L.setD x<|rw'.mono u) e3 _ ?_;cases ob with
  |ex c fs=>cases P;show h
  |ok ob=>cases ob with
   |nx U=>show λt Q H2 Fs2 s2 R2=>(t,U,Fs2,R2,u.trans s2,P)
   |ct U=>show λt Q H2 Fs2 s2 R2=>(t,U,Fs2,R2,u.trans s2,P)
   |bk U=>cases P;show λt Q H2 Fs2 s2 R2=>h _ _ _ _ ((t1.sf.trans u).trans s2) R2
   |rt a=>cases P;show h
 .rintro n T ⟨l,J,s,L,u,G⟩;rw[←g2.1,cU]at G;cases G;show h _ _ _ _ (t1.sf.trans u) L
def Be{D}(R2:rQ K H₀ n Hf1 S' σ B Fs1)(e:wZ g r=bj o)(s0:rB Hf Hf1)
  (q:KF K H₀ n Hf D E o) (H:∀u,g u=bj o->∀s t v F,rB Hf1 s->rQ K H₀ n s S' σ t Fs1->rP K s t u v F->F.Nodup->(∀p∈F,B p=n_)->Q v t):ag9 K Hf1 B Q E r:=by cases r with
 |ok u=>show λs t v F s1 s2 G l I nd fr=>H u e s t v F s1 (Ae R2 s1 s2 G l) I nd fr
 |ex c fs=>cases e;intro s t ex J s1 s2 G l L;have z:=Ae R2 s1 s2 G l;show q s t ex J z.sf z.fr z.sub z.lim L
def yn(ha:SA K ta a):Kn K E (Dj<|xl (vm K f) [] E ta)<|zL f a:=by
 intro H₀ l Hf S σ H J o R e D q;have(x,e1,e):=oBq.mp e;have(r,e2,e):=oBq.mp e;show ha R (as:=x.1) (S':=x.2) e1 _ λs L Fs1 M O t u r1 B=>?_;have(R2,r2,n):=u.gives t r1 B;rw[aNq];show(_,_,r,R2.sub,r2,e2,Be R2 e n.sf q λP z G Q v F s1 I T nd fr=>by cases z;show q _ _ _ _ (n.sf.trans s1) I)
def wU(ha:SA K ta a):Kn K E (OT (xl (vm K f) [] E ta)<|xa i)<|Ii i f a:=by
 intro H₀ l Hf S σ H M o R e D q;have(x,e1,e):=oBq.mp e;have(r,e2,e):=oBq.mp e;show ha R (as:=x.1) (S':=x.2) e1 _ λt O Fs1 P Q u B r1 G=>?_;have(R2,r2,n):=B.gives u r1 G;rw[aNq];show(_,_,r,R2.sub,r2,e2,Be R2 e n.sf q λT z I U v F s1 J L nd fr=>by cases z;show q _ _ _ _ (n.sf.trans s1)<|J.set i L nd λp s=>(R2.fr.free<|fr p s,λm=>(R2.mem m).1<|fr p s))
def Dd(rf:Ref K l C M):Kn K E (tRs E C<|amG K l)<|CF l:=by
 intro H₀ n Hf S σ H J o R e D q;cases e;show(C,M,rf,λex s=>(ex,n_,rfl,pH,?_));rw[EO];have t:Hf ex=n_:=R.sub.free s;show q (rO Hf ex<|J4 ex C n_) _ ex n_ (R.sf.trans<|uH t) (R.fr.trans<|uH s) (λb B z=>?_) (λb G u=>?_)<|.exc0 rf pH
 .by_cases hb:b=ex;.subst hb;rw[pH]at z ⊢;show z
  .rw[pB hb]at z ⊢;show R.sub b B z
 .have I:b≠ex:=λz=>u<|by rw[z];show R.fr.free s
  rw[pB I];show R.lim b G u
noncomputable def ane(c fld:Str)(S:AS):List D->Option (D×AS)
 | [.int n]=>bj %[.exc c [%[fld|n]]|S]
 |_=>n_
def rMk(c fld:Str)(a:ML):ME:=λS=>(a S).bind λx=>ane c fld x.2 x.1
noncomputable def anu(c l s:Str)(S:AS):List D->Option (D×AS)
 | [.int n,.int m]=>bj %[.exc c [%[l|n],%[s|m]]|S]
 |_=>n_
def ao8(c l n:Str)(a:ML):ME:=λS=>(a S).bind λx=>anu c l n x.2 x.1
noncomputable def apd:D->D->Option D
 | .tup [.str u,.int i],.tup [.str v,.int j]=>bj<|.bl<|decide<|u=v/\i=j
 |_,_=>n_
noncomputable def ao5:D->D->Option D
 | .tup [.str u,.int i],.tup [.str v,.int j]=>bj<|.bl<|!decide (u=v/\i=j)
 |_,_=>n_
end
def vI(G:Lr X.prog X.w X.K X.mg X.base k x st ps (vm X.K g) f fd)(hr:um k X.A)(u:yX (W8 X.prog X.w) X E)(ha:PA X (e::l) t)(z:↑(Gl X x))(n:⇑((x == ("__debug__" : Str))=f_))
  (B:↑(ku (e::l) X.env=%[f_|eval e X.env]::ku l X.env)) (s:↑((kN pos<|ku l X.env).any (·.1)=f_)) :
  PE X (.Call (.Name x p) (e::l) [] pos)<|xl (vm X.K g) [] E t:=Ph G.ok hr z G.D.m G.D.F.kp G.D.b .nil u ha n B s
structure NY (K:Ζ)(mg:Str->Υ)(cn:Str)(C M:Addr):Prop where
 c:IsC K cn C
 xc:Bl K cn C (.ref M::AM)=t_
 base:(ah M::AM).contains (.type "BaseException")=t_
 mgc:mg cn=bj (.ref C)
 i:akW K mg cn C M
def WL{K:Ζ}{mg:Str->Υ}(X:K.In h)(G:h.Ns kr mg)(r:Ref K c C M)(ini:W.findIn K (.ref C) "__init__" = bj (bj<|.builtin "ValueError.__init__"))(kp:W.keepIn K (.ref C)=t_):NY K mg c C M:=((r.nm,.inl (M,r)),r.xc,Tf M,W.mg_of X G r.nm,(r,ini,kp,W.mg_of X G r.nm))
def Wy(S)x k body:U2 x k body S=(yG k S).bind λy=>(vT<|pA y.1).bind λds=>En x body ds y.2:=rfl
def abK(g)r:wZ g (.ok r)=g r:=rfl
def aba(g)c fs:wZ g (.ex c fs)=bj (.ex c fs):=rfl
def akn(S)f a:zL f a S=(a S).bind λx=>(f<|x.1.map pA).bind<|wZ λQ=>bj<|.ok<|.nx x.2:=rfl
def als(S)i f a:Ii i f a S=(a S).bind λx=>(f<|x.1.map pA).bind<|wZ λr=>bj<|.ok<|.nx<|x.2.set i<|bj r:=rfl
def acM(S)c:CF c S=bj (.ex c []):=rfl
noncomputable def aaI:D->Option Str
 | .str x=>bj x
 |_=>n_
noncomputable def amT:D->List D->Option D
 | .str a,[.str b]=>bj<|.bl<|Txt.startswith a b
 |_,_=>n_
noncomputable def apb:D->D->Option D
 | .str i,.str j=>bj<|.bl<|!(Builtin.Str.occurrences j i 0 j.length 1).isEmpty
 |_,_=>n_
noncomputable def am4:D->D->Option D
 | .str i,.str j=>bj<|.bl<|!(!(Builtin.Str.occurrences j i 0 j.length 1).isEmpty)
 |_,_=>n_
noncomputable def Hu(x y:D):Option D:=match y with
 | .non=>(match x with|.non=>bj<|.bl t_|.int _=>bj<|.bl f_|.str _=>bj<|.bl f_|.bl _=>bj<|.bl f_|.list _=>bj<|.bl f_|.tup _=>bj<|.bl f_|_=>n_)
 |_=>n_
def aoU:List D->Option D
 | [.str x]=>(intText? x).bind λn=>yP (x.length<=640)<|bj<|.int n
 |_=>n_
noncomputable def amS:D->List D->Option D
 | .str a,[.str b]=>((Builtin.Str.occurrences a b 0 a.length 1).head?).map λi=>.int (i:Nat)
 |_,_=>n_
noncomputable def Vk:List D->Option (List Bool)
 | []=>bj []
 | .bl b::ds=>(Vk ds).map (b :: ·)
 |_=>n_
def ape:List D->Option D
 | [.list ds]=>(Vk ds).map λbs=>.bl<|bs.all id
 |_=>n_
def J6:Nr K (λx y H Q=>y = .non/\Q (.bl<|decide<|x = .non) H) Hu:=by
 intro x y H Q s t d l n e q;cases n <;> first|(cases e;)|skip
 cases l <;> first|(cases e;done)|(cases e;show(rfl,q _<|by show uG.bl))
def ao9(a:ME)(lo hi:MO):ME:=λS=>(a S).bind λx=>(lo x.2).bind λy=>(hi y.2).bind λz=>(aaI x.1).bind λt=>yP (t.length<=tL)<|bj %[.str<|Txt.slice t y.1 z.1|z.2]
def agq:D->List D->Option (List Str)
 | .str a,[.str b]=>yP ((b.length == 0)=f_/\a.length<=tL/\(Builtin.Str.partsBetween a (Builtin.Str.occurrences a b 0 a.length<|a.length+1) b.length).length<=tL/\(Txt.split a b).length<=tL)<|bj<|Txt.split a b
 |_,_=>n_
def aom(a:ME)(as:ML):MK:=λS=>(a S).bind λx=>(as x.2).bind λy=>(agq x.1 y.1).map λl=>%[.ow<|l.map λw=>.sh<|.str w|y.2]
noncomputable def agD(x:Str):List D:=x.cps.toList.map λc=>.str ⟨#[c]⟩
def iSg(a:ME):MI:=λS=>(a S).bind λx=>(aaI x.1).map λt=>%[agD t|x.2]
def aoW(x:Nat)(a:ME)(body:MS):MS:=λS=>(a S).bind λy=>(aaI y.1).bind λt=>vw x body (agD t) y.2
noncomputable def Ue(x y:Nat)(body:MX):Nat->List D->AS->Option Fh
 |_,[],S=>bj<|.ok<|.nx S
 |i,d::ds,S=>(body<|(S.set x<|bj<|.sh<|.int i).set y<|bj<|.sh d).bind λo=>match o with
  | .ok (.nx S')=>Ue x y body (i+1) ds S'
  | .ok (.ct S')=>Ue x y body (i+1) ds S'
  | .ok (.bk S')=>bj<|.ok<|.nx S'
  | .ok (.rt a)=>bj<|.ok<|.rt a
  | .ex c fs=>bj<|.ex c fs
def aoR(x y:Nat)(k:MK)(body:MX):MX:=λS=>(yG k S).bind λz=>(vT<|pA z.1).bind λds=>Ue x y body 0 ds z.2
def xw(ha:SA K s a):Kn K E (Yi<|xl (vm K f) [] E s)<|Fe f a:=by
 intro H₀ n Hf S σ H O o R e D q;have(x,e1,e):=oBq.mp e;have(r,e2,e):=oBq.mp e;show ha R (as:=x.1) (S':=x.2) e1 _ λt P Fs1 Q T u B r1 G=>?_;have(R2,r2,I):=B.gives u r1 G;rw[aNq];show(_,_,r,R2.sub,r2,e2,Be R2 e I.sf q λU z J X v F s1 l L nd fr=>by cases z;show q _ _ _ _ l.sf l.fr l.sub l.lim L nd λp M=>R2.fr.free<|fr p M)
def Q0:Hu .non .non=bj (.bl t_):=rfl
def Ky i:Hu (.int i) .non=bj (.bl f_):=rfl
def KC x:Hu (.str x) .non=bj (.bl f_):=rfl
def XA ds:Hu (.list ds) .non=bj (.bl f_):=rfl
def alI(S)f a:Fe f a S=(a S).bind λx=>(f<|x.1.map pA).bind<|wZ λr=>bj<|.ok<|.rt r:=rfl
abbrev acP:=Tc acR λi j=>.int<|i / j
def SM(K:Ζ)(te:TE)(m:ME):Prop:=∀{H₀ l Hf}{S}{σ}{H}{u}{d}{S'},rQ K H₀ l Hf S σ H u->m S=bj %[d|S']->∀Q:VK,
 (∀n t s v,rB Hf n->rQ K H₀ l n S' σ t s->uG K n d v->Q v t)->te σ H Q
noncomputable def shD:AV->Option D
 | .sh d=>bj d
 |_=>n_
def acB(h:shD a=bj d):a = .sh d:=by
 unfold shD at h;split at h <;> cases h;rfl
def Hq(i:Nat)(b:ME):ME:=λS=>(tW S i).bind λQ=>(b S).bind λy=>(intOf y.1).bind λz=>(tW y.2 i).bind λavs=>yP (0<=z/\z<avs.length/\avs.length<=tL)<|(avs[z.toNat]?.bind shD).map λd=>%[d|y.2.set i<|bj<|.ow<|avs.eraseIdx z.toNat]
def M0(i:Nat):ME:=λS=>(tW S i).bind λavs=>(avs[avs.length-1]?.bind shD).map λd=>%[d|S.set i<|bj<|.ow avs.dropLast]
noncomputable def ak6(kvs:List<|rD×D)(k:rD):List<|rD×D:=kvs.filter λl=>decide<|l.1≠k
def aoL(i:Nat)(b:ME):ME:=λS=>(zK S i).bind λQ=>(b S).bind λy=>(zt y.1).bind λkey=>(zK y.2 i).bind λkvs=>(getD kvs key).map λd=>%[d|y.2.set i<|bj<|.owd<|ak6 kvs key]
def adW:Nr K (rI acR λi j=>.int<|i / j) acP:=RL λQ Q Q=>.int
def qX.erase(r:qX K Hf H as vs n)k:qX K Hf H (as.eraseIdx k) (vs.eraseIdx k)<|n.eraseIdx k:=by
 have(t,u,s):=r;show(by rw[eS,eS,t],by rw[eS,eS,u],λi b w G e1 e2 l=>?_);rw[List.getElem?_eraseIdx]at e1 e2 l;split at e1;.rename_i q;rw[qF q]at e2 l;show s i b w G e1 e2 l
 .rename_i q;rw[qL q]at e2 l;show s (i+1) b w G e1 e2 l
def Ua{l:List Δ}(h:l[k]?=bj []):(l.eraseIdx k).flatten=l.flatten:=by induction l generalizing k with
 |nil=>cases h
 |cons g r n=>cases k with
  |zero=>simp at h;subst h;rfl
  |succ k=>simp only[bU,fCq,fCq,n<|by show h]
def rQ.lose(R:rQ K H₀ l Hf S σ H t)(h:S[i]?=bj (bj<|.ow avs))(hk:avs[k]?=bj (.sh d)) :
  ∃p vs y F',σ[i]?=bj (bj<|.ref p)/\H p=bj (.lst vs)/\avs.length=vs.length/\vs[k]?=bj y/\uG K Hf d y/\rQ K H₀ l Hf (S.set i<|bj<|.ow<|avs.eraseIdx k) σ (rO H p<|.lst<|vs.eraseIdx k) (t.set i F'):=by
 have(p,vs,u,s1,s2,I,J,n,x,L,M):=R.ow h;have lk:=(gSq.mp hk).1;obtain⟨y,z⟩:∃y,vs[k]?=bj y:=(_,gEg<|by rw[←n.1];show lk);obtain⟨G,B⟩:∃G,u[k]?=bj G:=(_,gEg<|by rw[←n.2.1];show lk);have(s,O):=(n.2.2 k _ _ _ hk z B).sh_inv;subst s;have E:=Ua B;show(p,vs,y,p::(u.eraseIdx k).flatten,s1,I,n.1,z,O,R.turn s1 s2 ⋯ (rP.news pH J<|(n.keepUpd x).erase k) ?_ ?_);.rw[E];show aJ.mpr (x,L)
 .rw[E];show M
def Qw(hb:SR K E b):SM K (Vu K "list" aaV (xF i)<|vB E xH)<|Hq i b:=by
 intro H₀ s Hf S σ H Fs d S' R e Q q;have(a0,G,e):=oBq.mp e;have(y,e1,e):=oBq.mp e;have(z,e2,e):=oBq.mp e;have(l,I,e):=oBq.mp e;rcases rh e with⟨⟨J,L,M⟩,e⟩|e
 .have(d',t,e):=oMq.mp e;cases e;have(a,t,u):=oBq.mp t;have u:=acB u;subst u;have(p,O,Gs,s1,_,P,_):=R.ow<|rE G;show(.ref p,s1,.inl (rfl,O,vk.of P),hb R (d:=y.1) (S':=y.2) e1 _ λT H1 Fs1 v U X r1=>?_);have(p',x,w,F',n,Y,hl,hw,B,R2):=X.lose (rE I) t;rw[s1]at n;cases n;have hv:v = .int z:=by
   have:y.1 = .int z:=by
    revert e2;unfold intOf;split <;> intro e2 <;> cases e2;assumption
   rw[this]at r1;cases r1;rfl
  subst hv;have hz:(l.length:Int)<=16777216:=by have:l.length<=16777216:=M;lia
  show(p,x,z,z.toNat,w,rfl,rfl,Y,by lia,by lia,?_,hw,q _ _ _ _ U.sf R2 B);rw[←hl];unfold ac0;have n1:¬ z<0:=by ac_nf
  have n2:(decide (0<=z) && decide (z<(l.length:Int)))=t_:=by rw[d0 J,d0 L];rfl
  simp only[n1,if_false];show qF n2
 .cases e
def akw:SM K (Vu K "list" aik (xF i) xH)<|M0 i:=by
 intro H₀ l Hf S σ H E d G R e Q q;have(z,B,e):=oBq.mp e;have(I,n,e):=oMq.mp e;cases e;have(a,n,s):=oBq.mp n;have s:=acB s;subst s;have(p,u,w,J,s1,x,hl,hw,t,R2):=R.lose (rE B) n;show(.ref p,s1,.inl (rfl,u,vk.of x),p,u,w,rfl,rfl,x,by rw[←hl];show hw,?_);rw[Gb,hl,Gb]at R2;show q _ _ _ _ (.refl _) R2 t
noncomputable def akQ(i:Nat)(m:ME):MS:=λS=>(m S).map λx=>.nx<|x.2.set i<|bj<|.sh x.1
def aov(i:Nat)(m:ME):MS:=λS=>(tW S i).bind λQ=>(m S).bind λx=>(tW x.2 i).bind λavs=>yP (avs.length<tL)<|bj<|.nx<|x.2.set i<|bj<|.ow<|avs++[.sh x.1]
def Uv(i:Nat)(b:ME)(m:ME):MS:=λS=>(m S).bind λx=>(zK x.2 i).bind λQ=>(b x.2).bind λy=>(zK y.2 i).bind λkvs=>(zt y.1).bind λkey=>yP (kvs.length<tL)<|bj<|.nx<|y.2.set i<|bj<|.owd<|IM kvs key x.1
def aaL(hk:SM K te m)(hb:SR K G b):SS K (Zq (xF i) G te)<|Uv i b m:=by
 intro H₀ s Hf S σ H Fs o R e D h;have(x,e1,e):=oBq.mp e;have(a0,M,e):=oBq.mp e;have(y,e2,e):=oBq.mp e;have(O,P,e):=oBq.mp e;have(key,Q,e):=oBq.mp e;rcases rh e with⟨hl,e⟩|e
 .cases e;show hk R (d:=x.1) (S':=x.2) e1 _ λT H1 Fs1 v U I r1=>?_;have(J,_,s1,_):=I.owd<|Ay M;show(_,s1,hb I (d:=y.1) (S':=y.2) e2 _ λX H2 Fs2 w L R2 r2=>?_);have(q',kv,l,t,u,z,n,B,E):=R2.owd<|Ay P;rw[s1]at l;cases l;have Y:=r1.mono L.sf;have hw:=BB Q r2;subst hw;show(J,_,rfl,Xa.k u<|by rw[FC,←n.len];show hl,h _ _ _ _ (U.trans L.sf)<|R2.turn s1 t ⋯ (F':=[J]) (.owd pH z<|Qr n Y) ⋯ λq hq=>by rw[mSq.mp hq];show(B,E))
 .cases e
def ahU d:shD (.sh d)=bj d:=rfl
def aaJ(S)i b:Hq i b S=(tW S i).bind λQ=>(b S).bind λy=>(intOf y.1).bind λz=>(tW y.2 i).bind λavs=>yP (0<=z/\z<avs.length/\avs.length<=tL)<|(avs[z.toNat]?.bind shD).map λd=>%[d|y.2.set i<|bj<|.ow<|avs.eraseIdx z.toNat]:=rfl
def aku(S)i:M0 i S=(tW S i).bind λavs=>(avs[avs.length-1]?.bind shD).map λd=>%[d|S.set i<|bj<|.ow avs.dropLast]:=rfl
def afh(S)i b m:Uv i b m S=(m S).bind λx=>(zK x.2 i).bind λQ=>(b x.2).bind λy=>(zK y.2 i).bind λkvs=>(zt y.1).bind λkey=>yP (kvs.length<tL)<|bj<|.nx<|y.2.set i<|bj<|.owd<|IM kvs key x.1:=rfl
def zF(x y:D):Option D:=match x with
 | .tup _=>MN x y
 |_=>Gw x y
def Zj:MF:=λQ=>n_
def ao6(i:Nat)(b:ME)(k:MK):MS:=λS=>(tW S i).bind λQ=>(b S).bind λy=>(intOf y.1).bind λz=>(yG k y.2).bind λx=>(tW x.2 i).bind λavs=>yP (0<=z/\z<=avs.length/\avs.length<tL)<|bj<|.nx<|x.2.set i<|bj<|.ow<|avs.take z.toNat++x.1::avs.drop z.toNat
def xG:Nr K (λx y H Q=>abJ K x y H Q∨aeO K x y H Q) zF:=by
 intro x y H Q s t d l n e q;unfold zF at e;split at e;.show .inr<|UQ l n e q
 .show .inl<|B0 l n e q
def aef(D:xC K mg x st ps f fd):Fn P w K mg base k x st ps (qQ K Zj) f fd:=(D,(λn H Q E h=>(by have(Hf,t,a,s,r,e,q):=h;cases e),λA outer s H l us n Q E Z Z Z Z h=>(by have(Hf,t,a,s,r,e,q):=h;cases e)))
def WX(ds)i:zF (.list ds) (.int i)=atI ds i:=rfl
def Eb(ds)i:zF (.tup ds) (.int i)=atI ds i:=rfl
noncomputable def SE:D->String->Option D
 | .int _,T=>if T = "list" ∨ T = "tuple" ∨ T = "str" then bj (.bl f_)else n_
 | .str _,T=>if T = "list" ∨ T = "tuple" then bj (.bl f_)else n_
 | .non,T=>if T = "list" ∨ T = "tuple" then bj (.bl f_)else n_
 | .list _,T=>if T = "tuple" then bj (.bl f_)else n_
 | .tup _,T=>if T = "list" then bj (.bl f_)else n_
 |_,_=>n_
def D0:List D->Option D
 | [x,.ty T]=>SE x T
 |_=>n_
def vM(ds:List D):Option D:=match EE ds with
 |bj d=>bj d
 |n_=>D0 ds
set_option tactic.hygienic true in
def air:CbD K (λxs H Q=>∃x T,xs=[x,.ty T]/\ahO K x H T/\Q (.bl f_) H) D0:=by
 intro B H Q E d r e q;unfold D0 at e;split at e;rotate_left;.cases e
 rename_i x T;have(v,G,rfl,l,s):=r.cons_inv;have(u,I,rfl,t,z):=s.cons_inv;rw[z.nil_inv];cases t;unfold SE at e;cases x <;> first|(cases e;)|dsimp only at e
 all_goals
  split at e;rotate_left;.cases e
  rename_i n;cases e
 .cases l;show(_,_,rfl,n,q _ .bl)
 .cases l;show(_,_,rfl,n,q _ .bl)
 .cases l;show(_,_,rfl,n,q _ .bl)
 .have(p,xs,rfl,h,_):=l.list_inv;show(_,_,rfl,.inl (n,xs,vk.of h),q _ .bl)
 .have(p,xs,rfl,h,_):=l.tup_inv;show(_,_,rfl,.inr (n,xs,FF.of h),q _ .bl)
def Bq:CbD K (λxs H Q=>(∃x T b,xs=[x,.ty T]/\akj K x H T b/\Q (.bl b) H)∨∃x T,xs=[x,.ty T]/\ahO K x H T/\Q (.bl f_) H) vM:=by
 intro n H Q s d r e q;unfold vM at e;split at e;.rename_i l;cases e;show .inl<|ajD r l q
 .show .inr<|air r e q
def aiu ds:vM [.list ds,.ty "list"]=bj (.bl t_):=by rfl
def ajj ds:vM [.list ds,.ty "tuple"]=bj (.bl f_):=by rfl
def ajb ds:vM [.tup ds,.ty "list"]=bj (.bl f_):=by rfl
def akl ds:vM [.tup ds,.ty "tuple"]=bj (.bl t_):=by rfl
def aiD x:vM [.str x,.ty "list"]=bj (.bl f_):=by rfl
def aim x:vM [.str x,.ty "tuple"]=bj (.bl f_):=by rfl
def akb x:vM [.str x,.ty "str"]=bj (.bl t_):=by rfl
def aju i:vM [.int i,.ty "list"]=bj (.bl f_):=by rfl
def ajs i:vM [.int i,.ty "tuple"]=bj (.bl f_):=by rfl
def akf i:vM [.int i,.ty "str"]=bj (.bl f_):=by rfl
def akg i:vM [.int i,.ty "int"]=bj (.bl t_):=by rfl
def ajO i:vM [.int i,.ty "bool"]=bj (.bl f_):=by rfl
def ahV:vM [.non,.ty "list"]=bj (.bl f_):=by rfl
def ais:vM [.non,.ty "tuple"]=bj (.bl f_):=by rfl
def akq(b:ME)(k:MK):MK:=λS=>(b S).bind λy=>(yG k y.2).bind λx=>(zt y.1).map λkey=>%[.owd [%[key|pA x.1]]|x.2]
def aga:SM K (amC K "list" aik<|xF i)<|M0 i:=akw
noncomputable def ag3:List (rD×D)->Option Ϝ
 | []=>bj []
 | %[.inl i|_]::r=>(ag3 r).map (i :: ·)
 |_=>n_
def aiz(a:ME):MK:=λS=>(a S).bind λx=>match x.1 with
 | .dict kvs=>(ag3 kvs).map λns=>%[.ow<|(Ga ns).map λn=>.sh<|.int n|x.2]
 |_=>n_
noncomputable def abT:D->Option V
 | .non=>bj .non
 | .bl b=>bj<|.bl b
 | .int i=>bj<|.int i
 | .str s=>bj<|.str s
 |_=>n_
def IP:List D->Option (List V)
 | []=>bj []
 |d::ds=>(abT d).bind λv=>(IP ds).map (v :: ·)
noncomputable def ajK:D->Option (List D)
 | .list ds=>bj ds
 | .tup ds=>bj ds
 |_=>n_
def HA(neg:Bool)(x y:D):Option D:=(abT x).bind λv=>(ajK y).bind λds=>(IP ds).map λvs=>.bl<|if neg then !inV v vs else inV v vs
def NA(e:abT d=bj v)(r:uG K H d w):w=v/\Ft v=t_:=by cases d <;> first|(cases e;cases r;show(rfl,rfl))|cases e
theorem Eu:∀{ds}{vs l},IP ds=bj vs->sI K H ds l->l=vs/\vs.all Ft=t_
 | [],vs,l,e,r=>by cases e;show(r.nil_inv,rfl)
 |d::ds,vs,l,e,r=>by have(v,e1,e):=oBq.mp e;have(us,e2,rfl):=oMq.mp e;have(w,n,rfl,r1,r2):=r.cons_inv;have(rfl,s):=NA e1 r1;have(rfl,t):=Eu e2 r2;show(rfl,by rw[eV,s,t];rfl)
def OF neg:Nr K (rIn K neg)<|HA neg:=by intro x y H Q I B d E t e q;have(v,e1,e):=oBq.mp e;have(J,e2,e):=oBq.mp e;have(L,u,e):=oMq.mp e;subst e;have(rfl,z):=NA e1 E;cases B with
 |list G=>cases e2;have(p,us,rfl,l,n):=t.list_inv;have(rfl,s):=Eu u n;show(p,us,rfl,.inl<|vk.of l,z,s,q _ .bl)
 |tup G=>cases e2;have(p,us,rfl,l,n):=t.tup_inv;have(rfl,s):=Eu u n;show(p,us,rfl,.inr<|FF.of l,z,s,q _ .bl)
 |_=>cases e2
def RY(ns:Ϝ):IP (ns.map D.int)=bj (ns.map V.int):=by induction ns with
 |nil=>rfl
 |cons n ns l=>rw[aq,IP,l];rfl
def acT i(ns:Ϝ):inV (.int i) (ns.map V.int)=decide (i∈ns):=by
 unfold inV;induction ns with
 |nil=>rfl
 |cons n ns l=>
  rw[aq,dQ,l];change(n == i || decide (i∈ns))=_;by_cases h:i=n;.subst h;simp
  .have s:¬ n=i:=λz=>h z.symm;simp[h,s]
def Oz(neg)i(ns:Ϝ):HA neg (.int i) (.list<|ns.map D.int)=bj (.bl<|if neg then !decide (i∈ns)else decide<|i∈ns):=by change(IP<|ns.map D.int).map _=_;rw[RY,bK,acT]
noncomputable def Pz(l:MT)(te:MK)(cap:AS):List (D×D)->Option (List AV)
 | []=>bj []
 |d::ds=>(l<|bj (.sh d.1)::bj (.sh d.2)::cap).bind λb=>if b.1=t_ then (te b.2).bind λa=>(Pz l te cap ds).map (a.1 :: ·)else Pz l te cap ds
noncomputable def agU:Nat->List D->List (D×D)
 |_,[]=>[]
 |n,d::ds=>%[.int (n:Int)|d]::agU (n+1) ds
def anC(k:MK)(fr:Θ)(n:MT)(te:MK):MK:=λS=>(yG k S).bind λy=>(vT<|pA y.1).bind λds=>(fzAll fr y.2).bind λl=>(L3 l fr).bind λcap=>yP (ds.length<=tL)<|(Pz n te cap<|agU 0 ds).map λavs=>%[.ow avs|l]
theorem Pb.same(s:rB H H'):∀{path}{v w},Pb H v path w->Pb H' v path w
 | [],v,w,h=>h
 |j::js,v,w,⟨p,vs,u,h1,h2,h3,h4⟩=>(p,vs,u,h1,s _ _ h2,h3,Pb.same s h4)
theorem Pb.one:∀{path}{v w l},Pb H v path w->Pb H v path l->w=l
 | [],v,w,l,h,t=>h.symm.trans t
 |j::js,v,w,l,hz,hy=>by have(p,J,u,x,z,B,E):=hz;have(L,G,M,n,g2,s,I):=hy;rw[x]at n;cases n;rw[z]at g2;cases g2;rw[B]at s;cases s;show E.one I
theorem Pb.snoc:∀{path}{v}{p}{vs}{n}{u},Pb H v path (.ref p)->H p=bj (.lst vs)->vs[n]?=bj u->Pb H v (path++[n]) u
 | [],v,p,vs,n,u,h,l,s=>(p,vs,u,h,l,s,rfl)
 |j::js,v,p,vs,n,u,⟨p',vs',u',g1,g2,g3,g4⟩,l,s=>(p',vs',u',g1,g2,g3,g4.snoc l s)
theorem Pb.kept:∀{path}{l}{v w}{F}{as},rP K Hf H l v F->sH l path=bj as->Pb H v path w->(∀q∈F,H' q=H q)->Pb H' v path w
 | [],l,v,w,F,as,_,_,h,_=>h
 |j::js,l,v,w,F,as,r,e,hz,hk=>by have(p,G,u,n,s,t,I):=hz;cases l with
  |ow J=>
   have(Q,L,R,e1,e2,x,T,z):=r.ow_inv;rw[n]at e1;cases e1;rw[s]at x;cases x;have(a,B,e):=oBq.mp<|e;have M:=(gSq.mp B).1;have E:=gEg<|z.2.1 ▸ M;have O:=z.2.2 j a u _ B t E;show(p,G,u,n,by rw[hk p<|by rw[e2];simp];show s,t,I.kept O e λq P=>hk q ?_);rw[e2];show mCo _<|sO E P
  |_=>cases e
noncomputable def frm(H₀ H:Hp)(F:Δ):Hp:=λb=>if b∈F then H b else H₀ b
def Pp(h:b∈F):frm H₀ H F b=H b:=qF h
def E9(h:b∉F):frm H₀ H F b=H₀ b:=qL h
def rQ.frame(R:rQ K H₀ Hf₀ Hf S σ H Fs)(s2:Fs[i]?=bj F):rQ K (frm H₀ H F) Hf₀ Hf (S.set i n_) σ H<|Fs.set i []:=by
 have l:=R.kill i;have t:∀q∈F,q∈Fs.flatten:=λq x=>sO s2 x;show(l.len,l.lenF,l.rep,l.emp,l.nd,λp n=>?_,l.sub,λb u e=>?_,λb B s=>?_,l.sf)
 .have hn:=λz=>yr R.nd s2 z n;rw[E9 hn];show l.fresh p n
 .by_cases hb:b∈F;.rw[Pp hb]at e;show e
  .rw[E9 hb]at e;show R.fr b u e
 .by_cases hb:b∈F;.show(R.mem<|t b hb).2
  .rw[E9 hb]at s;show R.lim b B s
def Ud{α:Type}{l:List α}{a}(h:l[i]?=bj a):l.set i a=l:=by have(hk,n):=gSq.mp h;rw[←n];show fQ hk
def rQ.unframe(R:rQ K H₀ Hf₀ Hf S σ H Fs)(s2:Fs[i]?=bj F)(r:rP K Hf H t v F)(nd:F.Nodup)(s:∀q∈F,H₀ q=n_)
  (l:rQ K (frm H₀ H F) Hf₀ Hf' S' σ' H' Fs') (x:S'[i]?=bj n_) (s1:σ'[i]?=bj (bj v)) (sf:rB Hf Hf') :
  (∀q∈F,H' q=H q)/\rP K Hf' H' t v F/\rQ K H₀ Hf₀ Hf' (S'.set i<|bj t) σ' H' (Fs'.set i F):=by
 have hk:∀q∈F,H' q=H q:=λq n=>by have hn:=(R.mem<|sO s2 n).1;cases B:H q with
  |none=>show absurd B hn
  |some u=>show l.fr q u<|by rw[Pp n];show B
 have I:∀q∈F,Hf' q=n_:=λq n=>by
  have hm:=R.mem<|sO s2 n;show l.lim q ?_<|by rw[Pp n];show hm.1
  cases J:Hf₀ q with
  |none=>rfl
  |some u=>rw[R.sf q u J]at hm;show absurd hm.2 ⋯
 have E:=r.keep sf hk I;show(hk,E,?_);have L:rQ K H₀ Hf₀ Hf' (S'.set i n_) σ' H'<|Fs'.set i []:=by
  rw[Ud x,Ud<|l.emp i x];show(l.len,l.lenF,l.rep,l.emp,l.nd,λp M=>?_,l.sub,λb u e=>?_,λb O G=>?_,l.sf)
  .have:=l.fresh p M;by_cases hb:p∈F;.show s p hb
   .rwa [E9 hb]at this
  .show l.fr b u ?_;rw[E9 λz=>by rw[s b z]at e;cases e];show e
  .show l.lim b O ?_;rw[E9 λz=>G<|s b z];show G
 show L.again (F:=F) s1 E nd λq n=>(s q n,λm=>?_);rw[Ud<|l.emp i x]at m;have:=l.fresh q m;rw[Pp n]at this;show(R.mem<|sO s2 n).1 this
abbrev MP:=AS->Option (List Nat×AS)
def Ut(i:Nat):MP:=λS=>(tW S i).map λQ=>%[[]|S]
def pIx(i:Nat)(l:MP)(b:ME):MP:=λS=>(l S).bind λx=>(b x.2).bind λy=>(intOf y.1).bind λj=>(tW y.2 i).bind λavs=>(sH (.ow avs) x.1).bind λas=>(Ql as.length j).map λn=>%[x.1++[n]|y.2]
def SPh(K:Ζ)(i:Nat)(te:TE)(x:MP):Prop:=∀{H₀ l Hf}{S}{σ}{H}{u}{path:Θ}{S'},rQ K H₀ l Hf S σ H u->x S=bj %[path|S']->∀Q:VK,
 (∀n t s v w,Eh Hf H u n t s->rQ K H₀ l n S' σ t s->σ[i]?=bj (bj v)->Pb t v path w->Q w t)->te σ H Q
def Po i:SPh K i (xF i)<|Ut i:=by intro H₀ l Hf S σ H s path t R e Q q;have(n,e1,e):=oMq.mp e;cases e;have(p,u,x,s1,_):=R.ow<|rE e1;show(_,s1,q _ _ _ _ _ .refl R s1 rfl)
def CW{i:Nat}(R:rQ K H₀ l Hf S σ H s)(e:S[i]?=bj (bj<|.ow avs))(s1:σ[i]?=bj (bj v))(t:sH (.ow avs) path=bj as)(h:Pb H v path w) :
  ∃p vs,w = .ref p/\H p=bj (.lst vs)/\vs.length=as.length:=by have(z,F,n,B,r,nd,_):=R.move e;rw[s1]at n;cases n;have(p,vs,E,u,g2,G,x,_):=r.path nd t;show(p,vs,h.one u,g2,x.1.symm)
def LI(P:SPh K i te E)(hb:SR K B b):SPh K i (tOp (abJ K) te B)<|pIx i E b:=by
 intro H₀ l Hf S σ H Fs path S' R e Q q;have(x,e1,e):=oBq.mp e;have(y,e2,e):=oBq.mp e;have(j,s,e):=oBq.mp e;have(T,U,e):=oBq.mp e;have(as,X,e):=oBq.mp e;have(n,G,e):=oMq.mp e;cases e;show P R e1 _ λY H1 Fs1 v w t1 R1 s1 a1=>hb R1 e2 _ λHf2 H2 Fs2 u I R2 r2=>?_;have hy:y.1 = .int j:=by cases hx:y.1 <;> rw[hx]at s <;> first|(cases s;rfl)|cases s
 rw[hy]at r2;cases r2;have J:=a1.same I.sh;have(p,t,rfl,L,M):=CW R2 (rE U) s1 X J;have(_,hn,_):=VG G;have z:n<t.length:=by rw[M];show hn
 obtain⟨u,O⟩:∃u,t[n]?=bj u:=(_,gEg z);show(p,t,j,u,rfl,rfl,vk.of L,?_,q _ _ _ v _ (t1.trans I) R2 s1<|J.snoc L O);unfold atI;rw[M,G];show O
def rQ.grow(R:rQ K H₀ l Hf S σ H L)(e:S[i]?=bj (bj<|.ow avs))(s1:σ[i]?=bj (bj v))(X:sH (.ow avs) path=bj as)(h:Pb H v path<|.ref p) :
  ∃vs,H p=bj (.lst vs)/\as.length=vs.length/\∀bs u n,qX K Hf H bs u n->n.flatten.Nodup->(∀q∈n.flatten,H₀ q=n_/\q∉L.flatten) ->
   ∃E,rQ K H₀ l Hf (S.set i<|bj<|putAt (.ow avs) path<|as++bs) σ (rO H p<|.lst<|vs++u) E:=by
 have(v',F,M,x,r,nd,oo,_):=R.move e;rw[s1]at M;cases M;have(p',vs,G,Y,g2,g3,O,P,Q,I,T,g8):=r.path nd X;have J:=h.one Y;cases J;show(vs,g2,O.1,λbs u n rb nG t=>?_);have U:=λm=>(t p m).2<|sO x P;have s:(G++n).flatten=G.flatten++n.flatten:=fAq;have(F',k1,k2,k3):=g8 (as++bs) (vs++u) (G++n) ((O.keepUpd Q).append<|rb.keepUpd U) (by rw[s];show aJ.mpr (λm=>(mAq.mp m).elim Q U,nAq.mpr (I,nG,λa ha b hb z=>(t b hb).2<|sO x<|T b<|z ▸ ha))) (λq B=>by rw[s]at B;show(mAq.mp B).imp id λm z=>(t q m).2<|sO x z);show(_,R.turnAny s1 x P k1 k2 λq B=>?_);rcases k3 q B with z|z;.show oo q z
 .rw[s]at z;rcases mAq.mp z with z|z;.show oo q<|T q z
  .show((t q z).1,λm=>(t q z).2<|tP m)
def Vw(i:Nat)(l:MP)(k:MK):MS:=λS=>(l S).bind λx=>(tW x.2 i).bind λn=>(sH (.ow n) x.1).bind λQ=>(k x.2).bind λy=>(tW y.2 i).bind λavs=>(sH (.ow avs) x.1).bind λas=>yP (as.length<tL)<|bj<|.nx<|y.2.set i<|bj<|putAt (.ow avs) x.1<|as++[y.1]
def adJ(J:SPh K i z B)(hk:SK K te k):SS K (Dj<|Vu K "list" E7 z<|vB te xH)<|Vw i B k:=by
 intro H₀ l Hf S σ H Fs o R e D h;have(x,e1,e):=oBq.mp e;have(a0,e2,e):=oBq.mp e;have(n0,L,e):=oBq.mp e;have(y,M,e):=oBq.mp e;have(O,P,e):=oBq.mp e;have(as,Q,e):=oBq.mp e;rcases rh e with⟨hl,e⟩|e
 .cases e;show J R (path:=x.1) (S':=x.2) e1 _ λT H1 Fs1 v w U E s1 G=>?_;have(p,X,rfl,Y,h2):=CW E (rE e2) s1 L G;show(.inl (rfl,X,vk.of Y),hk E (a:=y.1) (S':=y.2) M _ λHf2 H2 Fs2 u F I R2 r2 n=>?_);have(s,g1,g2,g3):=R2.grow (rE P) s1 Q<|G.same I.sh;have(Fs',R3):=g3 [y.1] [u] [F] (qX.nil.snoc r2) (by rw[aK];show n.nd)<|λq t=>by rw[aK]at t;show(n.fr q t,n.out q t)
  show(p,s,u,rfl,rfl,g1,by rw[FC,←g2];show hl,h _ _ _ _ (U.sf.trans I.sf) R3)
 .cases e
def aa5(i:Nat)(n:MP)(l:ML):MS:=λS=>(n S).bind λx=>(tW x.2 i).bind λs=>(sH (.ow s) x.1).bind λQ=>(l x.2).bind λy=>(tW y.2 i).bind λavs=>(sH (.ow avs) x.1).bind λas=>yP (as.length+y.1.length<=tL)<|bj<|.nx<|y.2.set i<|bj<|putAt (.ow avs) x.1<|as++y.1.map .sh
def agt(J:SPh K i t u)(hk:SL K te l):SS K (Dj<|Vu K "list" JL t<|vB te xH)<|aa5 i u l:=by
 intro H₀ n Hf S σ H Fs o R e D h;have(x,e1,e):=oBq.mp e;have(a0,e2,e):=oBq.mp e;have(n0,L,e):=oBq.mp e;have(y,M,e):=oBq.mp e;have(O,P,e):=oBq.mp e;have(as,Q,e):=oBq.mp e;rcases rh e with⟨hl,e⟩|e
 .cases e;show J R (path:=x.1) (S':=x.2) e1 _ λT H1 Fs1 v w U z s1 B=>?_;have(p,X,rfl,Y,h2):=CW z (rE e2) s1 L B;show(.inl (rfl,X,vk.of Y),hk z (ds:=y.1) (S':=y.2) M _ λHf2 H2 Fs2 b E G R2 hb r2=>?_);have(s,g1,g2,g3):=R2.grow (rE P) s1 Q<|B.same G.sh;have(Fs',R3):=g3 (y.1.map .sh) E (aC y.1.length []) (OP r2) (by rw[we];show aW)<|λq I=>by rw[we]at I;cases I
  show(p,b,s,E,rfl,rfl,g1,hb,by rw[FC,←g2,←r2.1];show hl,h _ _ _ _ (U.sf.trans G.sf) R3)
 .cases e
def Als(x i:Nat)(path:Θ)(S:AS)(σ:St)(H:Hp):Prop:=∃v p avs as,S[i]?=bj (bj<|.ow avs)/\sH (.ow avs) path=bj as/\σ[x]?=bj (bj<|.ref p)/\σ[i]?=bj (bj v)/\Pb H v path (.ref p)
def YY(K:Ζ)(x i:Nat)(t:TS)(m:Θ->MS):Prop:=∀{path}{H₀ l Hf}{S}{σ}{H}{n}{o},rQ K H₀ l Hf S σ H n->Als x i path S σ H->m path S=bj o->∀D:zG,HN K H₀ l Hf D o->t D σ H
def aeY(x i:Nat)(l:MP)(m:Θ->MS):MS:=λS=>(l S).bind λy=>(tW y.2 i).bind λavs=>(sH (.ow avs) y.1).bind λQ=>yP (x≠i/\x<y.2.length)<|m y.1<|y.2.set x n_
def ait(I:SPh K i te B)(hm:YY K x i t m):SS K (Pd (OT te<|xa x) t)<|aeY x i B m:=by
 intro H₀ n Hf S σ H O o R e D h;have(y,e1,e):=oBq.mp e;have(s,e2,e):=oBq.mp e;have(J,E,e):=oBq.mp e;rcases rh e with⟨⟨l,u⟩,e⟩|e
 .show I R (path:=y.1) (S':=y.2) e1 _ λL P Fs1 v w M z s1 G=>?_;have(p,Q,rfl,T,U):=CW z (rE e2) s1 E G;have R2:=(z.kill x).any<|V.ref p;show hm R2 (v,p,s,J,?_,E,?_,?_,G) e D<|h.mono M.sf;.rw[ay l];show rE e2
  .show aV<|by rw[←z.len];show u
  .rw[ay l];show s1
 .cases e
def ag8(h:SS K t m):YY K x i t<|λQ=>m:=λR Q e D o=>h R e D o
def aal(ha:YY K x i t a)(hb:SS K u b):YY K x i (Pd t u)<|λpath=>oZ (a path) b:=by intro path H₀ l Hf S σ H G o R A e D h;have(y,e1,e):=oBq.mp e;show ha R A e1 _ ?_;cases y with
 |nx I=>show λn z J B s E=>hb E e D<|h.mono s
 |rt a=>cases e;show h
 |bk a=>cases e;show h
 |ct a=>cases e;show h
def Mi(i:Nat)(c:MT)(a b:Θ->MS):Θ->MS:=λpath S=>(c S).bind λy=>(tW y.2 i).bind λavs=>(sH (.ow avs) path).bind λQ=>if y.1=t_ then a path y.2 else b path y.2
def WH(I:LX K c m)(ha:YY K x i t a)(hb:YY K x i u b):YY K x i (YK c t u)<|Mi i m a b:=by
 intro path H₀ n Hf S σ H P o R A e D h;have(y,e1,e):=oBq.mp e;have(s,e2,e):=oBq.mp e;have(J,L,e):=oBq.mp e;have(v,p,_,_,_,_,s2,s1,z):=A;show I R (b:=y.1) (S':=y.2) e1 _ λM O Fs1 B E=>?_;have G:Als x i path y.2 σ O:=(v,p,s,J,rE e2,L,s2,s1,z.same B.sh);split at e;.rename_i l;rw[l];show UC<|ha E G e D<|h.mono B.sf
 .rename_i l;rw[dC]at l;rw[l];show Rv<|hb E G e D<|h.mono B.sf
def U5(i:Nat)(k:MK):Θ->MS:=λpath S=>(k S).bind λy=>(tW y.2 i).bind λavs=>(sH (.ow avs) path).bind λas=>yP (as.length<tL)<|bj<|.nx<|y.2.set i<|bj<|putAt (.ow avs) path<|as++[y.1]
def ajN(hk:SK K te k):YY K x i (Dj<|Vu K "list" E7 (xF x)<|vB te xH)<|U5 i k:=by
 intro path H₀ n Hf S σ H Fs o R A e D h;have(y,E,e):=oBq.mp e;have(G,I,e):=oBq.mp e;have(as,J,e):=oBq.mp e;rcases rh e with⟨hl,e⟩|e
 .cases e;have(v,p,a0,n0,e2,L,s2,s1,l):=A;have(p',M,O,P,h2):=CW R e2 s1 L l;cases O;show(.ref p,s2,.inl (rfl,M,vk.of P),hk R (a:=y.1) (S':=y.2) E _ λQ H2 Fs2 u F B R2 r2 s=>?_);have(t,T,g2,U):=R2.grow (rE I) s1 J<|l.same B.sh;have(X,Y):=U [y.1] [u] [F] (qX.nil.snoc r2) (by rw[aK];show s.nd)<|λq z=>by rw[aK]at z;show(s.fr q z,s.out q z)
  show(p,t,u,rfl,rfl,T,by rw[FC,←g2];show hl,h _ _ _ _ B.sf Y)
 .cases e
def Vq(i:Nat)(l:ML):Θ->MS:=λpath S=>(l S).bind λy=>(tW y.2 i).bind λavs=>(sH (.ow avs) path).bind λas=>yP (as.length+y.1.length<=tL)<|bj<|.nx<|y.2.set i<|bj<|putAt (.ow avs) path<|as++y.1.map .sh
def aif(hk:SL K te l):YY K x i (Dj<|Vu K "list" JL (xF x)<|vB te xH)<|Vq i l:=by
 intro path H₀ s Hf S σ H Fs o R A e D h;have(y,E,e):=oBq.mp e;have(G,I,e):=oBq.mp e;have(as,J,e):=oBq.mp e;rcases rh e with⟨hl,e⟩|e
 .cases e;have(v,p,a0,n0,e2,L,s2,s1,n):=A;have(p',M,O,P,h2):=CW R e2 s1 L n;cases O;show(.ref p,s2,.inl (rfl,M,vk.of P),hk R (ds:=y.1) (S':=y.2) E _ λQ H2 Fs2 b u z R2 hb r2=>?_);have(t,T,g2,U):=R2.grow (rE I) s1 J<|n.same z.sh;have(X,Y):=U (y.1.map .sh) u (aC y.1.length []) (OP r2) (by rw[we];show aW)<|λq B=>by rw[we]at B;cases B
  show(p,b,t,u,rfl,rfl,T,hb,by rw[FC,←g2,←r2.1];show hl,h _ _ _ _ z.sf Y)
 .cases e
def P4(i:Nat)(l:ME):Θ->MS:=λpath S=>(tW S i).bind λavs=>(sH (.ow avs) path).bind λas=>(l<|S.set i n_).bind λy=>yP (y.2[i]?=bj n_/\as.length<tL)<|bj<|.nx<|y.2.set i<|bj<|putAt (.ow avs) path<|as++[.sh y.1]
def afR(hk:SM K te I):YY K x i (Dj<|Vu K "list" E7 (xF x)<|vB te xH)<|P4 i I:=by
 intro path H₀ t Hf S σ H Fs o R A e D h;have(l,e2,e):=oBq.mp e;have(as,z,e):=oBq.mp e;have(y,P,e):=oBq.mp e;rcases rh e with⟨⟨hn,hl⟩,e⟩|e
 .cases e;have(v,p,a0,n0,_,_,s2,s1,n):=A;have s:=rE e2;have(p',Q,T,U,h2):=CW R s s1 z n;cases T;have(v',F,J,L,r,nd,oo,_):=R.move s;rw[s1]at J;cases J;show(.ref p,s2,.inl (rfl,Q,vk.of U),hk (R.frame L) (d:=y.1) (S':=y.2) P _ λX H2 Fs2 u M R2 r2=>?_);have(Y,k2,R3):=R.unframe L r nd (λq B=>(oo q B).1) R2 hn s1 M;have E:i<y.2.length:=(gSq.mp hn).1;have e5:(y.2.set i<|bj<|.ow l)[i]?=bj (bj<|.ow l):=aV E;have(G,g1,g2,g3):=R3.grow e5 s1 z<|n.kept r z Y;have(Fs',O):=g3 [.sh y.1] [u] [[]] (qX.nil.snoc<|.sh r2) ⋯<|λq B=>by simp at B
  rw[jm]at O;show(p,G,u,rfl,rfl,g1,by rw[FC,←g2];show hl,h _ _ _ _ M O)
 .cases e
def SSk(K:Ζ)(J:Θ)(t:TS)(m:MS):Prop:=∀{H₀ l Hf}{S}{σ}{H}{z}{S'},rQ K H₀ l Hf S σ H z->m S=bj (.nx S')->∀D:zG,(∀s n x u,rB Hf s->rQ K H₀ l s S' n x u->(∀j∈J,n[j]?=σ[j]?)->D.nx n x)->t D σ H
def ZN(h:∀D σ H,D.nx σ H->t D σ H):SSk K J t pZ:=by intro H₀ l Hf S σ H n s R e D q;cases e;show h _ _ _<|q _ _ _ _ (.refl _) R λQ Q=>rfl
def We(hk:SK K te k)(t:y∉J):SSk K J (OT te<|xa y)<|pU y k:=by
 intro H₀ l Hf S σ H I L R e D q;have(x,e1,e):=oMq.mp e;cases e;show hk R e1 _ λu M Fs1 v F B E r1 n=>?_;show q _ _ _ _ B.sf (E.set y r1 n.nd λq s=>(n.fr q s,n.out q s)) λj G=>ay<|λz=>t<|by rw[z];show G
def aj4(M:LX K c m)(ha:SSk K J t a)(hb:SSk K J u b):SSk K J (YK c t u)<|wm m a b:=by
 intro H₀ n Hf S σ H Q T R e D q;have(x,e1,e):=oBq.mp e;show M R e1 _ λO U Fs1 I L=>?_;split at e;.rename_i l;rw[l];show UC<|ha L e D λz B P E s G j=>q _ _ _ _ (I.sf.trans s) G j
 .rename_i l;rw[dC]at l;rw[l];show Rv<|hb L e D λz B P E s G j=>q _ _ _ _ (I.sf.trans s) G j
def XI(i:Nat)(a:MS)(m:Θ->MS):Θ->MS:=λpath S=>(tW S i).bind λavs=>(a<|S.set i n_).bind λo=>match o with
 | .nx l=>yP (l[i]?=bj n_)<|m path<|l.set i<|bj<|.ow avs
 |_=>n_
def aap(ha:SSk K [x,i] t a)(hm:YY K x i u m):YY K x i (Pd t u)<|XI i a m:=by intro path H₀ B Hf S σ H Fs o R A e D h;have(l,e2,e):=oBq.mp e;have(oo,T,e):=oBq.mp e;cases oo with
 |nx E=>
  rcases rh (show yP (E[i]?=bj n_) (m path<|E.set i<|bj<|.ow l)=bj o from e)with⟨hn,e⟩|e
  .have(v,p,a0,U,n,J,s2,s1,G):=A;have L:=rE e2;rw[L]at n;cases n;have(v',F,M,O,r,nd,ow,_):=R.move L;rw[s1]at M;cases M;show ha (R.frame O) T _ λX z H' Y s R' P=>?_;have j1:z[x]?=σ[x]?:=P x ⋯;have Q:z[i]?=σ[i]?:=P i ⋯;have(k1,k2,R3):=R.unframe O r nd (λq hq=>(ow q hq).1) R' hn (Q.trans s1) s;have I:i<E.length:=(gSq.mp hn).1;show hm R3 (v,p,l,U,aV I,J,j1.trans s2,Q.trans s1,G.kept r J k1) e D<|h.mono s
  .cases e
 |_=>cases e
def amv(S)i:Ut i S=(tW S i).map λQ=>%[[]|S]:=rfl
def aoo(S)i l b:pIx i l b S=(l S).bind λx=>(b x.2).bind λy=>(intOf y.1).bind λj=>(tW y.2 i).bind λavs=>(sH (.ow avs) x.1).bind λas=>(Ql as.length j).map λn=>%[x.1++[n]|y.2]:=rfl
def ah2(S)i l k:Vw i l k S=(l S).bind λx=>(tW x.2 i).bind λn=>(sH (.ow n) x.1).bind λQ=>(k x.2).bind λy=>(tW y.2 i).bind λavs=>(sH (.ow avs) x.1).bind λas=>yP (as.length<tL)<|bj<|.nx<|y.2.set i<|bj<|putAt (.ow avs) x.1<|as++[y.1]:=rfl
def ajM(S)i n l:aa5 i n l S=(n S).bind λx=>(tW x.2 i).bind λs=>(sH (.ow s) x.1).bind λQ=>(l x.2).bind λy=>(tW y.2 i).bind λavs=>(sH (.ow avs) x.1).bind λas=>yP (as.length+y.1.length<=tL)<|bj<|.nx<|y.2.set i<|bj<|putAt (.ow avs) x.1<|as++y.1.map .sh:=rfl
def amn(S)x i l m:aeY x i l m S=(l S).bind λy=>(tW y.2 i).bind λavs=>(sH (.ow avs) y.1).bind λQ=>yP (x≠i/\x<y.2.length)<|m y.1<|y.2.set x n_:=rfl
def amm(S)i c a b path:Mi i c a b path S=(c S).bind λy=>(tW y.2 i).bind λavs=>(sH (.ow avs) path).bind λQ=>if y.1=t_ then a path y.2 else b path y.2:=rfl
def aib(S)i k path:U5 i k path S=(k S).bind λy=>(tW y.2 i).bind λavs=>(sH (.ow avs) path).bind λas=>yP (as.length<tL)<|bj<|.nx<|y.2.set i<|bj<|putAt (.ow avs) path<|as++[y.1]:=rfl
def ahA(S)i l path:Vq i l path S=(l S).bind λy=>(tW y.2 i).bind λavs=>(sH (.ow avs) path).bind λas=>yP (as.length+y.1.length<=tL)<|bj<|.nx<|y.2.set i<|bj<|putAt (.ow avs) path<|as++y.1.map .sh:=rfl
def agc(S)i l path:P4 i l path S=(tW S i).bind λavs=>(sH (.ow avs) path).bind λas=>(l<|S.set i n_).bind λy=>yP (y.2[i]?=bj n_/\as.length<tL)<|bj<|.nx<|y.2.set i<|bj<|putAt (.ow avs) path<|as++[.sh y.1]:=rfl
def alL(i:Nat)(avs:List AV)(m:Θ->MS)(path:Θ):Ng->Option Ng
 | .nx l=>yP (l[i]?=bj n_)<|m path<|l.set i<|bj<|.ow avs
 |_=>n_
def alF(S)i a m path:XI i a m path S=(tW S i).bind λavs=>(a<|S.set i n_).bind<|alL i avs m path:=by congr 1
def adK(i)avs m path l:alL i avs m path (.nx l)=yP (l[i]?=bj n_) (m path<|l.set i<|bj<|.ow avs):=rfl
def TY avs:sH (.ow avs) []=bj avs:=rfl
def DV(avs)j(l:Θ):sH (.ow avs) (j::l)=(avs[j]?).bind λa=>sH a l:=rfl
def Gr{l:Θ}(h:avs[j]?=bj a):putAt (.ow avs) (j::l) as = .ow (avs.set j<|putAt a l as):=by
 change(match avs[j]? with|bj a=>_|n_=>_)=_;rw[h]
noncomputable def O1(m:ME):MS:=λS=>(m S).map λx=>.nx x.2
def aah(h:SM K te m):SS K (Dj te)<|O1 m:=by intro H₀ l Hf S σ H u o R e D hd;have(x,e1,e):=oMq.mp e;cases e;show h R (d:=x.1) (S':=x.2) e1 _ λn z Fs1 v s t r1=>hd _ _ _ _ s t
def ao2(i:Nat):MS:=λS=>(tW S i).map λavs=>.nx<|S.set i<|bj<|.ow avs.reverse
def afV(S)m:O1 m S=(m S).map λx=>.nx x.2:=rfl
def uG.fd_inv(h:uG K H (.fd ds) v):∃p o kvs,v = .ref p/\H p=bj (.frz o<|.dK kvs)/\yJ K H ds kvs:=by cases h with
 |fd h l e=>show(_,_,_,rfl,h,l,e)
noncomputable def ae2:D->Option (List<|rD×D)
 | .fd kvs=>bj kvs
 |_=>n_
def afu(h:ae2 d=bj kvs):d = .fd kvs:=by cases d <;> first|(cases h;rfl)|cases h
def Qd(a b:ME):ME:=λS=>(a S).bind λx=>(b x.2).bind λy=>(ae2 x.1).bind λkvs=>(zt y.1).bind λkey=>(getD kvs key).map λd=>%[d|y.2]
def aa8(ha:SR K n a)(hb:SR K s b):SR K (aaX n s)<|Qd a b:=by
 intro H₀ l Hf S σ H U d X R e Q q;have(x,e1,e):=oBq.mp e;have(y,e2,e):=oBq.mp e;have(u,z,e):=oBq.mp e;have(key,B,e):=oBq.mp e;have(Y,E,e):=oMq.mp e;cases e;show ha R e1 _ λG H1 Fs1 v1 I J r1=>hb J e2 _ λL H2 Fs2 v2 t R2 r2=>?_;rw[afu z]at r1;have(p,o,M,rfl,O,P):=(r1.mono t.sh).fd_inv;have g:=Hd (key:=key) P;rw[E]at g;have(v,T,g2):=g;show(p,v,rfl,by rw[BB B r2,←T];show .inl (M,key,.inr (o,O),rfl,rfl),q _ _ _ _ (I.trans t) R2 g2)
def abm{B:TS}{D:zG}(l:Nat->St->Hp->Prop)(G:l 0 σ H)(hl:∀i σ H,l i σ H->H d=bj (.frz u<|.dK kvs))
  (I:∀i p σ H,kvs[i]?=bj p->l i σ H->B { D with nx:=l (i+1),ct:=l (i+1),bk:=D.nx } (σ.set i1<|bj<|kV p.1) H) (hd:∀σ H,l kvs.length σ H->D.nx σ H) :
  ∃W:Nat->Nat->St->Hp->Prop,(∃m,W 0 m σ H)/\∀i m σ H,W i m σ H ->
   ((Itk u d kvs).stop i H/\D.nx σ H)∨((Itk u d kvs).go i H/\∃N:St->Hp->Prop,(∀s n,N s n->∃E,E<m/\W (i+1) E s n)/\∀x n,(Itk u d kvs).yld i H x n->xa i1 x σ n λz J=>B { D with nx:=N,ct:=N,bk:=D.nx } z J):=by
 show(λi m σ H=>m=kvs.length-i/\i<=kvs.length/\l i σ H,(kvs.length,by simp,aY _,G),?_);rintro i m σ H ⟨rfl,hi,p⟩;have q:=hl i σ H p;by_cases t:i<kvs.length
 .show .inr ((q,kvs[i],by simp[t]),l<|i+1,λs n L=>(kvs.length-(i+1),by omega,rfl,t,L),λv n y=>?_);have(rfl,x,M,rfl):=y;show I i x σ n M p
 .have e:i=kvs.length:=by rfl'
  subst e;show .inl ((q,ae _),hd σ H p)
def VY(x i:Nat)(body:MS):MS:=λS=>(zK S i).bind λkvs=>yP (x≠i)<|vw x body (kvs.map λp=>kD p.1)<|S.set i<|bj<|.sh<|.fd kvs
def aea(hb:SS K tb body):SS K (Xl (aho<|xF i) (xa x) tb)<|VY x i body:=by
 intro H₀ t Hf S σ H Fs o R e D h;have(z,e1,e):=oBq.mp e;rcases rh e with⟨hne,e⟩|e
 .have M:=Ay e1;have(p,s,s1,s2,h1,h2,h3,h4,h5):=R.owd M;show(_,s1,p,s,rfl,h1,λL=>?_);have(v,F,t1,t2,r,nd,oo,R1):=R.move M;rw[s2]at t2;cases t2;have R2:=rQ.fix R1 (p:=p) (o:=.frz L<|.dK s) h5 h2 h4;have s3:rB Hf<|rO Hf p<|.frz L<|.dK s:=uH h2;have O:yJ K (rO Hf p<|.frz L<|.dK s) z s:=(h3.1,λi d v a b=>(h3.2 i d v a b).mono s3);have R3:rQ K H₀ t (rO Hf p<|.frz L<|.dK s) (S.set i<|bj<|.sh<|.fd z) σ (rO H p<|.frz L<|.dK s)<|Fs.set i []:=R2.again (F:=[]) s1 (.sh<|.fd pH O.1 O.2) aW λq hq=>by cases hq
  have I:z.length=s.length:=by have:=congrArg cH h3.1;simpa using this
  show abm (λn B H'=>∃u P E,rQ K H₀ t u P B H' E/\rB (rO Hf p<|.frz L<|.dK s) u/\vw x body ((z.map λp=>kD p.1).drop n) P=bj o) (_,_,_,R3,.refl _,e)
   (λn B H' ⟨u,P,E,Q,J,_⟩=>Q.sub _ _<|J _ _ pH) ?_ ?_
  .rintro n w B H' hw ⟨u,P,E,Q,J,T⟩;have hn:n<z.length:=by rw[I];show(gSq.mp hw).1
   have hk:(z.map λp=>kD p.1)[n]?=bj (kD w.1):=by
    have:=congrArg (λl=>l[n]?) h3.1;simp only[gMq,hw,bK]at this;rw[gMq];cases hd:z[n]? with
    |none=>rw[hd]at this;cases this
    |some dd=>rw[hd]at this;rw[bK,show dd.1=w.1 from bj.inj this]
   have hlt:n<(z.map λp=>kD p.1).length:=by rw[lMq];show hn
   rw[aS hlt,(gSq.mp hk).2]at T;have(o2,e3,e4):=oBq.mp T;show hb (Q.setD x<|afE w.1) e3 _ ?_;cases o2 with
   |nx S2=>show λG U H2 Fs2 X Y=>(G,S2,Fs2,Y,J.trans X,e4)
   |ct S2=>show λG U H2 Fs2 X Y=>(G,S2,Fs2,Y,J.trans X,e4)
   |bk S2=>cases e4;show λG U H2 Fs2 X Y=>h _ _ _ _ ((s3.trans J).trans X) Y
   |rt a=>cases e4;show h
  .rintro B H' ⟨u,P,E,Q,J,T⟩;rw[←I,show z.length=(z.map λp=>kD p.1).length from (lMq _).symm,cU]at T;cases T;show h _ _ _ _ (s3.trans J) Q
 .cases e
def adL kvs:ae2 (.fd kvs)=bj kvs:=rfl
def agz(S)a b:Qd a b S=(a S).bind λx=>(b x.2).bind λy=>(ae2 x.1).bind λkvs=>(zt y.1).bind λkey=>(getD kvs key).map λd=>%[d|y.2]:=rfl
def aj2(S)x i body:VY x i body S=(zK S i).bind λkvs=>yP (x≠i)<|vw x body (kvs.map λp=>kD p.1)<|S.set i<|bj<|.sh<|.fd kvs:=rfl
end Z
namespace Mr
open PySem PySem.Spec PyProof.Rows L2
def YL:kF (.type "list_reverseiterator") "__len__" = pure n_:=by kernel_rfl
def aak:kF (.type "list_reverseiterator") "__length_hint__" = pure (bj<|.builtin "list_reverseiterator.__length_hint__"):=by kernel_rfl
def abq(l:s.TypeIs (.ref r) "list_reverseiterator")(h:Q f_ s):kj (kg prog w) A (Builtin.List.listLengthHint<|.ref r) Q E s:=by
 show ki<|nC l YL ?_;show ki<|nC l aak ?_;generalize n:("list_reverseiterator.__length_hint__")=id0;subst n;show ki<|wpAny_isInstance (b:=t_) l (by kernel_rfl) ?_;show kA h
def RvP(l:Ω)(i:Nat)(v:Value):Prop:=l[l.size-1-i]?=bj v
def afS{n:Ω}(hh:A.handled=n_)(J:l≠I)(x:s.heap.IsRevIter I l<|(n.size:Int)-1)(hl:s.heap.IsList l n)S(G:S≠I)(L:S≠l)res z(P:s.heap.get? S=bj { cls:=.type "list", data:=.seq #[] z })
  (Q:∀h' T t B,(∀b o,b≠S->b≠I->s.heap.get? b=bj o->h'.get? b=bj o)->h'.get? S=bj { cls:=.type "list", dict:=n_,data:=.seq t B,slots:=#[] }->ItemsOf (RvP n) t n.size->R (.ok<|.ret res) { s with heap:=h',toks:=T }) (hn:n.size<=ky) :
  kj (kg prog w) A.in1 (Builtin.List.listExtendWith (.ref S) (.ref I) res)
   (λfin s'=>match fin with|.done f=>R (.ok f) s'|.again B=>B.quiet=t_/\lH (kg prog w) A B R s') (λe s'=>R (.error e) s') s:=by
 have M:S∉[I,l]:=by simp only[ag,bL,or_false,not_or];show(G,L)
 have W:=Walks.listRev (prog:=prog) (w:=w) (A:=A.in1) hh I l J n;have st:(0)<=n.size/\s.heap.IsRevIter I l ((n.size)-1-((0:Nat)))/\s.heap.IsList l n:=(aY _,by rw[show(n.size:Int)-1-((0:Nat))=(n.size)-1 by ac_nf];show x,hl);show ki<|abH x.typeIs ?_;have U:Builtin.List.listSameRef (.ref S) (.ref I)=f_:=by simp[Builtin.List.listSameRef,G]
 have X:(cI "list_reverseiterator" == cI "list")=f_:=by rfl
 have Y:(cI "list_reverseiterator" == cI "tuple")=f_:=by rfl
 simp only[U,X,Y,gZ,bW,if_false];show ki<|PySem.wpAny_pyIter_revIter x ?_;show ki<|lZ<|abq x.typeIs ?_;show kA (oq PySem.F.plain_extend_loop _,?_);show codeAny_extend_loopS W.toS hn S M res n.size 0 _ #[] z rfl (aY _) st P (ItemsOf.nil _) λs' t B hm O H=>?_;rw[Moved.eq_with hm];show Q s'.heap s'.toks t B (λb o hb hI e=>hm.heap b o (λu=>?_) e) O H;rcases ag.mp u with e'|u;.show hb e'
 .show hI<|mSq.mp u
def Xz{n:Ω}(hh:A.handled=n_)(L:l≠I)(B:s.heap.IsRevIter I l<|(n.size:Int)-1)(hl:s.heap.IsList l n)(hn:n.size<=ky)
  (X:∀h' M t O,(∀b o,b≠I->s.heap.get? b=bj o->h'.get? b=bj o)->h'.get? s.heap.objs.size=bj { cls:=.type "list", dict:=n_,data:=.seq t O,slots:=#[] }->ItemsOf (RvP n) t n.size->Q (.ref s.heap.objs.size) { s with heap:=h',toks:=M }) :
  kj (kg prog w) A (call (.type "list") [.ref I]) Q E s:=by
 show callType_codes (Q₁:=λobj u=>obj = .ref s.heap.objs.size/\u={ s with heap:=s.heap.push { cls:=.type "list", data:=.seq #[] } }) PySem.F.called_list (PySem.F.typeCall_list_1 _) PySem.F.entry_list_init
  (code_list_new _ (rfl,rfl)) λobj u G=>?_;have(rfl,rfl):=G;have J:(s.heap.push { cls:=.type "list", data:=.seq #[] }).get? s.heap.objs.size=bj { cls:=.type "list", data:=.seq #[] }:=bp _ rfl;have T:I<s.heap.objs.size:=let ⟨_,P,_⟩:=B;ai P;have U:l<s.heap.objs.size:=let ⟨_,P,_⟩:=hl;ai P;show((_,J,rfl),PySem.F.args_list_init_2 _ _,?_);change kj _ _ (do let R ←Builtin.List.listItems (.ref s.heap.objs.size);Builtin.List.listUpdate (.ref s.heap.objs.size) (λZ=>#[]);letGo R.toList.reverse;Builtin.List.listExtendWith (.ref s.heap.objs.size) (.ref I) .none) _ _ _;show ki ?_;unfold Builtin.List.listItems;show ki<|wpAny_seqItems J rfl<|kA ?_;change kj _ _ (updateSeq s.heap.objs.size (λZ=>#[]) >>= λZ=>letGo (#[]:Ω).toList.reverse >>= λZ=>Builtin.List.listExtendWith (.ref s.heap.objs.size) (.ref I) .none) _ _ _;show ki<|wpAny_updateSeq J rfl ?_;have x:=cV (Obj.mapSeq<|λZ=>(#[]:Ω)) J rfl;have z:∀b o,b≠s.heap.objs.size->s.heap.get? b=bj o->((s.heap.push { cls:=.type "list", data:=.seq #[] }).update s.heap.objs.size<|Obj.mapSeq<|λZ=>(#[]:Ω)).get? b=bj o:=λb o hb e=>(bI _ _<|Ne.symm hb).trans<|aa _ e;show ki<|wpAny_letGo ?_;show afS (A:=A.in1) hh L (B.at λo e=>z I o (aB T) e) (hl.at λo e=>z l o (aB U) e) s.heap.objs.size (ef T) (ef U) .none _ x (λh' M t O hk S H=>?_) hn;show(rfl,X h' M t O (λb o hb e=>hk b o (aB<|ai e) hb<|z b o (aB<|ai e) e) S H)
def agO(K:Ζ)(xs:List V)(H:Hp)(Q:VK):Prop:=∃a n,xs=[.ref a]/\vk K H a n/\∀l,H l=n_->Q (.ref l) (rO H l<|.lst n.reverse)
def agi(hc:X.calm=t_)(gl:Gl X "list")(ml:X.mg "list" = n_)(hg:Gl X "reversed")(hm:X.mg "reversed" = n_)(ha:PA X [e] P)
  (R:↑(ku [.Call (.Name "reversed" p) [e] [] pos] X.env=%[f_|eval (.Call (.Name "reversed" p) [e] [] pos) X.env]::ku [] X.env)) (hs:↑(ku [e] X.env=[%[f_|eval e X.env]])) :
  PE X (.Call (.Name "list" p0) [.Call (.Name "reversed" p) [e] [] pos] [] x)<|tCB (agO X.K) P:=by
 intro ou s σ H Q I h;show kM<|FE I gl ml boot_list ?_ ⋯<|by rfl
 show cE ?_ R<|by rfl
 rw[R];change kj _ _ (spliced<|%[f_|eval (.Call (.Name "reversed" p) [e] [] pos) X.env]::kN x (ku [] X.env)) _ _ s;show Calls.spliced_cons ?_;show Call_<|FE I hg hm boot_reversed<|cE (uQ (ha pos ou s σ H _ I h) λus s1 B=>?_) hs rfl;have(vs,H1,z,r1,q1):=B;have(a,xs,e1,hq,q):=q1;subst e1;have(u,rfl,ru):=HD r1;cases ru;have(l,S,E,hz):=z.list hq;have T:=S.length;have G:Heap.IsRevIter (s1.heap.push<|PySem.revObj a<|(l.toArray.size:Int)-1) s1.heap.objs.size a<|(l.toArray.size:Int)-1:=(_,bp _ rfl,rfl,rfl);have J:a<s1.heap.objs.size:=let ⟨_,ho,_⟩:=E.isList;ai ho;show PySem.call_reversed_list E.isList<|Calls.spliced_nil ?_;show Xz (s:={ s1 with heap:=s1.heap.push (PySem.revObj a<|(l.toArray.size:Int)-1) }) (z.ok.hd hc) (aB J) G (E.isList.at λo e=>aa _ e) (by simp only[ao];lia) λh' tk n c hk hS t=>?_;have L:(s1.heap.push<|PySem.revObj a<|(l.toArray.size:Int)-1).objs.size=s1.heap.objs.size+1:=by first|rfl|simp[Heap.push]
 have M:n.toList=l.reverse:=by
  show eM λj=>?_;by_cases hj:j<l.length
  .have O:n.size=l.length:=by rw[t.1];simp
   have U:n[j]?=bj n[j]:=af<|by omega
   have Y:=t.2 j _ U;unfold RvP at Y;simp only[List.getElem?_reverse hj,aO,U,←Y];simp
  .have O:n.size=l.length:=by rw[t.1];simp
   rw[bF<|by rw[aD];lia,bF<|by rw[je];rfl']
 show(.ref<|s1.heap.objs.size+1,rO H1 (s1.heap.objs.size+1)<|.lst xs.reverse,z.laid (λb o e=>hk b o (aB<|ai e)<|aa _ e) (bR _)<|(by rw[je];show hz,n.toList,c,by rw[M];show S.reverse,by simpa using hS),by rw[L];rfl,q _<|z.hok.fresh<|bR _)
end Mr
namespace Z
open PySem L2 Mr
noncomputable def agG(l:ML):MK:=λS=>(l S).map λx=>%[.ow<|x.1.reverse.map .sh|x.2]
def ad6(hl:SQ K te l):SK K (tCB (agO K)<|vB te xH)<|agG l:=by
 intro H₀ n Hf S σ H M O P R e Q q;have(x,e1,e):=oMq.mp e;cases e;show hl R e1 _ λB T Fs1 E s t u G r1=>(E,s,rfl,G,λp z=>?_);have(I,J,L,U,X):=u.new z;show q _ _ _ (.ref p) [p] (t.trans I) J (rP.new pH L r1.reverse)<|(Dx.one u z).back t
end Z
namespace Xe
open PySem PySem.Spec PySem.W PyProof.Rows L2 Mr
section
variable {st:Stmt}
def PTb(X:Cx)(B:List Stmt)(h₀:ExceptHandler)(hs:List ExceptHandler)(t:TS):Prop:=∀E s (σ:St) H D,qt X E σ H s->t D σ H->kj (kg X.prog X.w) X.A (execs B X.env) (SP X E D)
  (λe l=>kj (kg X.prog X.w) X.A (nI e X.env) (λQ n=>kj (kg X.prog X.w) X.A (mF e n_) (λQ z=>kj (kg X.prog X.w) X.A (mN e X.env<|h₀::hs) (SP X E D) X.xe z) X.xe n) X.xe l) s
def VS{t}(h:PTb X l h₀ hs t):PS X (.Try l (h₀::hs) [] [] pos3) t:=by
 intro n s σ H D I q;show wpAny_Try_except<|uQ (h n s σ H D I q) λf s1 z=>?_;cases f with
 |next=>show kR z
 |brk=>show z
 |cont=>show z
 |ret u=>show z
def al8(M:PT X.nox c B)(ha:PTb X a h₀ hs E)(hb:PTb X b h₀ hs G):PTb X [.If c a b pos] h₀ hs<|YK B E G:=by
 intro l s σ H D I h;show lV<|wpAny_If<|kG (M l s σ H _ (I.wish _) h) (λd s1 n=>?_) λQ Q z=>z.elim;have(J,O,q1):=n;have L:=O.unwish;cases d with
 |true=>
  show uQ (ha l s1 σ J D L q1) λf s2 z=>?_;cases f with
  |next=>show kR z
  |brk=>show z
  |cont=>show z
  |ret u=>show z
 |false=>
  show uQ (hb l s1 σ J D L q1) λf s2 z=>?_;cases f with
  |next=>show kR z
  |brk=>show z
  |cont=>show z
  |ret u=>show z
def Z4(G:Lr X.prog X.w X.K X.mg X.base k x st ps sp f fd)(hr:um k X.A)(ha:PA X.nox (e::es) t)(hh:PH X (h₀::hs) th)(O:X.N.Nodup)(hi:X.N[i]?=bj y)(P:Loc X.env.scope y)
  (Q:↥(X.fn y=t_∨X.env.scope.names.lookup y=bj .local)) (n:↑(X.stack=X.env::X.outer)) (B:↑(X.env.frame=bj X.env.locals))
  (R:↑(Gl X x)) (E:⇑((x == ("__debug__" : Str))=f_))
  (S:↑(ku (e::es) X.env=%[f_|eval e X.env]::ku es X.env)) (J:↑((kN pos<|ku es X.env).any (·.1)=f_))
  (L:↑(lS (.Call (.Name x p) (e::es) [] pos) (bj<|.Name y py) pos2.line X.env=pure f_)) :
  PTb X [.Assign [.Name y py] (.Call (.Name x p) (e::es) [] pos) pos2] h₀ hs<|Ze i sp t th:=by
 intro T s σ H D I h;show lV<|mY (kM<|zh I R G.D.m ?_ E) L;show W.callWith_K (h₀:=X.base) I.ok.mod.kin G.D.F.kp (kG (ha pos T s σ H _ (I.wish _) h) (λus s1 l=>?_) λZ Z z=>z.elim) S J;have(vs,H1,M,r,q):=l;show(M.kIn,?_);show afQ G hr n B hh M.unwish r q λu s' l=>?_;have(v,U,Y,rv,q2):=l;show Eo Y O hi P rv (λs3 I3=>kR (_,U,I3,q2)) Q
end
end Xe
namespace L2
open PySem PySem.Spec PyProof.Rows
structure yt (k:Nat)(A:Around):Prop where
 dp:A.depth+3*k+5<mL
 un:A.units+16*k+200<kP
def um.h(r:um k A)(v:Υ):yt k<|A.mark v:=(r.dp,r.un)
def yt.mono(r:yt k A)(h:j<=k):yt j A:=(by have:=r.dp;lia,by have:=r.un;lia)
theorem yt.deeper(r:yt (k+1) A)env:yt k<|A.deeper env:=(by have:=r.dp;change A.depth+1+3*k+5<_;lia,by have:=r.un;change A.units+3+16*k+200<_;lia)
theorem yt.depth(r:yt k A):A.depth<mL:=by have:=r.dp;lia
theorem yt.units(r:yt k A):A.units+64<kP:=by have:=r.un;lia
def yt.units65(r:yt k A):A.units+65<kP:=by have:=r.un;lia
structure Q7 (P:kx)(w:kB)(K:Ζ)(mg:Str->Υ)(base:Heap)(CX:QX)(k:Nat)(f:Addr)(fd:kz)(ps:List Str)(sp:Sp):Prop where
 len:∀vs H Q E,sp vs H Q E->vs.length=ps.length
 run:∀(A:Around) (outer:List Env) (s:ke) (H:Hp) (args:Args) (us:Ξ) (vs:List V) (Q:VK) (E:XK),yt k A->Oi P w K mg base A outer s H->nr s fd args (ps.zip us)->qS vs us->sp vs H Q E ->
  lH (kg P w) A (.call (.ref f) args) (CR CX outer P w H s Q E) s
noncomputable def Nz(CX:QX)(P:kx)(w:kB)(K:Ζ)(mg:Str->Υ)(base:Heap)(N:List Str)(l:Str)(scope:lz)(f:Addr)(t:Value)(A:Around)(outer:List Env)(s:ke)(H:Hp)(E:XK):Cx where
 prog:=P
 w:=w
 K:=K
 mg:=mg
 base:=base
 A:=A.deeper (kJ l scope s.heap.objs.size f t)
 N:=N
 s₀:=s
 H₀:=H
 env:=kJ l scope s.heap.objs.size f t
 outer:=outer
 stack:=kJ l scope s.heap.objs.size f t::outer
 ex:=[]
 calm:=f_
 fn:=λQ=>t_
 pn:=[]
 xe:=λe s'=>kj (kg P w) (A.deeper<|kJ l scope s.heap.objs.size f t) (leaving (kJ l scope s.heap.objs.size f t) e) (λQ n=>CX outer H s E e n) (λu n=>CX outer H s E u n) s'
def Up{K}
  (S:oU N ps scope) (B:Oi P w K mg base A outer s H) (hl:vs.length=ps.length) (r:qS vs us)
  (x:InCallC s s.heap.objs.size (nK (kJ l scope s.heap.objs.size f M).kindOf (ps.zip us) λZ=>n_) (nJ (s.heap.objs.size+1) scope.names []) (nO (kJ l scope s.heap.objs.size f M).kindOf (ps.zip us) λZ=>n_) s1) :
  qt (Nz CX P w K mg base N l scope f M A outer s H E) [] (wc N vs) H s1:=by
 have R:ps.length<=N.length:=by have:=congrArg cH S.pre;rw[lTq]at this;lia
 have(O,U,rfl,hk):=x.done;have G:∀b:Addr,b∉(Nz CX P w K mg base N l scope f M A outer s H E).ex:=λb z=>absurd (show b∈([]:Δ)from z) ⋯;show((B.mod,S.kind,rfl,rfl,ae _,λy z c O t=>?_,λy I=>?_,λy c Z h=>?_,λz=>jz z,Around.frames_deeper B.frames,.inr (rfl,rfl),λb z=>absurd z<|G b,B.bs,B.bsz,λb Z Z=>G b,λb z=>absurd z<|G b,B.funs,B.frf),
  rfl,B.bare,Un.kept hk,(_,x.toInCall.ns,λi y v O t X=>?_),λy c h=>(_,x.cell y c h),B.hok.fresh<|ae _,λy c h=>?_,λp J=>absurd (show p∈([]:Φ)from J) ⋯,B.hok.kept hk,?_);.show name_of_addr x.apart (PySem.mem_of_lookup O)<|PySem.mem_of_lookup t
 .have I:scope.names.lookup y=bj .cell∨scope.names.lookup y=bj .free:=I;rcases I with I|I;.show Gy I
  .show absurd rfl<|S.nofree _<|PySem.mem_of_lookup I
 .show bZ<|x.above y c<|PySem.mem_of_lookup h
 .have hi:i<vs.length:=by
   unfold wc at t;by_cases hi:i<vs.length;.show hi
   .rw[gYq<|by simpa using hi]at t;rw[bT]at t;split at t <;> cases t
  have ha:vs[i]?=bj v:=by
   unfold wc at t;rw[gZq<|by simpa using hi,gMq]at t;cases e:vs[i]? with
   |none=>rw[e]at t;cases t
   |some a=>rw[e]at t;cases t;rfl
  have(u,Q,T):=r.get ha;have J:ps[i]?=bj y:=by rw[←S.pre,cZ ∅];show O
  have L:ps.Nodup:=by rw[←S.pre];show S.nd.sublist<|bq _ _
  show(u,T,?_);rcases S.par y (mGq J)with k|k;.show .inl (k,Iw L J Q k)
  .have(c,e):=Gy (n:=s.heap.objs.size+1) k;show .inr (.inl k,c,e,?_);have q:=x.cell y c e;rw[IG L J Q<|by change scope.names.lookup y≠_;rw[k];decide]at q;show q
 .show B.hok.fresh<|bZ<|x.above y c<|PySem.mem_of_lookup h
 .unfold wc;change _=N.length;rw[lAq,lMq,bA];ac_nf
def aiG{K:Ζ}{kV}
  {Y:Array Υ}(lk:K.lookup f=bj (oc,od,.func<|W.fnOf name l z body scope dV kV T pm an L ct,Y)) (hcd:W.codeIn K L l=t_) (S:oU N ps scope)
  (len:∀vs H Q E,sp vs H Q E->vs.length=ps.length)
  (M:∀A outer s H vs Q E,yt k (A.deeper<|kJ l scope s.heap.objs.size f L)->sp vs H Q E ->
   ∃t,LY (Nz CX P w K mg base N l scope f L A outer s H E) body t/\t { nx:=λZ G=>Q .non G,rt:=Q } (wc N vs) H) :
  Q7 P w K mg base CX (k+1) f (W.fnOf name l z body scope dV kV T pm an L ct) ps sp:=by
 show(len,λA outer s H args us vs Q E hr U hb r X=>?_);have hl:=len _ _ _ _ X;have KX:K.In s.heap:=U.mod.kin.keeps λb o e=>(U.bs b o e).1;have lim:s.heap.NoLimit:=U.mod.nolimit.keeps λb o e=>(U.bs b o e).1;have O:∀y∈ps.zip us,scope.names.lookup y.1=bj .local∨(scope.names.lookup y.1=bj .cell/\((nJ (s.heap.objs.size+1) scope.names []).lookup y.1).isSome=t_):=λ⟨n,v⟩ hy=>by
  rcases S.par n (gc hy).1 with q|q;.show .inl q
  .show .inr (q,W.cellsFrom_some _ _ _<|.inl q)
 show nW hr.depth (KX _ _ lk) rfl S.co S.gen rfl (W.codeRec_of KX hcd)<|hb _ _ _ _ ?_;show mW S.kind O λenv he s1 x=>?_;subst he;show(lim.keeps x.toInCall.keep,codeAny_func ?_);have(t,ht,hq):=M A outer s H vs Q E (hr.deeper _) X;have I:qt (Nz CX P w K mg base N l scope f L A outer s H E) [] (wc N vs) H s1:=Up S U hl r x;show kG (ht [] s1 (wc N vs) H _ I hq) (λfl s' R=>?_) λe s' R=>R;have fin:∀{B:St}{G:Hp}{v:V}{u:Value},qt (Nz CX P w K mg base N l scope f L A outer s H E) [] B G s'->rS v u->Q v G->CE outer P w H s Q u s':=λ{B G v u} J rv q=>(v,G,J.os,J.bare,J.base,J.hok,rv,q);cases fl with
 |ret u=>have(v,B,G,J,rv,q):=R;show fin J rv q
 |next=>have(B,G,J,q):=R;show fin (v:=V.non) (u:=dr) J rfl q
 |brk=>have(_,_,_,q):=R;show False.elim q
 |cont=>have(_,_,_,q):=R;show False.elim q
def aeN{σ:St}(F:Q7 X.prog X.w X.K X.mg X.base CX k f fd ps sp)(hr:yt k X.A)(hb:rF X.K fd ps ds)(hd:qS dvs ds)(z:yX CX X E)
  (I:qt X n σ H s) (r:qS vs us) (h:sp (vs++dvs) H Q E):kj (kg X.prog X.w) X.A (call (.ref f) us) (EP X n σ Q) X.xe s:=by
 have r2:qS (vs++dvs)<|us++ds:=r.append hd;have hl:(us++ds).length=ps.length:=by rw[←r2.length];show F.len _ _ _ _ h
 show lF<|lK (F.run X.A X.stack s H (us,[]) (us++ds) (vs++dvs) Q E hr I.env0 (hb s us I.kIn hl) r2 h) λr B l=>?_;cases r with
 |error e=>show z n σ H s e B I l
 |ok fl=>cases fl with
  |ret u=>show I.after l
  |next=>show False.elim l
  |brk=>show False.elim l
  |cont=>show False.elim l
def acH(F:Q7 X.prog X.w X.K X.mg X.base CX k f fd ps sp)(hr:yt k X.A)(B:Gl X x)(hm:X.mg x=bj (.ref f))(hk:W.keepIn X.K (.ref f)=t_)(hb:rF X.K fd ps ds)(hd:qS dvs ds)(G:yX CX X E)
  (ha:PA X (e::es) t) (l:⇑((x == ("__debug__" : Str))=f_)) (J:↑(ku (e::es) X.env=%[f_|eval e X.env]::ku es X.env)) (n:↑((kN pos<|ku es X.env).any (·.1)=f_)) :
  PE X (.Call (.Name x p) (e::es) [] pos)<|xl sp dvs E t:=by
 intro L s σ H Q I h;show kM<|zh I B hm ?_ l;show W.callWith_K (h₀:=X.base) I.ok.mod.kin hk (uQ (ha pos L s σ H _ I h) λus s1 u=>?_) J n;have(M,O,z,r,q):=u;show(z.kIn,?_);show aeN F hr hb hd G z r q
section
variable {K:Ζ}
def Bg.okH{st}(F:Bg K x l st f fd)(S:oU N ps<|oI st)(len:∀vs H Q E,sp vs H Q E->vs.length=ps.length)
  (n:∀u A outer s H vs Q E,yt k (A.deeper<|kJ l (oI st) s.heap.objs.size f u)->sp vs H Q E ->
   ∃t,LY (Nz Rl P w K mg base N l (oI st) f u A outer s H E).nox (tH st) t/\t { nx:=λZ G=>Q .non G,rt:=Q } (wc N vs) H):Q7 P w K mg base Rl (k+1) f fd ps sp:=by
 have(L,M,kV,I,pm,O,u,ct,J,rfl,lk,z):=F.ex;show aiG lk z S len λA outer s H vs Q E hr B=>?_;have(t,h,q):=n u A outer s H vs Q E hr B;show(t,h.nox,q)
end
end L2
namespace Mr
open PySem PySem.Spec PyProof.Rows L2
structure FnH (P:kx)(w:kB)(K:Ζ)(mg:Str->Υ)(base:Heap)(k:Nat)(x:Str)(st:Stmt)(ps:List Str)(sp:Sp)(f:Addr)(fd:kz):Prop where
 D:xC K mg x st ps f fd
 ok:Q7 P w K mg base Rl k f fd ps sp
section
variable {st:Stmt}
def UK(G:FnH X.prog X.w X.K X.mg X.base k x st ps sp f fd)(hr:yt k X.A)(ha:PA X (e::es) t)(s:↑(Gl X x))(l:⇑((x == ("__debug__" : Str))=f_))
  (u:↑(ku (e::es) X.env=%[f_|eval e X.env]::ku es X.env)) (n:↑((kN pos<|ku es X.env).any (·.1)=f_)) :
  PE X (.Call (.Name x p) (e::es) [] pos)<|xl sp [] E0 t:=acH G.ok hr s G.D.m G.D.F.kp G.D.b .nil Vp ha l u n
end
end Mr
namespace Z
open PySem L2 Mr Xe
structure qr (K:Ζ)(c:Str)(C:Addr):Prop where
 ns:W.nsIn K kr c=bj (bj<|.ref C)
 cl:NK K C
noncomputable def tU(c f:Str):D->Option D
 | .ins l fs=>if l=c then fs.lookup f else n_
 |_=>n_
noncomputable def AN(c m:Str):AV->Option D
 | .sh (.ins l fs)=>if l=c/\fs.lookup m=n_ then bj (.ins l fs)else n_
 |_=>n_
def aac(ds:List D):Bool:=ds.all D.scal
def xI(c:Str)(fl:List Str)(a:ML):MK:=λS=>(a S).bind λx=>if x.1.length=fl.length/\aac x.1=t_ then bj %[.sh<|.ins c<|fl.zip x.1|x.2]else n_
noncomputable def Kj(c:Str)(b:Bool)(a:ME):ME:=λS=>(a S).bind λx=>match x.1 with
 | .ins l _=>if l=c then bj %[.bl b|x.2]else n_
 |_=>n_
def uG.ins_inv(h:uG K H (.ins c fs) v):∃a C s n,v = .ref a/\W.nsIn K kr c=bj (bj<|.ref C)/\H a=bj (.ins C s n)/\fs.map (·.1)=n.map (·.1)/\∀(i:Nat) d v,fs[i]?=bj d->n[i]?=bj v->uG K H d.2 v.2:=by cases h with
 |ins rf h l e=>show(_,_,_,_,rfl,rf,h,l,e)
theorem Cc:∀{fs:List<|Str×D}{l:List<|Str×V},fs.map (·.1)=l.map (·.1)->(∀(i:Nat) d v,fs[i]?=bj d->l[i]?=bj v->uG K H d.2 v.2)->(fs.lookup f=n_->l.lookup f=n_)/\∀d,fs.lookup f=bj d->∃v,l.lookup f=bj v/\uG K H d v
 | [],[],_,_=>(λQ=>rfl,λd h=>by cases h)
 | [],_::_,h,_=>by cases h
 |_::_,[],h,_=>by cases h
 | %[k|d]::fs,%[k'|v]::l,h,e=>by
  rw[aq,aq]at h;injection h with n s;have n:k=k':=n;subst n;have(i1,t):=Cc (f:=f) s λi d v a b=>e (i+1) d v (by show a)<|by show b
  rw[jA,jA];cases hk:(f == k)with
  |true=>
   show(λq=>?_,λu q=>?_);.cases q
   .cases q;show(v,rfl,e 0 _ _ rfl rfl)
  |false=>show(i1,t)
def qR(I:qr K c C)(J:oQ K C f)(ha:SR K ta a):SR K (al0 K ta f)<|vX (tU c f) a:=by
 intro H₀ s Hf S σ H Fs d S' R e Q q;have(x,e1,e):=oBq.mp e;have(z,l,e):=oMq.mp e;cases e;show ha R (d:=x.1) (S':=x.2) e1 _ λL H1 Fs1 v M O r1=>?_;cases G:x.1 with
 |ins P fs=>
  rw[G]at r1 l;have u:(if P=c then fs.lookup f else n_)=bj d:=l;clear l;split at u;.rename_i T;subst T;have(U,C',X,Y,rfl,n,B,hk,he):=r1.ins_inv;rw[I.ns]at n;cases n;have(w,hw,E):=(Cc (f:=f) hk he).2 d u;show(U,C,X,Y,w,rfl,B,I.cl,J,hw,q _ _ _ w M O E)
  .cases u
 |_=>rw[G]at l;cases l
def IF(C:Addr)(fl:List Str):Sp:=λvs H Q Z=>∃x n l,vs = .ref x::l/\l.length=fl.length/\H x=bj (.ins C n [])/\Q .non (rO H x<|.ins C n<|fl.zip l)
def acr:∀{fl:List Str}{ds}{vs},ds.length=fl.length->sI K H ds vs->(fl.zip ds).map (·.1)=(fl.zip vs).map (·.1)/\∀(i:Nat) d v,(fl.zip ds)[i]?=bj d->(fl.zip vs)[i]?=bj v->uG K H d.2 v.2:=by
 intro fl ds vs hl hr;show(?_,λi d v e1 e2=>?_);.rw[hZ ∅,hZ<|by rw[←hr.1];lia]
 .have(_,l):=dU.mp e1;have(_,g2):=dU.mp e2;show hr.2 i _ _ l g2
def yv(I:qr K c C)(ha:SAr K t a):SK K (aa7 C (IF C fl) [] E t)<|xI c fl a:=by
 intro H₀ s Hf S σ H Fs av S' R e Q q;have(x,e1,e):=oBq.mp e;split at e
 .rename_i u;cases e;show ha R (ds:=x.1) (S':=x.2) e1 _ λz M Fs1 n O P r1 p l T B G=>?_;rw[aNq];have J:rO M l (.own p) p=n_:=by rw[pB<|Ne.symm G];show T
  show(p,l,n,rfl,by rw[←r1.1,u.1],pH,rfl,?_);rw[EO];have(U,R2):=P.layF (o:=.own p) B;have(X,Y):=R2.layF (o:=.ins C l<|fl.zip n) J;have sc:∀(i:Nat) (d:D) (v:V),x.1[i]?=bj d->n[i]?=bj v->uG K (rO (rO z l<|.own p) p<|.ins C l<|fl.zip n) d v:=λi d v L h2=>(r1.2 i d v L h2).scal<|List.all_eq_true.mp u.2 d<|mGq L;have(z1,z2):=acr (K:=K) (fl:=fl) u.1 (r1.1,sc);show q _ _ _ (.ref p) [] ((O.trans U).trans X) Y (.sh<|.ins I.ns pH z1 z2) .nil
 .cases e
structure X0 (K:Ζ)(C:Addr):Prop where
 ha:W.findIn K (.ref C) "__class__" = bj (bj<|.builtin "object.__class__")
 hn:W.specialIn K (.builtin "object.__class__") "__get__" = bj (bj<|.builtin "getset_descriptor.__get__")
 htk:W.takesIn K (.builtin "object.__class__")=bj t_
 hm:W.mroIn K C (.type "object")=bj t_
def aht(K:Ζ)(C:Addr)(u:Value)(b:Bool):List V->Hp->VK->Prop:=λxs H Q=>∃a l n w,xs=[.ref a,w]/\rS w u/\H a=bj (.ins C l n)/\Q (.bl b) H
def acg(cl:NK X.K C)(I:X0 X.K C)(hk:W.kitOne X.K (.ref C) u=bj b)(one:∀w v,rS w u->rS w v->v=u):vN X (.builtin "isinstance")<|aht X.K C u b:=by intro E s σ H G us Q n r h;have(a,J,L,w,rfl,l,x,q):=h;have(M,z,rfl,r1,r2):=Wl r;cases one w z l r2;show XO n r1 (.ins x cl I.ha I.hn I.htk I.hm) hk λB=>(.bl b,H,n.kept (h':=s.heap) (t':=B) λZ Z e=>e,rfl,q)
def Z0(S)c fl a:xI c fl a S=(a S).bind λx=>if x.1.length=fl.length/\aac x.1=t_ then bj %[.sh<|.ins c<|fl.zip x.1|x.2]else n_:=rfl
def RB(c m l)fs:AN c m (.sh<|.ins l fs)=if l=c/\fs.lookup m=n_ then bj (.ins l fs)else n_:=rfl
def RI(c f l)fs:tU c f (.ins l fs)=if l=c then fs.lookup f else n_:=rfl
end Z
namespace Xe
open PySem PySem.Spec PySem.W PyProof.Rows L2 Mr
def aca(C:Addr)(m:Str)(n:TE)(t:TA):TA:=λσ H Q=>n σ H λx l=>∃a s fs,x = .ref a/\l a=bj (.ins C s fs)/\fs.lookup m=n_/\t σ l λvs u=>Q (x::vs) u
structure zA (P:kx)(w:kB)(K:Frag)(mg:Str->Υ)(base:Heap)(k:Nat)(C:Addr)(m:Str)(ps:List Str)(sp:Sp)(f:Addr)(fd:kz):Prop where
 cl:NK K C
 mt:yp K C m f
 b:rF K fd ps []
 ok:zD P w K mg base (W8 P w) k f fd ps sp
structure Bm (P:kx)(w:kB)(K:Frag)(mg:Str->Υ)(base:Heap)(k:Nat)(C:Addr)(m:Str)(ps:List Str)(sp:Sp)(f:Addr)(fd:kz):Prop where
 cl:NK K C
 mt:yp K C m f
 b:rF K fd ps []
 ok:zD P w K mg base Rl k f fd ps sp
def yQ(G:Bm X.prog X.w X.K X.mg X.base k C m ps sp f fd)(hr:um k X.A)(l:PE X o ta)
  (ht:↑(eval (.Call (.Attribute o m apos) [] [] pos) X.env=(do
   let ov ←eval o X.env
   mQ apos.atName
   let %[f|first] ←mS [ov] (mw ov m pl)
   ny pos f first (kN pos<|ku [] X.env) (mO pos<|mn [] X.env)))):PE X (.Call (.Attribute o m apos) [] [] pos)<|xl sp [] E0<|aca C m ta xH:=abn l G.cl G.mt G.ok hr G.b .nil Vp ht
def adQ(G:zA X.prog X.w X.K X.mg X.base k C m ps sp f fd)(hr:um k X.A)(T:PE X.nox o ta)(ha:PA X.nox (e::es) t)(hh:PH X (h₀::hs) th)(U:X.N.Nodup)(hi:X.N[i]?=bj y)(Y:Loc X.env.scope y)
  (hf:↥(X.fn y=t_∨X.env.scope.names.lookup y=bj .local)) (n:↑(X.stack=X.env::X.outer)) (E:↑(X.env.frame=bj X.env.locals))
  (J:↑(ku (e::es) X.env=%[f_|eval e X.env]::ku es X.env)) (L:↑((kN pos<|ku es X.env).any (·.1)=f_))
  (ht:↑(eval (.Call (.Attribute o m apos) (e::es) [] pos) X.env=(do
   let ov ←eval o X.env
   mQ apos.atName
   let %[f|first] ←mS [ov] (mw ov m pl)
   ny pos f first (kN pos<|ku (e::es) X.env) (mO pos<|mn [] X.env))))
  (M:↑(lS (.Call (.Attribute o m apos) (e::es) [] pos) (bj<|.Name y py) pos2.line X.env=pure f_)) :
  PTb X [.Assign [.Name y py] (.Call (.Attribute o m apos) (e::es) [] pos) pos2] h₀ hs<|Ze i sp (aca C m ta t) th:=by
 intro Q s σ H D I h;show lV<|mY (W.methodCall_KW (pl:=pl) (kG (T Q s σ H _ (I.wish _) h) (λu s1 z=>?_) λZ Z z=>z.elim) ht) M;have(x,H1,R,rx,a,dx,fs,ex,ea,l,q):=z;subst ex;obtain rfl:u=ah a:=rx;show Gq (X:=X.nox) R ea G.cl G.mt l ?_;show W.callWith_K (first:=[.ref a]) (h₀:=X.base) I.ok.mod.kin G.mt.kp (kG (ha pos Q s1 σ H1 _ R q) (λus s2 z=>?_) λZ Z z=>z.elim) J L;have(vs,S,B,r,O):=z;show(B.kIn,?_);show Qz (us:=.ref a::us) (vs:=.ref a::vs) G.ok G.b hr n E hh B.unwish (.cons rfl r) O λu s' P=>?_;have(v,S,B,rv,O):=P;show Eo B U hi Y rv (λs3 I3=>kR (_,S,I3,O)) hf
end Xe
namespace Z
open PySem L2 Mr Xe
def rH(c m:Str)(k:MK)(a:MA):MA:=λS=>(k S).bind λo=>(AN c m o.1).bind λd=>(a o.2).map λx=>%[.sh d::x.1|x.2]
set_option tactic.hygienic true in
def Vj(h:AN c m o=bj d):∃fs,o = .sh (.ins c fs)/\d = .ins c fs/\fs.lookup m=n_:=by
 unfold AN at h;split at h
 .rename_i n fs;split at h;.rename_i l;cases h;have(rfl,l):=l;show(fs,rfl,rfl,l)
  .cases h
 .cases h
def qX.cons'(h:rP K Hf H a v F)(r:qX K Hf H as vs l):qX K Hf H (a::as) (v::vs)<|F::l:=by
 have(l1,l2,e):=r;show(by simp[l1],by simp[l2],λi b w G e1 e2 n=>?_);cases i with
 |zero=>cases e1;cases e2;cases n;show h
 |succ i=>show e i b w G (by show e1) (by show e2)<|by show n
def pK(I:qr K c C)(hk:SK K ta k)(ha:SA K t a):SA K (aca C m ta t)<|rH c m k a:=by
 intro H₀ n Hf S σ H Fs as S' R e Q q;have(o,e1,e):=oBq.mp e;have(d,e2,e):=oBq.mp e;have(x,J,e):=oMq.mp e;cases e;show hk R (a:=o.1) (S':=o.2) e1 _ λL H0 M v0 F0 t0 z B o0=>?_;have(fs,O,hd,hl):=Vj e2;rw[O]at B;have(hF,rd):=B.sh_inv;have(E,C',P,T,rfl,l,s,u,U):=(rd.mono z.sub).ins_inv;rw[I.ns]at l;cases l;show(E,P,T,rfl,s,(Cc (f:=m) u U).1 hl,ha z (as:=x.1) (S':=x.2) J _ λX H1 Fs1 Y Gs G R1 r1 o1=>?_);subst hd;show q _ _ _ (.ref E::Y) ([]::Gs) (t0.trans G) R1 (qX.cons' (.sh<|rd.mono G.sf) r1) ?_;simp only[fCq,gj];show o1.back t0
def AA(G:zA X.prog X.w X.K X.mg X.base k C m ps (vm X.K g) f fd)(hr:um k X.A)(z:yX (W8 X.prog X.w) X E)(B:PE X o x)(ha:PA X (e::n) t)
  (s:↑(ku (e::n) X.env=%[f_|eval e X.env]::ku n X.env)) (u:↑((kN pos<|ku n X.env).any (·.1)=f_))
  (ht:↑(eval (.Call (.Attribute o m l) (e::n) [] pos) X.env=(do
   let ov ←eval o X.env
   mQ l.atName
   let %[f|first] ←mS [ov] (mw ov m pl)
   ny pos f first (kN pos<|ku (e::n) X.env) (mO pos<|mn [] X.env)))):PE X (.Call (.Attribute o m l) (e::n) [] pos)<|xl (vm X.K g) [] E<|aca C m x t:=adV B G.cl G.mt G.ok hr G.b .nil z ha s u ht
def vv(S)c m k a:rH c m k a S=(k S).bind λo=>(AN c m o.1).bind λd=>(a o.2).map λx=>%[.sh d::x.1|x.2]:=rfl
structure C3 (P:kx)(w:kB)(K:Ζ)(mg:Str->Υ)(base:Heap)(c:Str)(C f:Addr)(fd:kz)(ps fl:List Str):Prop where
 mki:Mk K C f
 ok:zD P w K mg base Rl 1 f fd ps<|IF C fl
 b:rF K fd ps []
 m:mg c=bj (.ref C)
def yD(G:C3 X.prog X.w X.K X.mg X.base c C f fd ps fl)(hr:um 2 X.A)(ha:PA X (e::l) t)(u:↑(Gl X c))(n:⇑((c == ("__debug__" : Str))=f_))
  (x:↑(ku (e::l) X.env=%[f_|eval e X.env]::ku l X.env)) (s:↑((kN pos<|ku l X.env).any (·.1)=f_)):PE X (.Call (.Name c p) (e::l) [] pos)<|aa7 C (IF C fl) [] E0 t:=afB G.mki G.ok hr u G.m G.b .nil Vp ha n x s
def CY(h:IF C fl vs H Q E):vs.length=fl.length+1:=by have(x,l,n,rfl,hl,_):=h;rw[lCq,hl]
def agR(cl:NK K C)(n:oQ K C f1)(h:IF C [f1] vs H Q E):Zg K (xF 0) (xF 1) f1 { nx:=λZ s=>Q .non s,rt:=Q } (wc ["self", p1] vs) H:=by
 have(x,t,u,rfl,hl,z,q):=h;obtain - | ⟨w, - | ⟨B,l⟩⟩:=u <;> cases hl;show(w,rfl,.ref x,rfl,x,C,t,[],rfl,z,cl,n,by decide,q)
def agX(cl:NK K C)(I:oQ K C f1)(J:oQ K C f2)(L:oQ K C f3)(z:¬ f1=f2)(B:¬ f1=f3)(G:¬ f2=f3)(h:IF C [f1,f2,f3] vs H Q E) :
  Pd (Zg K (xF 0) (xF 1) f1) (Pd (Zg K (xF 0) (xF 2) f2)<|Zg K (xF 0) (xF 3) f3) { nx:=λZ M=>Q .non M,rt:=Q } (wc ["self", p1,p2,p3] vs) H:=by
 have(x,t,O,rfl,hl,P,q):=h;obtain - | ⟨n, - | ⟨s, - | ⟨u, - | ⟨S,l⟩⟩⟩⟩:=O <;> cases hl;have e2:An f2 s [%[f1|n]]=[%[f1|n],%[f2|s]]:=by simp[An,z]
 have R:An f3 u [%[f1|n],%[f2|s]]=[%[f1|n],%[f2|s],%[f3|u]]:=by simp[An,B,G]
 show(n,rfl,.ref x,rfl,x,C,t,[],rfl,P,cl,I,by decide,s,rfl,.ref x,rfl,x,C,t,_,rfl,pH,cl,J,iK rfl,u,rfl,.ref x,rfl,x,C,t,_,rfl,pH,cl,L,?_,?_);.change(An f2 s [%[f1|n]]).length<1000;rw[e2];show iK rfl
 .change Q .non (rO (rO (rO H x _) x _) x<|.ins C t<|An f3 u<|An f2 s [%[f1|n]]);rw[EO,EO,e2,R];show q
def IA(I:qr K c C)(n:rS w u)(ha:SR K B a):SR K (tCB (aht K C u b)<|vB B<|vB (tC w) xH)<|Kj c b a:=by
 intro H₀ s Hf S σ H Fs d J R e Q q;have(x,e1,e):=oBq.mp e;show ha R (d:=x.1) (S':=x.2) e1 _ λL H1 Fs1 v M O r1=>?_;cases G:x.1 with
 |ins P fs=>
  rw[G]at r1 e;have t:(if P=c then bj %[D.bl b|x.2]else n_)=bj %[d|J]:=e;clear e;split at t;.rename_i T;subst T;cases t;have(U,C',X,Y,rfl,l,z,_):=r1.ins_inv;rw[I.ns]at l;cases l;show(U,X,Y,w,rfl,n,z,q _ _ _ _ M O .bl)
  .cases t
 |_=>simp only[G]at e;cases e
def adu:∀w v,rS w (.ref C)->rS w v->v = .ref C:=by intro w v l n;cases w with
 |ref a=>have l:ah C=ah a:=l;have n:v=ah a:=n;rw[n,l]
 |_=>first|(cases l;done)|(have(_,l):=l;cases l)
end Z
namespace Mr
open PySem PySem.Spec PySem.W PyProof.Rows L2 HT
def Se{σ:St}(I:qt X B σ H s)(M:X.A.units+65<kP)(e1:uB H ps rs)(u:p∈ps)(x:H b=bj (.lst<|r.map V.int)):SeqAt.EqAt X.A.in1 s (.ref p) (.ref b)<|decide<|wY H p=r:=by
 by_cases e:p=b
 .subst e;have l:=e1.fn_row u;rw[x]at l;have G:r.map V.int=(wY H p).map V.int:=by injection l with l;injection l
  have J:r=wY H p:=(List.map_inj_right<|λZ Z z=>by injection z).mp G;rw[d0 J.symm];show SeqAt.EqAt.same _
 .show SeqAt.EqAt.of_refs e λprog w E Q L=>?_;have(O,hl,hi,_):=Ak I<|vk.of<|e1.fn_row u;have(P,n,t,_):=Ak I<|vk.of x;show W.eq_intsK (prog:=prog) (w:=w) (A:=X.A.in1) hl hi n t (by change X.A.units+1+64<kP;rfl') L
def amd(neg:Bool):R2:=λx y H Q=>∃(b a:Addr) (ps:Δ) (rs:Λ) (r:Ϝ),x = .ref b/\y = .ref a/\H a=bj (.lst<|ps.map V.ref)/\uB H ps rs/\H b=bj (.lst<|r.map V.int)/\Q (.bl<|if neg then !decide (r∈rs)else decide<|r∈rs) H
def abh(e1:uB H ps rs):(ps.map ah).toArray.any (λy=>decide<|wY H (Ax y)=r)=decide (r∈rs):=by
 rw[List.any_toArray,jn,dh,cX,decide_eq_true_iff,e1.fn,mMq];show(λl=>?_,λ⟨p,n,z⟩=>(p,n,d0 z));have(p,n,z):=l;show(p,n,of_decide_eq_true z)
def Nu(n:X.A.units+65<kP):JF X (kX .NotIn)<|amd t_:=by
 intro O s σ H x y v u Q I t z h;have(b,a,ps,P,r,rfl,rfl,B,e1,E,q):=h;cases t;cases z;have(G,J,pl,R):=I.list<|vk.of B;have L:=BQ J;subst L;show SeqAt.notIn_listAt (λy=>decide<|wY H (Ax y)=r) pl.isList (λy l=>?_) ?_;.rw[List.mem_toArray]at l;have(p,M,rfl):=mMq.mp l;show Se I n e1 M E
 .rw[abh e1];show(.bl _,H,I,rfl,q)
def VO:V->List V->Hp->VK->Prop:=λx vs H Q=>∃(a b:Addr) (ps:Δ) (rs:Λ) (r:Ϝ),x = .ref a/\vs=[.ref b]/\H a=bj (.lst<|ps.map V.ref)/\uB H ps rs/\H b=bj (.lst<|r.map V.int)/\r∈rs/\Q (.int (rs.idxOf r:Nat)) H
def Np(T:X.A.units+65<kP):MtR X "list.index" VO:=by
 intro ou s σ H x xs v us Q I U r h;have(a,b,ps,l,row,rfl,rfl,Y,e1,h2,hm,q):=h;cases U;have(u,rfl,ru):=HD r;cases ru;have(its,rv,(o,n,J,L,t,hd),hz):=I.list<|vk.of Y;have ei:=BQ rv;subst ei;have(cls,dd,M,sl):=o;simp only at L t hd;subst L t hd;have O:l.idxOf row<l.length:=dc.mpr hm;have hs:ky=16777216:=kO;have hl:ps.length=l.length:=by rw[e1.fn,lMq]
 rw[lMq]at hz;have P:∀i (hi:i<ps.length),wY H ps[i]=l[i]'(hl ▸ hi):=λi hi=>by
  have:=e1.fn;have R:l[i]?=(ps.map<|wY H)[i]?:=by rw[←this]
  rw[gMq,gEg hi,gEg<|hl ▸ hi]at R;show(bj.inj R).symm
 show lX dm (_,J,rfl) hV (gX _ _)
  (SeqAt.list_indexAt a (ps.map ah).toArray n n_ sl (.ref b) (λy=>decide<|wY H (Ax y)=row) (l.idxOf row) (by simp[hl];show O) ∅ ?_ ?_) (J,λy hy=>?_,?_);.rw[iU,jB];show d0 ?_;change wY H ps[l.idxOf row]=row;rw[P _<|hl ▸ O,ff]
 .intro j B E;rw[iU,jB];show d4 ?_;have G:j<ps.length:=by simpa using B
  change ¬ wY H ps[j]=row;rw[P j G];intro z;have S:=iC (p:=(· == row)) E;rw[beq_eq_false_iff_ne]at S;show S z
 .have(p,hp,rfl):=mMq.mp<|show y∈ps.map ah by simpa using hy
  show Se I T e1 hp h2
 .show(.int _,H,I.tok _,(_,rfl),q)
end Mr
namespace Z
open PySem L2 Mr Xe
def acQ(neg:Bool)(a:ME):ME:=λS=>(a S).bind λx=>match x.1 with
 | .list ds=>(AB ds).map λrs=>%[.bl<|if neg then !decide (([]:Ϝ)∈rs)else decide<|([]:Ϝ)∈rs|x.2]
 |_=>n_
def Q8(a:ME):ME:=λS=>(a S).bind λx=>match x.1 with
 | .list ds=>(AB ds).bind λrs=>if ([]:Ϝ)∈rs then bj %[.int (rs.idxOf []:Nat)|x.2]else n_
 |_=>n_
def ach neg(ha:SR K te a):SR K (tOp (amd neg) (Z7 xH) te)<|acQ neg a:=by
 intro H₀ l Hf S σ H L d M R e Q q;have(x,e1,e):=oBq.mp e;show(aY _,λb hb=>?_);have(s,t,O,P,T):=R.new (o:=.lst []) hb;show ha t (d:=x.1) (S':=x.2) e1 _ λu U Fs1 v n z r1=>?_;split at e;.rename_i X B;have(E,e2,e):=oMq.mp e;cases e;rw[B,EM e2]at r1;have(p,us,rfl,G,I):=r1.list_inv;have(ps,rfl,J):=zg I;show(b,p,ps,E,[],rfl,rfl,G,J,n.sh _ _ pH,q _ _ _ _ (s.trans n) z .bl)
 .cases e
def Wr(ha:SR K te a):SR K (Vu K "list" VO te<|vB (Z7 xH) xH)<|Q8 a:=by
 intro H₀ l Hf S σ H L d M R e Q q;have(x,e1,e):=oBq.mp e;show ha R (d:=x.1) (S':=x.2) e1 _ λt O Fs1 v u z r1=>?_;split at e
 .rename_i P B;have(E,e2,e):=oBq.mp e;split at e
  .rename_i hm;cases e;rw[B,EM e2]at r1;have(p,us,rfl,n,G):=r1.list_inv;have(ps,rfl,I):=zg G;show(.inl (rfl,_,vk.of n),aY _,λb hb=>?_);have(s,J,T,U,X):=z.new (o:=.lst []) hb;show(p,b,ps,E,[],rfl,rfl,(by rw[pB<|tZ n hb];show n),I.same s.sh,pH,hm,q _ _ _ _ (u.trans s) J .int)
  .cases e
 .cases e
def VI(S)neg a:acQ neg a S=(a S).bind λx=>match x.1 with
 | .list n=>(AB n).map λl=>%[.bl<|if neg then !decide (([]:Ϝ)∈l)else decide<|([]:Ϝ)∈l|x.2]
 |_=>n_:=rfl
def Zb(S)a:Q8 a S=(a S).bind λx=>match x.1 with
 | .list n=>(AB n).bind λl=>if ([]:Ϝ)∈l then bj %[.int (l.idxOf []:Nat)|x.2]else n_
 |_=>n_:=rfl
end Z
namespace Z
open PySem PySem.Spec PySem.W PyProof.Rows L2 Mr Xe
def amo(C:Addr):TE:=λZ H Q=>∀x l,H x=n_->H l=n_->l≠x->Q (.ref x) (rO (rO H l<|.own x) x<|.ins C l [])
structure O3 (K:Frag)(mg:Str->Υ)(c:Str)(C:Addr):Prop where
 mki:makesIn K C=t_
 ini:findIn K (.ref C) "__init__" = bj (bj<|.builtin "object.__init__")
 kp:keepIn K (.ref C)=t_
 m:mg c=bj (.ref C)
def Ip(G:O3 X.K X.mg c C)(n:↑(Gl X c))(l:⇑((c == ("__debug__" : Str))=f_)):PE X (.Call (.Name c p) [] [] pos)<|amo C:=by
 intro J s σ H Q I h;show kM<|zh I n G.m ?_ l;show W.callWith_K0 I.kIn G.kp ?_;have u:=h (s.heap.objs.size+1) s.heap.objs.size (I.hok.fresh<|bR _) (I.hok.fresh<|ae _)<|aB<|dA _;have x:=qt.made (C:=C) I;have kin:=I.kIn;have Y:=makes_of (M:=kg X.prog X.w) kin G.mki;have(hh,g,d,t,os):=s;show lF<|make_core Y (looks_findIn kin G.ini) (λself=>Looks.of_pure<|oi_bind self) (.inr (rfl,rfl)) ?_;have z:((hh.push emptyDict).push<|instObj C hh.objs.size).get? (hh.objs.size+1)=bj (instObj C hh.objs.size):=by heap_get
 have B:Looks (kg X.prog X.w) ((hh.push emptyDict).push<|instObj C hh.objs.size) (typeOf<|.ref<|hh.objs.size+1)<|.ref C:=(Looks.ld z).andThen .now;have E:Looks (kg X.prog X.w) ((hh.push emptyDict).push<|instObj C hh.objs.size) (ni (.ref<|hh.objs.size+1)<|.type "object") t_:=B.andThen<|Y.top.keeps λb o e=>aa _<|aa _ e;show kQ oi_plain entry_oi<|@check_slot (kg X.prog X.w) _ _ _ "object.__init__" "object" "__init__" (.ref<|hh.objs.size+1) [] [] _ oi_kind oi_split E (oi_args<|.ref<|hh.objs.size+1) ?_;change kj _ _ (Builtin.«object.__init__» ([.ref<|hh.objs.size+1],[])) _ _ _;rw[oi_run];show kA<|And.intro rfl (V.ref<|hh.objs.size+1,_,x,rfl,u)
def Iz{K:Frag}(I:qr K c C):SK K (amo C)<|xI c [] oW:=by
 intro H₀ l Hf S σ H G J L R e Q q;cases e;intro p u x n s;have t:rO H u (.own p) p=n_:=by rw[pB<|Ne.symm s];show x
 have(z,R2):=R.layF (o:=.own p) n;have(B,E):=R2.layF (o:=.ins C u []) t;show q _ _ _ (.ref p) [] (z.trans B) E (.sh<|.ins I.ns pH rfl λi d v e=>by cases e) .nil
end Z
namespace Z
open PySem L2 Mr Xe
def apn(f:D->D->Option D)(m b:ME):ME:=λS=>(m S).bind λx=>(b x.2).bind λy=>(f x.1 y.1).bind λd=>if d.scal then bj %[d|y.2]else n_
def ao3(i:Nat)(g:Int->Int->Int)(b:ME):MS:=λS=>(oE i S).bind λx=>(intOf x.1).bind λa=>(b x.2).bind λy=>(intOf y.1).map λc=>.nx<|y.2.set i<|i3<|g a c
def anT(i:Nat)(l:MP)(n:ME):MS:=λS=>(l S).bind λx=>(tW x.2 i).bind λavs=>(sH (.ow avs) x.1).bind λas=>(n<|x.2.set i n_).bind λy=>yP (y.2[i]?=bj n_/\as.length<tL)<|bj<|.nx<|y.2.set i<|bj<|putAt (.ow avs) x.1<|as++[.sh y.1]
def Wg(g:MF)(f:uU)(a:MA):MX:=λS=>(a S).bind λx=>(f<|x.1.map pA).bind<|wZ λr=>(g [pA r]).map λz=>.ok<|.rt z
def Rr(ha:SA K L a):Kn K E (Yi<|xl (qQ K g) [] E0<|vB (xl (vm K f) [] E L) xH)<|Wg g f a:=by
 intro H₀ u Hf S σ H Fs o R e D q;have(x,e1,e):=oBq.mp e;have(r,e2,e):=oBq.mp e;show ha R (as:=x.1) (S':=x.2) e1 _ λQ H1 Fs1 vs Gs T U r1 X=>?_;have(R2,r2,Y):=U.gives T r1 X;rw[aNq];show(_,_,r,R2.sub,r2,e2,Be R2 e Y.sf q λM z s H' v F s1 R' ra nd fr=>?_);have(z1,ez,z):=oMq.mp z;cases z;have O:qX K s H' [M] [v] [F]:=qX.nil.snoc ra;have n:∀q∈[F].flatten,s q=n_:=λq l=>(O.owned q l).2;have P:∀q∈[F].flatten,q∈F:=λq l=>by rwa [aK]at l
 have B:=R'.frz (λq l=>(R2.fr.free<|fr q<|P q l,λm=>(R2.mem m).1<|fr q<|P q l)) n;have r3:=O.frozen (vc n) λq l=>Eg l;show(_,[pA M],z1,B.sub,r3,ez,λHf4 H4 v4 F4 u1 u2 u3 l' G I J=>?_);have t:=Ae B u1 u2 u3 l';show q _ _ _ _ t.sf t.fr t.sub t.lim G I λp hp=>B.fr.free<|J p hp
def aiM(S)g f a:Wg g f a S=(a S).bind λx=>(f<|x.1.map pA).bind<|wZ λr=>(g [pA r]).map λz=>.ok<|.rt z:=rfl
end Z
local macro_rules|`(tactic|simp! $c:optConfig [$ls,*]$[$l:location]?)=>do let x:=("BI akO alw amg amu amf alv alp akT anD anA akP rC_ anq akX ak7 akd amJ ajJ aob ak3 agg amF ajr ahX afw aln al5 amA ahK ajX XZ anh aoc aon aj5 ah4 ahG abo acz al1 alr alY anr alO aml ajc RA XS Xt Zp aii aiB alS afy aki ajh alD an3 Yx Ts acK YD ahH aek afe abN anP Tz ahP al7 aje ahy anM ab0 aiJ akv alh af0 akz ah6 akZ ZA aeP Zn aco adm ack ae4 afl agw aiH ajQ akh p57 p58 p59 Hv P2 Vn Ot agk Oy aeQ adN YG aag aaF OA acZ adn afr acn ae7 ZD X8 xk vY YO alV vV TU Xn gt1 gt2 gt3 gt4 st1 Qj st3 st4 anB Y5 aae aa0 amI anj RU agh ZH abL abW V1 ah1 aog afN aec ajk ana akt S5 acW aex WU ale Wy abK aba akn als acM Q0 Ky KC XA alI ahU aaJ aku afh WX Eb ahV ais aiu ajj ajb akl aiD aim akb aju ajs akf akg ajO Oz amv aoo ah2 ajM amn amm aib ahA agc alF adK TY afV adL agz aj2 aiM".splitOn.map (Lean.Name.str `_root_.Z)++"getElem?_cons_zero set_cons_zero length_cons length_nil map_cons map_nil nil_append cons_append length_map replicate_zero append_nil reduceReplicate".splitOn.map (Lean.Name.str `List)++"Option.join_some Option.map_some Option.map_none Option.bind_some Option.bind_none Bool.not_true Bool.not_false Bool.false_eq_true decide_true decide_false Nat.zero_add Nat.reduceAdd Nat.reduceSub Nat.reduceEqDiff Nat.reduceLeDiff reduceCtorEq".splitOn.map String.toName).toArray.map Lean.mkIdent;`(tactic|simp $c:optConfig only[$[$x:ident],*,↓reduceIte,$ls,*]$[$l:location]?)
namespace Z
open PySem L2 Mr Xe
def aao(g f:uU)(a:MA):MX:=λS=>(a S).bind λx=>(f<|x.1.map pA).bind<|wZ λr=>(g [pA r]).bind<|wZ λz=>bj<|.ok<|.rt z
def acj(ha:SA K J a):Kn K E (Yi<|xl (vm K g) [] E<|vB (xl (vm K f) [] E J) xH)<|aao g f a:=by
 intro H₀ Hf₀ Hf S σ H Fs o R e D q;have(x,e1,e):=oBq.mp e;have(r,e2,e):=oBq.mp e;show ha R (as:=x.1) (S':=x.2) e1 _ λQ H1 Fs1 vs Gs T U r1 X=>?_;have(R2,r2,L):=U.gives T r1 X;rw[aNq];show(_,_,r,R2.sub,r2,e2,Be R2 e L.sf q λM z s Y v F s1 R' ra nd fr=>?_);have(z1,ez,z):=oBq.mp z;have O:qX K s Y [M] [v] [F]:=qX.nil.snoc ra;have n:∀q∈[F].flatten,s q=n_:=λq l=>(O.owned q l).2;have P:∀q∈[F].flatten,q∈F:=λq l=>by rwa [aK]at l
 have u:=R'.frz (λq l=>(R2.fr.free<|fr q<|P q l,λm=>(R2.mem m).1<|fr q<|P q l)) n;have r3:=O.frozen (vc n) λq l=>Eg l;show(_,[pA M],z1,u.sub,r3,ez,Be u z ((L.sf.trans s1).trans<|vc n) q λav4 z4 Hf4 H4 v4 F4 s4 t B G I=>?_);cases z4;show q _ _ _ _ t.sf t.fr t.sub t.lim B G λp hp=>u.fr.free<|I p hp
def OX(S)g f a:aao g f a S=(a S).bind λx=>(f<|x.1.map pA).bind<|wZ λr=>(g [pA r]).bind<|wZ λz=>bj<|.ok<|.rt z:=rfl
noncomputable def YR:AV->Option (List D)
 | .sh (.tup ds)=>bj ds
 |_=>n_
def af6(h:YR a=bj ds):a = .sh (.tup ds):=by
 unfold YR at h;split at h <;> cases h;rfl
def Sg(k:MK)(lo hi:MO):MK:=λS=>(k S).bind λx=>(YR x.1).bind λds=>(lo x.2).bind λy=>(hi y.2).bind λz=>if HT.xi ds.length 0 y.1=0/\HT.xi ds.length ds.length z.1=ds.length then n_ else bj %[.sh<|.tup<|wW ds y.1 z.1|z.2]
def ab3(hk:SK K te k)(n:SO K tl lo)(s:SO K E hi):SK K (tSl (akU K) te tl E)<|Sg k lo hi:=by
 intro H₀ t Hf S σ H Fs av S' R e Q q;have(x,e1,e):=oBq.mp e;have(L,M,e):=oBq.mp e;have(y,e2,e):=oBq.mp e;have(z,O,e):=oBq.mp e;split at e;.cases e
 .rename_i hw;cases e;show hk R (a:=x.1) (S':=x.2) e1 _ λP H1 Fs1 v F T U r1 o1=>?_;rw[af6 M]at r1;have(X,l,rfl,Y,G):=r1.sh_inv.2.tup_inv;show n U (o:=y.1) (S':=y.2) e2 _ λHf2 H2 Fs2 u R2=>s R2 (o:=z.1) (S':=z.2) O _ λHf3 H3 Fs3 B I=>?_;have hl:L.length=l.length:=G.1;show(X,l,rfl,FF.of<|I.sub _ _<|(u.sf.trans B.sf) _ _ Y,by rw[←hl];show hw,λp hp=>?_);have(J,R4):=I.layF (o:=.tup<|PD l y.1 z.1) hp;show q _ _ _ (.ref p) [] (((T.trans u).trans B).trans J) R4 (.sh<|.mk_tup pH<|((G.mono<|u.sf.trans B.sf).cut _ _).mono J.sf) .nil
def ag2(S)k lo hi:Sg k lo hi S=(k S).bind λx=>(YR x.1).bind λds=>(lo x.2).bind λy=>(hi y.2).bind λz=>if HT.xi ds.length 0 y.1=0/\HT.xi ds.length ds.length z.1=ds.length then n_ else bj %[.sh<|.tup<|wW ds y.1 z.1|z.2]:=rfl
end Z
namespace Z
open PySem L2 Mr
noncomputable def aff:D->Option (List D)
 | .tup ds=>bj ds
 |_=>n_
noncomputable def Kw:Θ->List D->AS->AS
 |i::is,d::ds,S=>Kw is ds<|S.set i<|bj<|.sh d
 |_,_,S=>S
def Vb(is:Θ)(k:MK):MS:=λS=>(k S).bind λx=>(aff<|pA x.1).bind λds=>if ds.length=is.length then bj<|.nx<|Kw is ds x.2else n_
def ahL(is)k S:Vb is k S=(k S).bind λx=>(aff<|pA x.1).bind λds=>if ds.length=is.length then bj<|.nx<|Kw is ds x.2else n_:=rfl
def ak1 ds:aff (.tup ds)=bj ds:=rfl
def aed i(is:Θ)d ds S:Kw (i::is) (d::ds) S=Kw is ds (S.set i<|bj<|.sh d):=rfl
def aei S:Kw [] [] S=S:=rfl
def gNs:Θ->TGs
 | []=>aai
 |i::is=>Ji (xa i)<|gNs is
theorem acv{Q:St->Hp->Prop}:∀is {ds}{vs}{S}{σ}{s},ds.length=is.length->sI K Hf ds vs->rQ K H₀ l Hf S σ H s->(∀n t,rQ K H₀ l Hf (Kw is ds S) n H t->Q n H)->gNs is vs σ H Q
 | [],[],vs,S,σ,s,_,r,R,h=>(r.nil_inv,h _ _ R)
 |i::is,d::ds,vs,S,σ,s,e,r,R,h=>by have(v,u,rfl,r1,r2):=r.cons_inv;show(v,u,rfl,acv is (Nat.succ.inj e) r2 (R.setD i r1) h)
def afL is(hk:SK K te k):SS K (OT te<|aaO K is.length<|gNs is)<|Vb is k:=by
 intro H₀ l Hf S σ H P o R e D h;have(x,e1,e):=oBq.mp e;have(s,e2,e):=oBq.mp e;have n:SK K te<|yG k:=SK.frz hk;show n R (a:=.sh<|pA x.1) (S':=x.2) (by change(k S).map _=_;rw[e1];rfl) _ λB Q Fs1 v F E u r1 T=>?_;have(U,r):=r1.sh_inv;have G:pA x.1 = .tup s:=by
  unfold aff at e2;split at e2;.rename_i hd;cases e2;show hd
  .cases e2
 rw[G]at r;by_cases hl:s.length=is.length;.rw[qF hl]at e;cases e;have(t,I,rfl,J,z):=r.tup_inv;show(t,I,rfl,FF.of<|u.sub _ _ J,by rw[←z.1];show hl,acv is hl z u λL M O=>h _ _ _ _ E.sf O)
 .rw[qL hl]at e;cases e
end Z
namespace L2
open PySem PySem.Spec PySem.W PyProof.Rows
def aiT(a b:TE):TE:=λσ H Q=>a σ H Q∨b σ H Q
def acE(a b:TS):TS:=λD σ H=>a D σ H∨b D σ H
def Ao(l:PE X e a)(n:PE X e b):PE X e<|aiT a b:=λQ Q Q Q Q I h=>h.elim (l _ _ _ _ _ I)<|n _ _ _ _ _ I
def Py(l:PS X s a)(n:PS X s b):PS X s<|acE a b:=λQ Q Q Q Q I h=>h.elim (l _ _ _ _ _ I)<|n _ _ _ _ _ I
end L2
namespace Z
open PySem L2 Mr Xe
noncomputable def yM(a b:ME):ME:=λS=>(a S).or<|b S
noncomputable def ID(a b:MK):MK:=λS=>(a S).or<|b S
noncomputable def T6(a b:MS):MS:=λS=>(a S).or<|b S
def J0{α:Type}{a b:Option α}{x}(h:a.or b=bj x):a=bj x∨b=bj x:=by cases a with
 |none=>show .inr h
 |some y=>show .inl h
def uL(l:SR K ta a)(n:SR K tb b):SR K (aiT ta tb)<|yM a b:=λR e Q q=>(J0 e).elim (λe=>.inl<|l R e Q q) λe=>.inr<|n R e Q q
def vE(l:SK K ta a)(n:SK K tb b):SK K (aiT ta tb)<|ID a b:=λR e Q q=>(J0 e).elim (λe=>.inl<|l R e Q q) λe=>.inr<|n R e Q q
def KP(l:SS K t a)(n:SS K u b):SS K (acE t u)<|T6 a b:=λR e D q=>(J0 e).elim (λe=>.inl<|l R e D q) λe=>.inr<|n R e D q
noncomputable def ab5:AV->Option (List D)
 | .sh (.tup ds)=>bj ds
 |_=>n_
def Wn(h:ab5 a=bj ds):a = .sh (.tup ds):=by
 unfold ab5 at h;split at h;.cases h;rfl
 .cases h
def WI(c m:Str)(g:MF)(f:uU)(a:MA):MX:=λS=>(a S).bind λx=>(f<|x.1.map pA).bind<|wZ λr=>(AN c m r).bind λd=>(g [d]).map λz=>.ok<|.rt z
def Qo(I:qr K c C)(ha:SA K M a):Kn K E (Yi<|xl (qQ K g) [] E0<|aca C m (xl (vm K f) [] E M) xH)<|WI c m g f a:=by
 intro H₀ t Hf S σ H Fs o R e D q;have(x,e1,e):=oBq.mp e;have(r,e2,e):=oBq.mp e;show ha R (as:=x.1) (S':=x.2) e1 _ λP H1 Fs1 vs Gs Q T r1 U=>?_;have(R2,r2,X):=T.gives Q r1 U;rw[aNq];show(_,_,r,R2.sub,r2,e2,Be R2 e X.sf q λav z Y H' v F s1 n O nd fr=>?_);have(d,ed,z):=oBq.mp z;have(z1,ez,z):=oMq.mp z;cases z;have(fs,ho,hd,hl):=Vj ed;rw[ho]at O;have(hF,rd):=O.sh_inv;have(a',C',dx,gs,rfl,l,u,B,he):=(rd.mono n.sub).ins_inv;rw[I.ns]at l;cases l;show(a',dx,gs,rfl,u,(Cc (f:=m) B he).1 hl,?_);subst hd;show(_,[.ins c fs],z1,n.sub,.cons rd .nil,ez,λHf4 H4 v4 F4 u1 u2 u3 l' G J L=>?_);have s:=Ae n u1 u2 u3 l';show q _ _ _ _ s.sf s.fr s.sub s.lim G J λp hp=>n.fr.free<|L p hp
def Pe(S)c m g f a:WI c m g f a S=(a S).bind λx=>(f<|x.1.map pA).bind<|wZ λr=>(AN c m r).bind λd=>(g [d]).map λz=>.ok<|.rt z:=rfl
noncomputable def HW(a b:MX):MX:=λS=>(a S).or<|b S
def K7(i:Nat)(f:uU)(a:MA):MX:=λS=>(tW S i).bind λQ=>(a S).bind λx=>(f<|x.1.map pA).bind<|wZ λr=>(tW x.2 i).bind λavs=>yP (avs.length<tL)<|bj<|.ok<|.nx<|x.2.set i<|bj<|.ow<|avs++[r]
def vQ{a}(l:Kn K E t a)(n:Kn K E u b):Kn K E (acE t u)<|HW a b:=λR e D q=>(J0 e).elim (λe=>.inl<|l R e D q) λe=>.inr<|n R e D q
def EL(ha:SA K ta a):Kn K E (Dj<|Vu K "list" E7 (xF i)<|vB (xl (vm K f) [] E ta) xH)<|K7 i f a:=by
 intro H₀ J Hf S σ H Fs o R e D q;have(a0,Y,e):=oBq.mp e;have(x,e1,e):=oBq.mp e;have(r,e2,e):=oBq.mp e;have(p,L,Gs0,s1,_,h1,_):=R.ow<|rE Y;show(.ref p,s1,.inl (rfl,L,vk.of h1),?_);show ha R (as:=x.1) (S':=x.2) e1 _ λHf1 H1 Fs1 vs Gs t1 R1 r1 o1=>?_;have(R2,r2,T):=R1.gives t1 r1 o1;simp only[aNq];show(_,_,r,R2.sub,r2,e2,Be R2 e T.sf q λav z Hf' H' v F s' U ra nd fr=>?_);have(avs,e3,z):=oBq.mp z;rcases rh z with⟨hl,z⟩|z
 .cases z;have(p',M,Gs',n,l,O,P,s,B,Q,G):=U.ow<|rE e3;rw[s1]at n;cases n;have out:∀q∈F,q∉Fs1.flatten:=λq I m=>(R2.mem m).1<|fr q I;have X:=λm=>out p m<|sO l ⋯;show(p,M,v,rfl,rfl,O,by rw[←s.1];show hl,q _ _ _ _ (T.sf.trans s')<|U.turn s1 l ⋯ (rP.news pH P<|(s.keepUpd B).snoc<|ra.keepUpd X) ?_ λq I=>?_);.rw[fAq,aK];show aJ.mpr (λm=>(mAq.mp m).elim B X,nAq.mpr (Q,nd,λa ha b hb e=>out b hb<|sO l<|mCo _<|e ▸ ha))
  .rw[fAq,aK]at I;rcases ag.mp I with z|z;.show G q<|by rw[z];simp
   .rcases mAq.mp z with z|z;.show G q<|mCo _ z
    .show(R2.fr.free<|fr q z,λm=>out q z<|tP m)
 .cases z
noncomputable def To(kvs:List<|Str×Str):MK:=λS=>bj %[.owd<|kvs.map λp=>%[(dP p.1:rD)|D.str p.2]|S]
theorem WB{σ:St}:∀{kvs:List<|Str×Str}{H}{Q},Q (kvs.map λp=>%[V.str p.1|V.str p.2]) H->P3 (kvs.map λp=>%[tC<|.str p.1|tC<|.str p.2]) σ H Q
 | [],_,_,h=>h
 |_::kvs,_,_,h=>WB (kvs:=kvs) h
def acf(l:kvs.length<=15)(hm:Io [] (kvs.map λp=>%[(dP p.1:rD)|V.str p.2])=kvs.map λp=>%[dP p.1|V.str p.2]):SK K (ag5<|kvs.map λp=>%[tC<|.str p.1|tC<|.str p.2])<|To kvs:=by
 intro H₀ n Hf S σ H L M O R e Q q;cases e;intro p z;show WB (pH,kvs.map λp=>%[dP p.1|V.str p.2],by rw[mPq];rfl,by rw[lMq];show l,?_);rw[hm,EO];have(t0,G,I,P,T):=R.new z (o:=.dK<|kvs.map λp=>%[dP p.1|V.str p.2]);show q _ _ _ (.ref p) [p] t0 G (.owd pH I (by rw[mPq,mPq];rfl,λi d u B s=>?_))<|Dx.one R z;rw[gMq]at B s;have(x,J,rfl):=oMq.mp B;rw[J]at s;cases s;show .str
noncomputable def tuD:AV->Option (List D)
 | .sh (.tup ds)=>bj ds
 |_=>n_
def KM(k:MK):MK:=λS=>(k S).bind λx=>(tuD x.1).map λds=>%[.ow<|ds.map .sh|x.2]
def adS(S)k:KM k S=(k S).bind λx=>(tuD x.1).map λds=>%[.ow<|ds.map .sh|x.2]:=rfl
def abz(hk:SK K te k):SK K (tCB (λxs H Q=>∃p n,xs=[.ref p]/\(vk K H p n∨FF K H p n)/\∀l,H l=n_->Q (.ref l) (rO H l<|.lst n))<|vB te xH)<|KM k:=by
 intro H₀ s Hf S σ H U X Y R e Q q;have(x,e1,e):=oBq.mp e;have(E,e2,e):=oMq.mp e;cases e;have G:x.1 = .sh (.tup E):=by
  unfold tuD at e2;split at e2 <;> cases e2;assumption
 show hk R e1 _ λI H1 Fs1 v F z t r1 o1=>?_;rw[G]at r1;have(J,u,rfl,L,M):=r1.sh_inv.2.tup_inv;show(J,u,rfl,.inr<|FF.of<|t.sub _ _ L,λp B=>?_);have(O,P,T,n2,n3):=t.new B;show q _ _ _ (.ref p) [p] (z.trans O) P (rP.new pH T M)<|(Dx.one t B).back z
def Ww(a b:MK):MK:=λS=>(a S).bind λx=>(ab5 x.1).bind λxs=>(b x.2).bind λy=>(ab5 y.1).bind λl=>yP (xs≠[]/\xs.length+l.length<=tL)<|bj %[.sh<|.tup<|xs++l|y.2]
def afX(ha:SK K u a)(hb:SK K B b):SK K (tOp (agZ K) u B)<|Ww a b:=by
 intro H₀ n Hf S σ H Fs av S' R e Q q;have(x,e1,e):=oBq.mp e;have(xs,e2,e):=oBq.mp e;have(y,L,e):=oBq.mp e;have(M,O,e):=oBq.mp e;rcases rh e with⟨⟨P,hl⟩,e⟩|e
 .cases e;show ha R (a:=x.1) (S':=x.2) e1 _ λT H1 Fs1 v1 F1 E U r1 o1=>hb U (a:=y.1) (S':=y.2) L _ λX H2 Fs2 v2 F2 s R2 r2 o2=>?_;rw[Wn e2]at r1;rw[Wn O]at r2;have(G,l,rfl,I,s1):=((r1.sh_inv).2.mono s.sf).tup_inv;have(Y,t,rfl,h2,s2):=(r2.sh_inv).2.tup_inv;have m1:l≠[]:=λz=>P<|bG.mp<|by rw[s1.1,z];rfl
  show(G,Y,l,t,rfl,rfl,FF.of<|R2.sub _ _ I,FF.of<|R2.sub _ _ h2,m1,by rw[←s1.1,←s2.1];show hl,λz=>?_,λZ p hp=>?_)
  .have e0:M=[]:=bG.mp<|by rw[s2.1,z];rfl
   subst e0;rw[aNq]at q;show q _ _ _ (.ref G) [] (E.trans s) R2 (.sh<|.mk_tup I s1) .nil
  .have(J,R3):=R2.layF hp;show q _ _ _ (.ref p) [] ((E.trans s).trans J) R3 (.sh<|.mk_tup pH<|(s1.append s2).mono J.sf) .nil
 .cases e
end Z
namespace Mr
open PySem PySem.Spec PyProof.Rows L2
def qA(S:oU N P sc)(n:PE X e te)(s:↑(X.N=N))(hi:↑(X.N[i]?=bj x))(t:Loc X.env.scope x:=by first|show jj rfl|show gu rfl)(u:↑(lS e (bj<|.Name x l) pos.line X.env=pure f_))(z:↥(X.fn x=t_∨X.env.scope.names.lookup x=bj .local)) :
  PS X (.Assign [.Name x l] e pos)<|OT te<|xa i:=ajY (s ▸ S.nd) hi t n u z
def Df(S:oU N P sc)(l:↑(X.N=N))(hi:↑(X.N[i]?=bj x))(n:Loc X.env.scope x:=by first|show jj rfl|show gu rfl)(s:↥(X.fn x=t_∨X.env.scope.names.lookup x=bj .local)):PG X (.Name x pos)<|xa i:=Oh (l ▸ S.nd) hi n s
section
variable {st:Stmt}
def qJ(G:Fn X.prog X.w X.K X.mg X.base k x st ps sp f fd)(hr:um n X.A)(ha:PA X (e::es) t)(hk:⇑(k<=n))(u:↑(Gl X x))(l:⇑((x == ("__debug__" : Str))=f_))
  (z:↑(ku (e::es) X.env=%[f_|eval e X.env]::ku es X.env)) (s:↑((kN pos<|ku es X.env).any (·.1)=f_)) :
  PE X (.Call (.Name x p) (e::es) [] pos)<|xl sp [] E0 t:=ahu G (hr.mono hk) ha u l z s
end
def sC(a:↑(sc.kind = .function))(b:↑(sc.isCoroutine=f_))(c:↑(sc.isGenerator=f_))(d:↥N.Nodup)(e:↑(N.take P.length=P))(f:↥(∀x∈P,sc.names.lookup x=bj .local∨sc.names.lookup x=bj .cell))(g:↥(∀y∈sc.names,y.2 ≠ .free)):oU N P sc:=(a,b,c,d,e,f,g)
def Wq{K}{st}(D:xC K mg x st ps f fd)(S:oU N ps<|oI st)
  (h:∀l A outer s H E,um k (A.deeper<|kJ x (oI st) s.heap.objs.size f l)->(A.deeper<|kJ x (oI st) s.heap.objs.size f l).units+64<kP->(A.deeper<|kJ x (oI st) s.heap.objs.size f l).units+65<kP ->
   ∃t,LY (Ie Rl P w K mg base N x (oI st) f l A outer s H E).nox (tH st) t/\Z.SS K t m):Fn P w K mg base (k+1) x st ps (Z.qQ K<|Z.tK ps.length N.length m) f fd:=(D,D.F.ok S (λn H Q E h=>Z.N6 h) λl A outer s H n Q E hr hh=>by have(t,a,b):=h l A outer s H E hr hr.units<|um.units65 hr;show(t,a,Z.GY N b hh))
def NV{K}{st}(D:xC K mg x st ps f fd)(S:oU N ps<|oI st)
  (h:∀l A outer s H E,oU N ps (oI st)->um k (A.deeper<|kJ x (oI st) s.heap.objs.size f l)->(A.deeper<|kJ x (oI st) s.heap.objs.size f l).units+64<kP->(A.deeper<|kJ x (oI st) s.heap.objs.size f l).units+65<kP ->
   ∃t,Z.SS K t m/\LY (Ie Rl P w K mg base N x (oI st) f l A outer s H E).nox (tH st) t):Fn P w K mg base (k+1) x st ps (Z.qQ K<|Z.tK ps.length N.length m) f fd:=(D,D.F.ok S (λn H Q E h=>Z.N6 h) λl A outer s H n Q E hr hh=>by have(t,b,a):=h l A outer s H E S hr hr.units<|um.units65 hr;show(t,a,Z.GY N b hh))
def ajW(n:X.A.units+1<kP)(hi:PE X i ty)(s:PE X o l)(t:mh .NotIn o=f_):PT X (.Compare i [.NotIn] [o] pos)<|tB<|PK ty l:=Tu (II n hi s) t
end Mr
namespace Mr
open PySem PySem.Spec PySem.W PyProof.Rows L2 Xe
section
variable {K:Ζ}{st:Stmt}
def FY(F:Bg K x qual st f fd)(S:oU N ps<|oI st)
  (h:∀l A outer s H E,um k (A.deeper<|kJ qual (oI st) s.heap.objs.size f l)->(A.deeper<|kJ qual (oI st) s.heap.objs.size f l).units+64<kP->(A.deeper<|kJ qual (oI st) s.heap.objs.size f l).units+65<kP ->
   ∃t,LY (Ie (W8 P w) P w K mg base N qual (oI st) f l A outer s H E) (tH st) t/\Z.Kn K E t m):zD P w K mg base (W8 P w) (k+1) f fd ps<|Z.vm K<|Z.uT ps.length N.length m:=Xe.okX F S (λn H Q E h=>Z.aeE h) λl A outer s H n Q E hr hh=>by have(t,a,b):=h l A outer s H E hr hr.units<|um.units65 hr;show(t,a,Z.YQ N b hh)
def YX(F:Bg K x qual st f fd)(S:oU N ps<|oI st)
  (h:∀l A outer s H E,um k (A.deeper<|kJ qual (oI st) s.heap.objs.size f l)->(A.deeper<|kJ qual (oI st) s.heap.objs.size f l).units+64<kP->(A.deeper<|kJ qual (oI st) s.heap.objs.size f l).units+65<kP ->
   ∃t,LY (Ie Rl P w K mg base N qual (oI st) f l A outer s H E).nox (tH st) t/\Z.SS K t m):zD P w K mg base Rl (k+1) f fd ps<|Z.qQ K<|Z.tK ps.length N.length m:=F.ok S (λn H Q E h=>Z.N6 h) λl A outer s H n Q E hr hh=>by have(t,a,b):=h l A outer s H E hr hr.units<|um.units65 hr;show(t,a,Z.GY N b hh)
end
end Mr
namespace Mr
open PySem L2
variable {mg:Str->Υ}
abbrev BA(x q:Str)(st:Stmt)(ps:List Str)(us:Ξ):Prop:=∀(kV l pm:Value) (n:Option Addr) (s ct:Value),bindArgs (W.fnOf x q (vg st) (tH st) (oI st) .none kV l pm n s ct) (us,[])=pure (ps.zip us)
section
variable (F:Bg K x q st f fd)
include F
def b1(h:∀u,BA x q st [a] [u]:=by exact λQ Q Q Q Q Q Q=>rfl):rF K fd [a] []:=F.binds λQ Q Q Q Q Q us hl=>by
 obtain - | ⟨u, - | ⟨v,l⟩⟩:=us <;> cases hl;apply h
def b2(h:∀u v,BA x q st [a,b] [u,v]:=by exact λQ Q Q Q Q Q Q Q=>rfl):rF K fd [a,b] []:=F.binds λQ Q Q Q Q Q us hl=>by
 obtain - | ⟨u, - | ⟨v, - | ⟨w,l⟩⟩⟩:=us <;> cases hl;apply h
def b3(h:∀u v w,BA x q st [a,b,c] [u,v,w]:=by exact λQ Q Q Q Q Q Q Q Q=>rfl):rF K fd [a,b,c] []:=F.binds λQ Q Q Q Q Q us hl=>by
 obtain - | ⟨u, - | ⟨v, - | ⟨w, - | ⟨y,l⟩⟩⟩⟩:=us <;> cases hl;apply h
def b4(h:∀u v w y,BA x q st [a,b,c,d] [u,v,w,y]:=by exact λQ Q Q Q Q Q Q Q Q Q=>rfl):rF K fd [a,b,c,d] []:=F.binds λQ Q Q Q Q Q us hl=>by
 obtain - | ⟨u, - | ⟨v, - | ⟨w, - | ⟨y, - | ⟨z,l⟩⟩⟩⟩⟩:=us <;> cases hl;apply h
end
section
variable {kV:Value}{osl:Array Υ}
def fE(b:∀f d,Bg K x x st f d->rF K d ps [])(X:K.In h)(G:h.Ns kr mg)(a:W.nsIn K kr x=bj (bj<|.ref f))(l:K.lookup f=bj (oc,od,.func<|W.fnOf x x (vg st) (tH st) (oI st) .none kV doc pm an vx ct,osl))(c:W.codeIn K vx x=t_)(k:W.keepIn K (.ref f)=t_):∃f d,xC K mg x st ps f d:=(_,_,xg l c k,W.mg_of X G a,b _ _<|xg l c k)
def mE(b:∀f d,Bg K z x st f d->rF K d ps [])(a:W.findIn K (.ref O) z=bj (bj<|.ref f))(l:K.lookup f=bj (oc,od,.func<|W.fnOf z x (vg st) (tH st) (oI st) .none kV doc pm an vx ct,osl))(c:W.codeIn K vx x=t_)(k:W.keepIn K (.ref f)=t_)(i:W.isFn K (.ref f)=t_):∃f d,Bg K z x st f d/\yp K O z f/\rF K d ps []:=(_,_,xg l c k,(a,i,k),b _ _<|xg l c k)
end
end Mr
namespace Zl
open PySem L2 Mr Z
def X7:MS:=(ql<|kSc<|Xc (qE dNe (oE 0)<|rC<|.int 0)<|qE XF (yK ano<|oC (oE 0) oW)<|qE Jy (rC<|.int 10)<|rC<|.int 60)
def Zx:MF:=tK 1 1 X7
def Im:MS:=(oZ (wm (tG<|qE Ep (yK vJ<|oC (oE 0) oW)<|rC<|.int 0) (ql<|rV oS) pZ)
 (oZ (pU 1<|kSc<|rBM "list" C1 (oE 0)<|oC (yK WO<|oC (oE 0) oW) oW)
 (ql<|Dq (lOf<|JJ (vq 0) (ud<|oE 1) wA)<|lOf<|JJ (vq 0) wA<|ud<|oE 1)))
def Bz:MF:=tK 1 2 Im
def yh:MS:=(Uu 1<|Em 2)
def CZ:MS:=(oZ (pU 1<|rV oS)
 (oZ (Fk 2 (oR 0) yh)
 (ql<|Br 1)))
def rL:MF:=tK 1 3 CZ
def Cv:MS:=(oZ (wm (tG<|qE XF (oE 1)<|yK vJ<|oC (oE 0) oW) (ql<|kSc<|qE Gw (oE 0)<|oE 1) pZ)
 (ql<|kSc<|rC<|.int 0))
def ph:MF:=tK 2 2 Cv
def BL:MS:=(ql<|JU<|wH (Bu<|oR 0) [] uS<|pd Zl.Bz<|oz (oR 0) oS)
def sZ:MF:=tK 1 1 BL
def Fi:MX:=(Wf (uK<|tG<|rK Zl.Zx<|oC (oE 1) oW) (DN "NoEnd" "end"<|oC (oE 1) oW)<|B7 pZ)
def Hh:MX:=(U2 1 (oR 0) Fi)
def Iu:uU:=uT 1 2 Hh
def Gv:MX:=(wk (Wf (tG<|aoj (oE 2)<|oE 1) (DN "Twice" "end"<|oC (oE 2) oW)<|B7 pZ)<|B7<|B1 1 (oE 2)<|kSc<|rC<|.bl t_)
def Ig:MX:=(wk (B7<|pU 1 BO)
 (U2 2 (oR 0) Gv))
def Jz:uU:=uT 1 3 Ig
def GD:MS:=(B1 1 (oE 2)<|kSc<|rC<|.bl t_)
def GH:MX:=(Wf (tG<|wC (vX yy<|oE 2)<|oE 1) (DN "Lone" "end"<|oC (oE 2) oW)<|B7 pZ)
def Ju:MX:=(wk (B7<|pU 1 BO)
 (wk (B7<|Fk 2 (oR 0) GD)
 (U2 2 (oR 0) GH)))
def KO:uU:=uT 1 3 Ju
def vz:MX:=(wk (Wf (tG<|qE dGt (yK vJ<|oC (rOf<|pd Zl.rL<|oz (oR 0) oS) oW)<|rC<|.int 128) (CF "TooMany")<|B7 pZ)
 (Wf (tG<|qE dGt (acp<|oE 0)<|rC<|.int 128) (CF "TooMany")<|B7 pZ))
def rX:uU:=uT 1 1 vz
def QF:MX:=(wk (B7<|pU 1<|pd Zl.rL<|oz (oR 0) oS)
 (wk (zL Zl.Iu<|oz (oR 1) oS)
 (wk (zL Zl.Jz<|oz (oR 1) oS)
 (wk (zL Zl.KO<|oz (oR 1) oS)
 (wk (zL Zl.rX<|oz (oR 0) oS)
 (B7<|ql<|pd Zl.sZ<|oz (oR 0) oS))))))
def TV:uU:=uT 1 2 QF
def LF:MS:=(ql<|U0<|lOf<|pd Zl.rL<|oz (oR 0) oS)
def E2:MF:=tK 1 1 LF
def Lm:MS:=(B1 1 (oE 4)<|oR 2)
def LH:MS:=(Fk 4 (oR 3) Lm)
def Pu:MS:=(oZ (pU 1 BO)
 (oZ (alG 2 3 (oR 0) LH)
 (ql<|Br 1)))
def Rx:MF:=tK 1 5 Pu
def EJ ns(h:0<=k):ph [.scr ns,.int k]=i3 (cell ns k.toNat):=by
 by_cases c:k<(ns.length)
 .have hk:k.toNat<ns.length:=by ac_nf
  have e:=A8 hk;simp! [ph,Cv,c,PQ h,gEg hk,cell,e]
 .have hk:ns.length<=k.toNat:=by lia
  have e:ns.getD k.toNat 0=0:=by rw[gDq,bF hk];rfl
  simp! [ph,Cv,c,cell,e]
def aha ns:ph [.scr ns,.int 0]=i3 (cell ns 0):=EJ ns ⋯
def alo ns:ph [.scr ns,.int 1]=i3 (cell ns 1):=EJ ns ⋯
def alB ns:ph [.scr ns,.int 2]=i3 (cell ns 2):=EJ ns ⋯
def NW{ns:Ϝ}:ns.foldl min n∈n::ns/\∀x∈n::ns,ns.foldl min n<=x:=(Bi ns n,λx l=>(ag.mp l).elim (λe=>e ▸ (zV ns n).1)<|(zV ns n).2 x)
def Yn(hl:ns.length<=500000):Bz [dI ns]=bj (aI<|good ns):=by cases ns with
 |nil=>
  have t:((0))=0:=rfl;simp! [Bz,Im,t];rfl
 |cons n ns=>
  have(t,x):=NW;have e:=D1 t x;have l:=Kx<|n::ns;have u:¬ ((n::ns).length:Int)=0:=by simp only[lCq];lia
  have hm:WO [dI<|n::ns]=bj (.int<|ns.foldl min n):=by
   change(vt<|(n::ns).map D.int).bind (λns=>(P6 ns).map D.int)=_;rw[vV];rfl
  have z:C1 (dI<|n::ns) [.int<|ns.foldl min n]=bj (.int<|sD (n::ns) (n::ns).length):=by
   change(vt<|(n::ns).map D.int).bind _=_;rw[vV];change(if _ then _ else _)=_;rw[qF t,e]
  generalize B:n::ns=N at *;have s:(N.drop<|sD N N.length).length+(N.take<|sD N N.length).length<=tL:=by rw[au,lTq];change _<=16777216;lia
  simp! [Bz,Im,u,hm,z,zp,ES N _ l,yO N _ l,s,←mBq,Hv];rfl
def wB{rs:Λ}{r:Ϝ}(h:rs[i]?=bj r):(rs.take<|i+1).flatten=(rs.take i).flatten++r:=by rw[dR,h];simp
def zC(rs:Λ)i:(rs.take i).flatten.length<=rs.flatten.length:=by have:=congrArg cH<|congrArg jS<|aZ i rs;rw[fAq,lAq]at this;lia
def P9{rs:Λ}{i:Nat}(h:(rs.map dI)[i]?=bj d):∃r,rs[i]?=bj r/\d=dI r:=by rw[gMq]at h;have(r,l,n):=oMq.mp h;show(r,l,n.symm)
def V5{ns:Ϝ}{i:Nat}(h:(ns.map D.int)[i]?=bj d):∃z,ns[i]?=bj z/\d = .int z:=by rw[gMq]at h;have(r,l,n):=oMq.mp h;show(r,l,n.symm)
def C4(hl:rs.flatten.length<=500000):rL [dM rs]=bj (aI rs.flatten):=by
 have key:=Ai (x:=2) (body:=yh) (λi S=>∃v,S=[bj<|.sh<|dM rs,bj<|aI (rs.take i).flatten,v]) (S:=[bj<|.sh<|dM rs,bj<|.ow [],n_]) (n_,by rfl) (by
  rintro i d S hd ⟨v,rfl⟩;have(r,hr,rfl):=P9 hd;have l:=wB hr;have n:=zC rs<|i+1;rw[l,lAq]at n;have s:(rs.take i).flatten.length+r.length<=tL:=by lia
  show(_,?_,bj<|.sh<|dI r,rfl);rw[l];simp! [yh,s,Hv,←mBq]);have(t,e,v,rfl):=key;rw[lMq,bw]at e;simp! [rL,CZ,e]
def D9{rs:Λ}(h:d∈rs.map dI):∃r∈rs,d=dI r:=by have(r,l,n):=mMq.mp h;show(r,l,n.symm)
def Fg:D->Ϝ
 | .list ds=>(vt ds).getD []
 |_=>[]
def yg r:Fg (dI r)=r:=by change(vt<|r.map D.int).getD []=r;rw[vV];rfl
def GP{β:Type}(g:Ϝ->β)(rs:Λ):(rs.map dI).map (λd=>g<|Fg d)=rs.map g:=by rw[mPq];show mCq λr Q=>by change g (Fg<|dI r)=g r;rw[yg]
def RO{rs:Λ}(hl:∀r∈rs,r.length<=500000):ui uS (pd Bz<|oz (oR 0) oS) [] (rs.map dI)=bj ((rs.map good).map aI):=by
 rw[ye<|λd=>aI<|good<|Fg d]
 .rw[GP<|λr=>aI<|good r,mPq];rfl
 .intro d hd;have(r,hr,rfl):=D9 hd;show([bj<|.sh<|dI r],?_);simp! [Yn<|hl r hr,yg]
def Y7 n:ui uS (rV oS) [] (sV 0 n)=bj (aC n<|.ow []):=by
 rw[Z.ye λQ=>AV.ow []]
 .unfold sV;rw[mPq];change bj (jE (λQ=>AV.ow [])<|bQ n)=_;rw[List.map_const',bo]
 .intro d _;have l:(0:Nat)<=tL:=by decide
  show([bj<|.sh d],?_);simp! [l]
def vK(hl:∀r∈rs,r.length<=500000)(l:rs.length<=tL):sZ [dM rs]=bj (.ow<|(AO<|rs.map good).map aI):=by
 have n:=RO hl;simp! [sZ,BL,n,l]
end Zl
namespace Zl
open PySem L2 Mr Z Xe
noncomputable def fnd(p:Ϝ->Int->Bool):Ϝ->Ϝ->Option Int
 |_,[]=>n_
 |pre,z::r=>if p pre z=t_ then bj z else fnd p (pre++[z]) r
noncomputable def bare(rs:Λ):Nat:=rs.countP (·=([]:Ϝ))
def Tr(hl:rs.flatten.length<=500000):rX [dM rs]=bj (if rs.flatten.length<=128/\bare rs<=128 then .ok (.sh .non)else .ex "TooMany" []):=by
 have ht:=C4 hl;unfold bare;by_cases s:rs.flatten.length<=128
 .have l:¬ (128:Int)<(rs.flatten.length:Int):=by lia
  by_cases t:rs.countP (·=([]:Ϝ))<=128
  .have n:¬ (128:Int)<(rs.countP (·=([]:Ϝ)):Nat):=by lia
   rw[qF (s,t)];simp! [rX,vz,ht,l,n]
  .have n:(128:Int)<(rs.countP (·=([]:Ϝ)):Nat):=by lia
   rw[qL λz=>t z.2];simp! [rX,vz,ht,l,n]
 .have l:(128:Int)<(rs.flatten.length:Int):=by lia
  rw[qL λz=>s z.1];simp! [rX,vz,ht,l]
section
variable {rs:Λ}(hl:rs.flatten.length<=500000)
include hl
end
def NT r(h:r.Nodup):good (good r)=good r:=Qp h _
def wM{T:Λ}(h:T.flatten.Nodup):AO ((AO<|T.map good).map good)=AO (T.map good):=by
 have q:(AO<|T.map good).map good=AO (T.map good):=by
  have:∀r∈AO (T.map good),good r=r:=λr hr=>by have(s,l,rfl):=mMq.mp<|(vF _).mem_iff.mp hr;show NT s<|YT h l
  show(mCq this).trans<|cW _
 rw[q];show(FM (.refl _)<|Aq _).symm
end Zl
namespace Zl
open PySem L2 Mr Z
def aeI(hl:rs.flatten.length<=500000):E2 [dM rs]=bj (aI<|Ga rs.flatten):=by simp! [E2,LF,C4 hl]
def Kc(h:k∉kvs.map (·.1)):IM kvs k d=kvs++[%[k|d]]:=by unfold IM;rw[qL];intro e;have(l,hk,e):=cX.mp e;show h<|mMq.mpr (l,hk,of_decide_eq_true e)
theorem DM(P:AS->Prop)(μ:AS->Nat)(u:AS->Prop)(h:∀S,P S->∃b s,c S=bj %[b|s]/\(b=t_->∃t,body s=bj (.nx t)/\P t/\μ t<μ S)/\(b=f_->u s)) :
  ∀l S,P S->μ S<l->∃S',wO c body l S=bj (.nx S')/\u S'
 |0,S,_,hm=>absurd hm<|dN _
 |n+1,S,x,hm=>by have(b,s,e1,z,B):=h S x;rw[aet,e1,bP];cases b with
  |true=>have(t,e2,E,G):=z rfl;rw[e2];show DM P μ u h n t E ∅
  |false=>show(s,rfl,B rfl)
end Zl
namespace Zl
open PySem L2 Mr Z Xe
noncomputable def kd(l:Θ):List<|rD×D:=l.map λk:Nat=>%[(bH (k:Int):rD)|D.bl t_]
noncomputable def wd(l:Θ):List AV:=l.map λk:Nat=>AV.sh<|.int (k:Int)
structure Mp (rs:Λ):Prop where
 hn:rs.flatten.Nodup
 hl:rs.flatten.length<=1000
 hr:rs.length<=1000
 hneg:∀e∈rs.flatten, -e∈rs.flatten
def Mp.row(h:Mp rs){k:Nat}{r:Ϝ}(hk:rs[k]?=bj r):r.length<=1000:=by have:=eR.length_le<|aN<|mGq hk;have:=h.hl;lia
def YC{α β:Type}{f:α->β->α}{a}{r:List β}{e}(l:r[i]?=bj e):(r.take<|i+1).foldl f a=f ((r.take i).foldl f a) e:=by have(hi,n):=gSq.mp l;rw[List.take_succ_eq_append_getElem hi,List.foldl_append,n];rfl
noncomputable def itr(f:Int->Int):Nat->Int->Int
 |0,e=>e
 |n+1,e=>f<|itr f n e
theorem Cw(f)m e:∀n:Nat,itr f (n+m) e=itr f n (itr f m e)
 |0=>by rw[cO];rfl
 |n+1=>by rw[Nat.add_right_comm];change f (itr f (n+m) e)=f (itr f n<|itr f m e);rw[Cw f m e n]
theorem T1:∀(l E:Ϝ),l.Nodup->(∀x∈l,x∈E)->l.length<=E.length
 | [],E,_,_=>aY _
 |x::l,E,hn,h=>by
  have n:=aJ.mp hn;have s:=h x<|bf ..;have u:=T1 l (E.erase x) n.2 (λy t=>by show(List.mem_erase_of_ne ?_).mpr<|h y<|mCo _ t;intro e;show n.1<|e ▸ t);rw[List.length_erase_of_mem s]at u;have:=iB s;rw[lCq];lia
def aaW{p:Nat->Prop}:∀n,p n->∃m,m<=n/\p m/\∀j,j<m->¬ p j:=by
 intro n;induction n using Nat.strongRecOn with
 |_ n t=>
  intro h;by_cases c:∃j,j<n/\p j;.have(j,l,s):=c;have(m,z,u,x):=t j l s;show(m,by lia,u,x)
  .show(n,ae _,h,λj l s=>c (j,l,s))
structure SG (f:Int->Int)(E:Ϝ):Prop where
 nd:E.Nodup
 to:∀e∈E,f e∈E
 inj:∀a∈E,∀b∈E,f a=f b->a=b
theorem SG.itr_mem(h:SG f E)(l:e∈E):∀n,itr f n e∈E
 |0=>l
 |n+1=>h.to _<|h.itr_mem l n
theorem SG.itr_inj(h:SG f E)(ha:a∈E)(hb:b∈E):∀n,itr f n a=itr f n b->a=b
 |0,e=>e
 |n+1,e=>h.itr_inj ha hb n<|h.inj _ (h.itr_mem ha n) _ (h.itr_mem hb n) e
def SG.cut(h:SG f E)(l:e∈E)(n:i<=j)(q:itr f i e=itr f j e):itr f (j-i) e=e:=by
 have e1:itr f j e=itr f i (itr f (j-i) e):=by rw[←Cw];congr 1;ac_nf
 rw[e1]at q;show(h.itr_inj l (h.itr_mem l _) i q).symm
structure Cy (f:Int->Int)(e:Int)(l:Ϝ):Prop where
 len:1<=l.length
 get:l=(bQ l.length).map λn=>itr f n e
 back:itr f l.length e=e
 nd:l.Nodup
def SG.cy(h:SG f E)(t:e∈E):∃l,Cy f e l/\l.length<=E.length/\∀j,0<j->j<l.length->itr f j e≠e:=by
 have u:∃k,1<=k/\k<=E.length/\itr f k e=e:=by
  by_cases c:((bQ<|E.length+1).map λn=>itr f n e).Nodup
  .have:=T1 _ E c<|λx H=>by have(n,_,rfl):=mMq.mp H;show h.itr_mem t n
   rw[lMq,bo]at this;rfl'
  .rw[ba,bM]at c;have:∃i j,i<j/\j<E.length+1/\itr f i e=itr f j e:=by
    by_cases d:∃i j,i<j/\j<E.length+1/\itr f i e=itr f j e;.show d
    .exfalso;show c ?_;show bD.imp_of_mem (λ{a b} ha hb hab q=>d (a,b,hab,fu.mp hb,q)) iE
   have(i,j,z,B,q):=this;show(j-i,by lia,by lia,h.cut t (bZ z) q)
 have(k,I,P,J):=u;have(m,Q,(L,M),G):=aaW (p:=λk=>1<=k/\itr f k e=e) k (I,J);show((bQ m).map λn=>itr f n e,(by rw[lMq,bo];show L,by rw[lMq,bo],by rw[lMq,bo];show M,?_),by rw[lMq,bo];lia,λj B s q=>?_)
 .rw[ba,bM];show bD.imp_of_mem (λ{a b} ha hb hab q=>?_) iE;have O:=fu.mp hb;show G (b-a) ∅ (by lia,h.cut t (bZ hab) q)
 .rw[lMq,bo]at s;show G j s (B,q)
def Cy.at(h:Cy f e l)(hi:i<l.length):l[i]?=bj (itr f i e):=by
 have e1:=congrArg (λx=>x[i]?) h.get;rw[e1,gMq,eX hi];rfl
def Cy.one(h:Cy f e l)(h':Cy f e n):l=n:=by
 have key:∀{l n:Ϝ},Cy f e l->Cy f e n->¬ l.length<n.length:=λ{l n} h h' hlt=>by
  have t:=h'.at (i:=0) ∅;have s:=h'.at hlt;rw[h.back]at s;have:=h'.nd;have e2:=(ju (i:=0) (j:=l.length) ∅ this).mp<|by rw[t,s];rfl
  have:=h.len;lia
 have u:=key h h';have x:=key h' h;have hl:l.length=n.length:=by lia
 rw[h.get,h'.get,hl]
def Cy.self(h:Cy f e l):e∈l:=mGq<|h.at (i:=0)<|by have:=h.len;rfl'
def Cy.rot(h:Cy f e l)(t:j<l.length):Cy f (itr f j e)<|l.drop j++l.take j:=by
 have n:(l.drop j++l.take j).length=l.length:=by rw[lAq,au,lTq];lia
 show(by rw[n];show h.len,?_,?_,?_)
 .show eM λi=>?_;rw[n,gMq];by_cases hi:i<l.length
  .rw[eX hi,bK,←Cw];by_cases s:i<l.length-j;.rw[gZq<|by rw[au];show s,dF,h.at ∅,gw j i]
   .rw[gYq<|by rw[au];rfl',au,cZ ∅,h.at ∅];have e1:i+j=(i-(l.length-j))+l.length:=by lia
    rw[e1,Cw,h.back]
  .rw[bF ∅,bF<|by rw[bo];rfl'];rfl
 .rw[n,←Cw,gw,Cw,h.back]
 .show cu.nodup_iff.mpr<|by rw[aZ];show h.nd
theorem Cy.good(h:Cy f e l)(u:x∈l)(h':Cy f x t):Mr.good t=Mr.good l:=by have(j,s):=cw.mp u;have n:=(gSq.mp s).1;rw[h.at n]at s;have r:=h.rot n;rw[bj.inj s]at r;rw[h'.one r];show Qp h.nd j
structure Qk (f:Int->Int)(E:Ϝ)(L:Λ):Prop where
 cy:∀l∈L,∃e,Cy f e l
 dj:L.flatten.Nodup
 all:∀x,x∈L.flatten↔x∈E
theorem WK:∀{L:Λ},L.flatten.Nodup->L.Pairwise λa b=>∀x∈a,∀y∈b,x≠y
 | [],_=>bD.nil
 |a::L,h=>by rw[fCq,nAq]at h;show bV.mpr (λb hb x l y n=>h.2.2 x l y<|mFq.mpr (b,hb,n),WK h.2.1)
def Qk.nd(h:Qk f E L):(L.map Mr.good).Nodup:=by
 rw[ba,bM];have hd:=WK h.dj;show bD.imp_of_mem (λ{a b} ha hb hab q=>?_) hd;have(e,c):=h.cy a ha;have l:=(BC a).mem_iff.mpr c.self;rw[q]at l;show hab e c.self e ((BC b).mem_iff.mp l) rfl
def Qk.sub(x:SG f E)(h:Qk f E L)(h':Qk f E M)(s:y∈L.map Mr.good):y∈M.map Mr.good:=by have(l,hl,rfl):=mMq.mp s;have(e,c):=h.cy l hl;have t:=(h.all e).mp<|mFq.mpr (l,hl,c.self);have(m,hm,n):=mFq.mp<|(h'.all e).mpr t;have(z,u):=h'.cy m hm;show mMq.mpr (m,hm,(u.good n c).symm)
def Qk.perm(l:SG f E)(h:Qk f E L)(h':Qk f E M):(L.map Mr.good).Perm<|M.map Mr.good:=(cK h.nd h'.nd).mpr λy=>(h.sub l h',h'.sub l h)
end Zl
namespace K13
open PySem L2 Mr Z Xe
def SD:MS:=(Uu 1<|Em 2)
def X3:MX:=(wk (B7<|pU 1<|rV oS)
 (wk (B7<|Fk 2 (oR 0) SD)
 (Fe Zl.TV<|oz (oR 1) oS)))
def KH:uU:=uT 1 3 X3
def Ik:MS:=(oZ (wm (uK<|R5<|oE 0) (ql<|rV oS) pZ)
 (oZ (pU 1<|kSc<|rBM "list" C1 (oE 0)<|oC (yK WO<|oC (oE 0) oW) oW)
 (ql<|Dq (lOf<|JJ (vq 0) (ud<|oE 1) wA)<|lOf<|JJ (vq 0) wA<|ud<|oE 1)))
def BM:MF:=tK 1 2 Ik
def Qs:MS:=(ql<|JU<|wH (Bu<|oR 0) [] uS<|pd K13.BM<|oz (oR 0) oS)
def za:MF:=tK 1 1 Qs
def yl(fm:MF):MS:=(wm (uK<|tG<|rK fm<|oC (qE zF (oE 0)<|oE 2)<|oC (qE zF (oE 1)<|oE 2) oW) (ql<|kSc<|rC<|.bl f_) pZ)
def vo(fm:MF):MS:=(oZ (wm (L8 (tG<|yK vM<|oC (oE 1)<|oC (rC<|.ty "list") oW)<|tG<|yK vM<|oC (oE 1)<|oC (rC<|.ty "tuple") oW) (oZ (wm (L8 (tG<|qE dNe (yK vM<|oC (oE 0)<|oC (rC<|.ty "list") oW)<|yK vM<|oC (oE 1)<|oC (rC<|.ty "list") oW)<|tG<|qE dNe (yK vM<|oC (oE 0)<|oC (rC<|.ty "tuple") oW)<|yK vM<|oC (oE 1)<|oC (rC<|.ty "tuple") oW) (ql<|kSc<|rC<|.bl f_) pZ)<|oZ (wm (tG<|qE dNe (yK vJ<|oC (oE 0) oW)<|yK vJ<|oC (oE 1) oW) (ql<|kSc<|rC<|.bl f_) pZ)<|oZ (DB 2 (oC (yK vJ<|oC (oE 1) oW) oW)<|yl fm)<|ql<|kSc<|rC<|.bl t_) pZ)
 (oZ (wm (tG<|qE Hu (oE 1)<|rC .non) (ql<|kSc<|qE Hu (oE 0)<|rC .non) pZ)
 (oZ (wm (tG<|yK vM<|oC (oE 1)<|oC (rC<|.ty "str") oW) (ql<|kSc<|Xc (yK vM<|oC (oE 0)<|oC (rC<|.ty "str") oW)<|qE Ep (oE 0)<|oE 1) pZ)
 (ql<|kSc<|Xc (yK vM<|oC (oE 0)<|oC (rC<|.ty "int") oW)<|Xc (ail<|yK vM<|oC (oE 0)<|oC (rC<|.ty "bool") oW)<|qE Ep (oE 0)<|oE 1))))
def sj(fm:MF):MF:=tK 2 3<|vo fm
def qb:MF:=(sj<|sj<|sj<|sj Z.Zj)
end K13
namespace K51
open PySem L2 Mr Z Xe
def FZ:MS:=(B1 1 (oE 3)<|oR 4)
def FD:MS:=(Z1 3 4 (oR 2) (Dq (lOf<|JJ (vq 2) (ud<|rC<|.int 1) wA)<|lOf<|JJ (vq 2) wA<|ud<|rC<|.int 1) FZ)
def SB:MS:=(oZ (pU 1 BO)
 (oZ (Fk 2 (oR 0) FD)
 (ql<|Br 1)))
def J2:MF:=tK 1 5 SB
def OD:MS:=(oZ (pU 7<|kSc<|GJ (oE 2)<|vX yy<|oE 6)<|wm (tG<|wC (oE 7)<|oE 3) (oZ (B1 3 (oE 7)<|kSc<|rC<|.bl t_)<|zJ 4<|oR 7) pZ)
def OB:MS:=(oZ (akQ 5<|M0 4)<|Fk 6 (kIx (vq 0)<|oE 5) OD)
def UM:MS:=(oZ (pU 2<|pd Zl.Rx<|oz (oR 0) oS)
 (oZ (pU 3<|akq (oE 1)<|kSc<|rC<|.bl t_)
 (oZ (pU 4<|rV<|oz (oR 1) oS)
 (oZ (wO (tG<|qE dGt (yK vJ<|oC (oE 4) oW)<|rC<|.int 0) OB 100000)
 (ql<|aiz<|oE 3)))))
def X4:MF:=tK 2 8 UM
def Qy:MS:=(B1 1 (oE 5)<|kSc<|rC<|.bl t_)
def RX:MS:=(wm (tG<|wC (oE 3)<|oE 1) (oZ (pU 4<|pd K51.X4<|oz (oR 0)<|oz (oR 3) oS)<|oZ (Fk 5 (oR 4) Qy)<|zJ 2<|wH (Bu<|oR 4) [0] uS<|Dk<|lOf<|kIx (vq 1)<|oE 0) pZ)
def Yg:MS:=(oZ (pU 1 BO)
 (oZ (pU 2<|rV oS)
 (oZ (DB 3 (oC (yK vJ<|oC (oE 0) oW) oW) RX)
 (ql<|Br 2))))
def Z9:MF:=tK 1 6 Yg
def NG:MS:=(ql<|wH (Bu<|oR 0) [] uS<|Dk<|vq 0)
def Ar:MF:=tK 1 1 NG
end K51
namespace K12
open PySem L2 Mr Z Xe
def Ge:MS:=(oZ (pU 1<|kSc<|rC<|.int 1)
 (oZ (pU 2<|kSc<|rC<|.int 0)
 (oZ (wm (tG<|qE dGt (qE xh (rK Zl.ph<|oC (oE 0)<|oC (rC<|.int 0) oW)<|rC<|.int 3)<|rC<|.int 0) (oZ (pU 1<|kSc<|qE yf (rC<|.int 1)<|qE xh (rK Zl.ph<|oC (oE 0)<|oC (rC<|.int 1) oW)<|qE Jy (rC<|.int 10)<|rC<|.int 58)<|pU 2<|kSc<|qE xh (rK Zl.ph<|oC (oE 0)<|oC (rC<|.int 2) oW)<|qE Jy (rC<|.int 10)<|rC<|.int 58) pZ)
 (oZ (pU 3<|kSc<|qE yf (rC<|.int 1)<|qE xh (qE Ih (rK Zl.ph<|oC (oE 0)<|oC (rC<|.int 0) oW)<|rC<|.int 3)<|rC<|.int 66)
 (oZ (pU 4<|kSc<|qE xh (qE Ih (rK Zl.ph<|oC (oE 0)<|oC (rC<|.int 0) oW)<|rC<|.int 198)<|rC<|.int 67)
 (ql<|wH (iR1<|oC (rC<|.int 66) oW) [2,1,4,3] uS<|kSc<|qE yf (qE MM (oE 2)<|qE yf (qE xh (qE yf (qE MM (oE 4)<|oE 0)<|oE 3)<|rC<|.int 67)<|rC<|.int 1)<|oE 1))))))
def Ab:MF:=tK 1 5 Ge
def vS:MS:=(oZ (pU 7<|kSc<|qE xh (oE 6)<|rC<|.int 8)<|aeY 8 2 (pIx 2 (pIx 2 (Ut 2)<|vX yy<|rC<|.int 1)<|qE Gw (oE 3)<|vX yy<|rC<|.int 1)<|XI 2 (pU 9<|kSc<|qE Gw (oE 1)<|oE 5)<|XI 2 (wm (tG<|qE Ep (qE xh (qE Ih (oE 6)<|rC<|.int 8)<|rC<|.int 2)<|rC<|.int 1) (pU 9<|kSc<|vX yy<|oE 9) pZ)<|Mi 2 (tG<|qE XF (oE 7)<|rC<|.int 4) (λpath=>oZ ((U5 2<|oR 9) path)<|oZ (pU 5<|kSc<|qE yf (oE 5)<|rC<|.int 1)<|wm (tG<|qE XF (oE 7)<|rC<|.int 2) (zJ 4<|kSc<|vX yy<|oE 9)<|oZ (zJ 3<|kSc<|yK vJ<|oC (qE Gw (oE 2)<|vX yy<|rC<|.int 1) oW)<|Vw 2 (pIx 2 (Ut 2)<|vX yy<|rC<|.int 1)<|rV<|oz (kSc<|vX yy<|oE 9) oS)<|Mi 2 (tG<|qE XF (oE 7)<|rC<|.int 6) (Mi 2 (R5<|oE 4) (P4 2<|Hq 4<|qE xh (qE Ih (oE 6)<|rC<|.int 16)<|yK vJ<|oC (oE 4) oW)<|λQ=>pZ)<|Mi 2 (tG<|qE Ep (oE 7)<|rC<|.int 6) (λQ=>(wm (tG<|qE dGt (yK vJ<|oC (oE 3) oW)<|rC<|.int 1) (O1<|M0 3) pZ))<|λpath=>oZ ((Vq 2<|Em 4) path)<|oZ (pU 4<|rV oS)<|oZ (zJ 2<|rV<|oz (rV oS) oS)<|pU 3<|rV<|oz (kSc<|rC<|.int 0) oS)
def Le:MS:=(oZ (pU 2<|rV<|oz (rV<|oz (rV oS) oS) oS)
 (oZ (pU 3<|rV<|oz (kSc<|rC<|.int 0) oS)
 (oZ (pU 4<|rV oS)
 (oZ (pU 5<|kSc<|rC<|.int 0)
 (oZ (Fk 6 (oR 0) vS)
 (oZ (aa5 2 (pIx 2 (pIx 2 (Ut 2)<|vX yy<|rC<|.int 1)<|qE Gw (oE 3)<|vX yy<|rC<|.int 1)<|Em 4)
 (ql<|Br 2)))))))
def BS:MF:=tK 2 10 Le
end K12
namespace K15
open PySem L2 Mr Z
def CG:MS:=(B1 2 (oE 3)<|kSc<|Qd (oE 1)<|vX yy<|oE 3)
def KJ:MS:=(oZ (pU 1<|pd K51.J2<|oz (oR 0) oS)
 (oZ (pU 2 BO)
 (oZ (VY 3 1 CG)
 (ql<|Br 2))))
def ET:MF:=tK 1 4 KJ
def zI:MS:=(oZ (zJ 2<|oR 3)<|pU 3<|kSc<|GJ (oE 0)<|oE 3)
def Fl:MS:=(oZ (pU 2<|rV<|oz (oR 1) oS)
 (oZ (pU 3<|kSc<|GJ (oE 0)<|oE 1)
 (oZ (wO (tG<|qE dNe (oE 3)<|oE 1) zI 100000)
 (ql<|Br 2))))
def zS:MF:=tK 2 4 Fl
def CH:MS:=(B1 2 (oE 6)<|kSc<|rC<|.bl t_)
def Aj:MS:=(wm (tG<|wC (oE 4)<|oE 2) (oZ (pU 5<|pd K15.zS<|oz (oR 1)<|oz (oR 4) oS)<|oZ (Fk 6 (oR 5) CH)<|zJ 3<|oR 5) pZ)
def Qn:MS:=(oZ (pU 1<|pd K15.ET<|oz (oR 0) oS)
 (oZ (pU 2 BO)
 (oZ (pU 3<|wH (Bu<|oR 0) [] (tG<|qE Ep (yK vJ<|oC (oE 0) oW)<|rC<|.int 0)<|rV oS)
 (oZ (Fk 4 (pd Zl.E2<|oz (oR 0) oS) Aj)
 (ql<|pd Zl.sZ<|oz (oR 3) oS)))))
def rJ:MF:=tK 1 7 Qn
def CN:MS:=(B1 1 (qE Gw (oE 2)<|oE 3)<|kSc<|qE Gw (oE 2)<|qE xh (qE yf (oE 3)<|rC<|.int 1)<|yK vJ<|oC (oE 2) oW)
def Cp:MS:=(DB 3 (oC (yK vJ<|oC (oE 2) oW) oW) CN)
def K2:MS:=(oZ (pU 1 BO)
 (oZ (Fk 2 (oR 0) Cp)
 (ql<|Br 1)))
def E6:MF:=tK 1 4 K2
def zP:MS:=(oZ (B1 2 (oE 6)<|kSc<|rC<|.bl t_)<|oZ (zJ 5<|oR 6)<|pU 6<|kSc<|Qd (oE 1)<|vX yy<|oE 6)
def yz:MS:=(wm (tG<|wC (oE 4)<|oE 2) (oZ (pU 5<|rV oS)<|oZ (pU 6<|oR 4)<|oZ (wO (tG<|wC (oE 6)<|oE 2) zP 100000)<|zJ 3<|oR 5) pZ)
def Ko:MS:=(oZ (pU 1<|pd K15.E6<|oz (oR 0) oS)
 (oZ (pU 2 BO)
 (oZ (pU 3<|wH (Bu<|oR 0) [] (uK<|R5<|oE 0)<|rV oS)
 (oZ (VY 4 1 yz)
 (ql<|pd K13.za<|oz (oR 3) oS)))))
def rR:MF:=tK 1 7 Ko
end K15
namespace K16
open PySem L2 Mr Z
def C5:MS:=(oZ (pU 2<|kSc<|qE yf (qE yf (oE 2)<|rC<|.int 1)<|qE xh (oE 3)<|qE Jy (rC<|.int 10)<|rC<|.int 57)<|oZ (pU 3<|kSc<|qE acP (oE 3)<|qE Jy (rC<|.int 10)<|rC<|.int 57)<|Uu 4<|lOf<|rV<|oz (oR 2)<|oz (kSc<|vX yy<|oE 2) oS)
def CV:MS:=(oZ (Uv 7 (oE 8)<|Hq 6<|qE xh (oE 3)<|yK vJ<|oC (oE 6) oW)<|pU 3<|kSc<|qE Ih (oE 3)<|qE yf (yK vJ<|oC (oE 6) oW)<|rC<|.int 1)
def CM:MS:=(oZ (B1 10 (oE 8)<|kSc<|rC<|.bl t_)<|oZ (zJ 11<|oR 8)<|pU 8<|kSc<|GJ (oE 7)<|oE 8)
def AE:MS:=(oZ (pU 11<|rV oS)<|oZ (wO (tG<|wC (oE 8)<|oE 10) CM 100000)<|wm (R5<|oE 11) (zJ 9<|oR 11) pZ)
def Aw:MS:=(oZ (wm (tG<|wC (oE 2)<|oE 10) (zJ 12<|oR 2) pZ)<|pU 2<|kSc<|qE yf (oE 2)<|rC<|.int 1)
def Rm:MS:=(oZ (pU 1<|kSc<|qE xh (rK Zl.ph<|oC (oE 0)<|oC (rC<|.int 1) oW)<|rC<|.int 31)
 (oZ (pU 2<|kSc<|rC<|.int 0)
 (oZ (pU 3<|kSc<|rK Zl.ph<|oC (oE 0)<|oC (rC<|.int 2) oW)
 (oZ (pU 4<|rV oS)
 (oZ (DB 5 (oC (oE 1) oW) C5)
 (oZ (pU 6<|Dk<|vq 4)
 (oZ (pU 3<|kSc<|rK Zl.ph<|oC (oE 0)<|oC (rC<|.int 3) oW)
 (oZ (pU 7 BO)
 (oZ (Fk 8 (oR 4) CV)
 (oZ (pU 9<|rV oS)
 (oZ (pU 10 BO)
 (oZ (Fk 8 (oR 4) AE)
 (oZ (pU 12<|rV oS)
 (oZ (pU 2<|kSc<|qE yf (rC<|.int 1)<|qE xh (rK Zl.ph<|oC (oE 0)<|oC (rC<|.int 4) oW)<|qE Jy (rC<|.int 10)<|rC<|.int 59)
 (oZ (wO (tG<|qE XF (yK vJ<|oC (oE 12) oW)<|rC<|.int 66) Aw 100000)
 (ql<|xq<|oz (Dq (Em 9)<|lOf<|wH (iR1<|oC (qE xh (qE Ih (rK Zl.ph<|oC (oE 0)<|oC (rC<|.int 1) oW)<|rC<|.int 31)<|rC<|.int 4) oW) [] uS<|rV oS)<|oz (oR 12) oS))))))))))))))))
def G6:MF:=tK 1 13 Rm
end K16
namespace K23
open PySem L2 Mr Z Xe
def mf_settled:MX:=(wk (zL Zl.rX<|oz (oR 0) oS)
 (B7<|ql<|pd Zl.sZ<|oz (oR 0) oS))
def f_settled:uU:=uT 1 1 mf_settled
def FX:MS:=(ql<|wH (Bu<|oR 0) [1] (tG<|qE (HA t_) (oE 0)<|oE 1)<|oR 0)
def xO:MF:=tK 2 2 FX
def xB:MX:=(wk (Wf (tG<|qE (HA t_) (oE 1)<|rOf<|pd Zl.rL<|oz (oR 0) oS) (DN "NotThere" "end"<|oC (oE 1) oW)<|B7 pZ)
 (Fe K23.f_settled<|oz (wH (Bu<|oR 0) [1] uS<|pd K23.xO<|oz (oR 0)<|oz (xq<|oz (oR 1)<|oz (kSc<|vX yy<|oE 1) oS) oS) oS))
def rW:uU:=uT 2 2 xB
def DW:MX:=(Fe K23.rW<|oz (oR 1)<|oz (kSc<|vX (tU "Cut" "road")<|oE 0) oS)
def qM:uU:=uT 2 2 DW
def xZ:MX:=(zL K23.qM<|rH "Cut" "done" (oR 0)<|oz (oR 1) oS)
def uA:uU:=uT 2 2 xZ
def Fc:MS:=(oZ (pU 1<|rV oS)
 (oZ (wm (uK<|tG<|yK MB<|oC (oE 0)<|oC (rC<|.ty "ValueError") oW) (zJ 1<|xq<|oz (kSc<|rC<|.str "plain")<|oz (kSc<|rC<|.int 0) oS) pZ)
 (oZ (wm (tG<|yK MB<|oC (oE 0)<|oC (Xp "Taken") oW) (zJ 1<|xq<|oz (kSc<|rC<|.str "taken")<|oz (kSc<|vX (NR "road")<|oE 0) oS) pZ)
 (oZ (wm (tG<|yK MB<|oC (oE 0)<|oC (Xp "NotThere") oW) (zJ 1<|xq<|oz (kSc<|rC<|.str "there")<|oz (kSc<|vX (NR "end")<|oE 0) oS) pZ)
 (oZ (wm (tG<|yK MB<|oC (oE 0)<|oC (Xp "NoPlace") oW) (zJ 1<|xq<|oz (kSc<|rC<|.str "place")<|oz (kSc<|rC<|.int 0) oS) pZ)
 (oZ (wm (tG<|yK MB<|oC (oE 0)<|oC (Xp "TooMany") oW) (zJ 1<|xq<|oz (kSc<|rC<|.str "many")<|oz (kSc<|rC<|.int 0) oS) pZ)
 (ql<|Br 1)))))))
def vG:MF:=tK 1 2 Fc
end K23
namespace K21
open PySem L2 Mr Z Xe
def Ic:MS:=(oZ (wm (tG<|qE (HA t_) (oE 2)<|oE 0) (ql<|Br 0) pZ)
 (oZ (pU 3<|kSc<|qE yf (rBM "list" C1 (oE 0)<|oC (oE 2) oW)<|rC<|.int 1)
 (ql<|Dq (lOf<|Dq (lOf<|JJ (vq 0) wA<|ud<|oE 3)<|lOf<|rV<|oz (oR 1) oS)<|lOf<|JJ (vq 0) (ud<|oE 3) wA)))
def B2:MF:=tK 3 4 Ic
def Bk:MX:=(wk (Wf (tG<|qE (HA t_) (oE 2)<|rOf<|pd Zl.rL<|oz (oR 0) oS) (DN "NotThere" "end"<|oC (oE 2) oW)<|B7 pZ)
 (B7<|ql<|wH (Bu<|oR 0) [1,2] uS<|pd K21.B2<|oz (oR 0)<|oz (oR 1)<|oz (oR 2) oS))
def yC:uU:=uT 3 3 Bk
def CC:MX:=(wk (Wf (tG<|acQ t_<|oE 0) (CF "NoPlace")<|B7 pZ)
 (wk (B7<|pU 2<|kSc<|Q8<|oE 0)
 (B7<|ql<|Dq (lOf<|Dq (lOf<|JJ (vq 0) wA<|ud<|oE 2)<|lOf<|rV<|oz (rV<|oz (oR 1) oS) oS)<|lOf<|JJ (vq 0) (ud<|qE yf (oE 2)<|rC<|.int 1) wA)))
def zw:uU:=uT 2 3 CC
def Am:MX:=(wk (Wf (tG<|qE Hu (oE 2)<|rC .non) (Fe K21.zw<|oz (oR 0)<|oz (oR 1) oS)<|B7 pZ)
 (Fe K21.yC<|oz (oR 0)<|oz (oR 1)<|oz (oR 2) oS))
def wR:uU:=uT 3 3 Am
def vh:MX:=(wk (Wf (tG<|qE (HA f_) (oE 1)<|rOf<|pd Zl.rL<|oz (oR 0) oS) (DN "Taken" "road"<|oC (oE 1) oW)<|B7 pZ)
 (wk (Ii 4 K21.wR<|oz (oR 0)<|oz (oR 1)<|oz (oR 2) oS)
 (aao K23.f_settled K21.wR<|oz (oR 4)<|oz (kSc<|vX yy<|oE 1)<|oz (oR 3) oS)))
def rY:uU:=uT 4 5 vh
def Jd:MS:=(ql<|xq<|oz (kSc<|rC<|.str "put")<|oz (kSc<|vX (tU "Put" "road")<|oE 0)<|oz (kSc<|vX (tU "Put" "first")<|oE 0)<|oz (kSc<|vX (tU "Put" "second")<|oE 0) oS)
def uN:MF:=tK 1 1 Jd
def vf:MX:=(Fe K21.rY<|oz (oR 1)<|oz (kSc<|vX (tU "Put" "road")<|oE 0)<|oz (kSc<|vX (tU "Put" "first")<|oE 0)<|oz (kSc<|vX (tU "Put" "second")<|oE 0) oS)
def pV:uU:=uT 2 2 vf
end K21
namespace K22
open PySem L2 Mr Z Xe
def wu:MX:=(zL K21.pV<|rH "Put" "done" (oR 0)<|oz (oR 1) oS)
def tE:uU:=uT 2 2 wu
def Fx:MS:=(ql<|xI "Put" ["road","first","second"]<|oC (vX (tU "Part" "road")<|oE 0)<|oC (vX (tU "Part" "first")<|oE 0)<|oC (vX (tU "Part" "second")<|oE 0) oW)
def ti:MF:=tK 1 1 Fx
def yw:MX:=(Wg K15.rJ K21.pV<|rH "Put" "done" (pd K22.ti<|rH "Part" "other" (oR 0) oS)<|oz (pd K15.rJ<|oz (oR 1) oS) oS)
def uE:uU:=uT 2 2 yw
def DH:MX:=(wk (zL K22.tE<|oz (oR 0)<|oz (oR 1) oS)
 (B7<|ql<|xI "Cut" ["road"]<|oC (vX (tU "Put" "road")<|oE 0) oW))
def qZ:uU:=uT 2 2 DH
def Fq:MS:=(oZ (pU 2<|kSc<|rC .non)
 (oZ (pU 3<|kSc<|rC .non)
 (oZ (Ka 3 K21.pV (rH "Put" "done" (oR 0)<|oz (oR 1) oS)<|xAs "MapError" 4 (pU 2<|pd K23.vG<|oz (oR 4) oS) X2)
 (oZ (wm (tG<|qE Hu (oE 2)<|rC .non) (ql<|rV<|oz (kSc<|rC<|.str "map")<|oz (Br 3) oS) pZ)
 (ql<|rV<|oz (kSc<|rC<|.str "refused")<|oz (Br 2) oS)))))
def GW:MF:=tK 2 5 Fq
def CK:MX:=(Fe K22.uE<|oz (oR 0)<|oz (oR 1) oS)
def sq:uU:=uT 2 2 CK
def Fo:MS:=(oZ (pU 2<|kSc<|rC .non)
 (oZ (pU 3<|kSc<|rC .non)
 (oZ (Ka 3 K22.qZ (rH "Put" "back" (oR 0)<|oz (oR 1) oS)<|xAs "MapError" 4 (pU 2<|pd K23.vG<|oz (oR 4) oS) X2)
 (oZ (wm (tG<|qE Hu (oE 2)<|rC .non) (ql<|rV<|oz (kSc<|rC<|.str "back")<|oz (Br 3) oS) pZ)
 (ql<|rV<|oz (kSc<|rC<|.str "refused")<|oz (Br 2) oS)))))
def G0:MF:=tK 2 5 Fo
def IZ:MS:=(ql<|xq<|oz (kSc<|rC<|.str "cut")<|oz (kSc<|vX (tU "Cut" "road")<|oE 0) oS)
def uO:MF:=tK 1 1 IZ
end K22
namespace K25
open PySem L2 Mr Z Xe
def MU:MS:=(ql<|xI "Cut" ["road"]<|oC (vX (tU "Draw" "road")<|oE 0) oW)
def tO:MF:=tK 1 1 MU
def Cq:MX:=(Wg K15.rJ K23.qM<|rH "Cut" "done" (pd K25.tO<|rH "Draw" "other" (oR 0) oS)<|oz (pd K15.rJ<|oz (oR 1) oS) oS)
def xS:uU:=uT 2 2 Cq
def C9:MX:=(Fe K25.xS<|oz (oR 0)<|oz (oR 1) oS)
def rZ:uU:=uT 2 2 C9
def GF:MS:=(ql<|xq<|oz (kSc<|rC<|.str "draw")<|oz (kSc<|vX (tU "Draw" "road")<|oE 0) oS)
def uf:MF:=tK 1 1 GF
end K25
namespace K26
open PySem L2 Mr Z Xe
def Hx:MS:=(oZ (wm (tG<|qE Ep (yK vJ<|oC (oE 0) oW)<|rC<|.int 1) (ql<|kSc<|rC .non) pZ)
 (ql<|kSc<|qE Gw (oE 0)<|qE aep (rBM "list" C1 (oE 0)<|oC (oE 1) oW)<|rC<|.int 1))
def zr:MF:=tK 2 2 Hx
def HQ:MS:=(ql<|kIx (lOf<|wH (Bu<|oR 0) [1] (tG<|qE (HA f_) (oE 1)<|oE 0)<|oR 0)<|rC<|.int 0)
def zq:MF:=tK 2 2 HQ
def DO:MS:=(ql<|pd K26.zr<|oz (pd K23.xO<|oz (pd K26.zq<|oz (oR 0)<|oz (oR 1) oS)<|oz (xq<|oz (kSc<|vX yy<|oE 1) oS) oS)<|oz (oR 1) oS)
def wg:MF:=tK 2 2 DO
def Dg:MS:=(ql<|pd K26.zr<|oz (pd K26.zq<|oz (oR 0)<|oz (kSc<|vX yy<|oE 1) oS)<|oz (kSc<|vX yy<|oE 1) oS)
def vC:MF:=tK 2 2 Dg
def mf_with_place:MX:=(Fe K23.f_settled<|oz (Dq (lOf<|rV<|oz (rV oS) oS)<|Em 0) oS)
def f_with_place:uU:=uT 1 1 mf_with_place
def mf_without_place:MX:=(wk (Wf (tG<|acQ t_<|oE 0) (CF "NoPlace")<|B7 pZ)
 (wk (B7<|pU 1<|kSc<|Q8<|oE 0)
 (B7<|ql<|pd Zl.sZ<|oz (Dq (lOf<|JJ (vq 0) wA<|ud<|oE 1)<|lOf<|JJ (vq 0) (ud<|qE yf (oE 1)<|rC<|.int 1) wA) oS)))
def f_without_place:uU:=uT 1 2 mf_without_place
def Fv:MX:=(Fe K26.f_with_place<|oz (oR 1) oS)
def ri:uU:=uT 2 2 Fv
def xR:MX:=(zL K26.ri<|rH "Found" "done" (oR 0)<|oz (oR 1) oS)
def uq:uU:=uT 2 2 xR
def C8:MX:=(Fe K26.f_without_place<|oz (oR 1) oS)
def qW:uU:=uT 2 2 C8
def vP:MX:=(zL K26.qW<|rH "Raze" "done" (oR 0)<|oz (oR 1) oS)
def sU:uU:=uT 2 2 vP
def N0:MS:=(ql<|xI "Draw" ["road"]<|oC (vX (tU "Cut" "road")<|oE 0) oW)
def vd:MF:=tK 1 1 N0
def yd:MX:=(WI "Cut" "other" K26.vd K22.qZ<|rH "Put" "back" (pd K22.ti<|rH "Part" "other" (oR 0) oS)<|oz (pd K15.rJ<|oz (oR 1) oS) oS)
def uC:uU:=uT 2 2 yd
def AU:MX:=(wk (zL K23.uA<|oz (oR 0)<|oz (oR 1) oS)
 (B7<|ql<|xI "Put" ["road","first","second"]<|oC (vX (tU "Cut" "road")<|oE 0)<|oC (rOf<|pd K26.wg<|oz (oR 1)<|oz (kSc<|vX (tU "Cut" "road")<|oE 0) oS)<|oC (rOf<|pd K26.vC<|oz (oR 1)<|oz (kSc<|vX (tU "Cut" "road")<|oE 0) oS) oW))
def rN:uU:=uT 2 2 AU
def GQ:MS:=(ql<|xI "Part" ["road","first","second"]<|oC (vX (tU "Put" "road")<|oE 0)<|oC (vX (tU "Put" "first")<|oE 0)<|oC (vX (tU "Put" "second")<|oE 0) oW)
def ux:MF:=tK 1 1 GQ
def xY:MX:=(WI "Put" "other" K26.ux K26.rN<|rH "Cut" "back" (pd K25.tO<|rH "Draw" "other" (oR 0) oS)<|oz (pd K15.rJ<|oz (oR 1) oS) oS)
def uD:uU:=uT 2 2 xY
def tA(m c:Str)(f:uU):MS:=Ka 3 f (rH c m (oR 0)<|oz (oR 1) oS)<|xAs "MapError" 4 (pU 2<|pd K23.vG<|oz (oR 4) oS) X2
def dnA:MS:=T6 (tA "done" "Put" K21.pV)<|T6 (tA "done" "Cut" K23.qM)<|T6 (tA "done" "Part" K22.sq)<|T6 (tA "done" "Draw" K25.rZ)<|T6 (tA "done" "Found" K26.ri)<|tA "done" "Raze" K26.qW
def IE:MS:=(oZ (pU 2<|kSc<|rC .non)
 (oZ (pU 3<|kSc<|rC .non)
 (oZ dnA
 (oZ (wm (tG<|qE Hu (oE 2)<|rC .non) (ql<|rV<|oz (kSc<|rC<|.str "map")<|oz (Br 3) oS) pZ)
 (ql<|rV<|oz (kSc<|rC<|.str "refused")<|oz (Br 2) oS)))))
def xu:MF:=tK 2 5 IE
def wtl:MS:=(oZ (pU 7<|kSc<|qE xh (oE 0)<|rC<|.int 8)
 (oZ (wm (tG<|qE Ep (oE 7)<|rC<|.int 6) (ql<|xq<|oz (kSc<|rC<|.str "found") oS) pZ)
 (oZ (wm (tG<|qE Ep (oE 7)<|rC<|.int 7) (ql<|xq<|oz (kSc<|rC<|.str "raze") oS) pZ)
 (oZ (wm (tG<|qE dGt (oE 7)<|rC<|.int 3) (oZ (pU 8<|Dq (lOf<|wH (Bu<|oR 4) [] (tG<|qE dGt (oE 0)<|rC<|.int 0)<|oR 0)<|lOf<|rV<|oz (oR 2) oS)<|ql<|xq<|oz (kSc<|qE Gw (rOf<|rV<|oz (kSc<|rC<|.str "cut")<|oz (kSc<|rC<|.str "draw") oS)<|qE aep (oE 7)<|rC<|.int 4)<|oz (kSc<|qE Gw (oE 8)<|qE xh (oE 5)<|yK vJ<|oC (oE 8) oW) oS) pZ)
 (oZ (pU 9<|Dq (Em 4)<|lOf<|rV<|oz (kSc<|rC .non) oS)
 (oZ (pU 10<|kIx (vq 9)<|qE xh (oE 5)<|yK vJ<|oC (oE 9) oW)
 (oZ (zJ 9<|oR 2)
 (oZ (pU 11<|kIx (vq 9)<|qE xh (oE 6)<|yK vJ<|oC (oE 9) oW)
 (ql<|xq<|oz (kSc<|qE Gw (rOf<|rV<|oz (kSc<|rC<|.str "put")<|oz (kSc<|rC<|.str "part")<|oz (kSc<|rC<|.str "put")<|oz (kSc<|rC<|.str "part") oS)<|oE 7)<|oz (oR 2)<|oz (oR 10)<|oz (oR 11) oS)))))))))
def FV:MS:=(oZ (pU 4<|pd Zl.rL<|oz (oR 1) oS)
 (oZ (pU 5<|kSc<|qE xh (qE MM (oE 0)<|rC<|.int 48271)<|rC<|.int 2147483647)
 (oZ (pU 6<|kSc<|qE Ih (oE 5)<|rC<|.int 7919)
 (oZ (wm (tG<|oE 3) (oZ (pU 5<|kSc<|qE Ih (oE 0)<|rC<|.int 8)<|pU 6<|kSc<|qE Ih (oE 5)<|qE yf (yK vJ<|oC (oE 4) oW)<|rC<|.int 1) pZ)
 K26.wtl))))
def BH:MF:=tK 4 12 FV
def BU:MS:=(oZ (wm (tG<|qE Ep (qE zF (oE 0)<|rC<|.int 0)<|rC<|.str "put") (ql<|xI "Put" ["road","first","second"]<|oC (qE zF (oE 0)<|rC<|.int 1)<|oC (qE zF (oE 0)<|rC<|.int 2)<|oC (qE zF (oE 0)<|rC<|.int 3) oW) pZ)
 (oZ (wm (tG<|qE Ep (qE zF (oE 0)<|rC<|.int 0)<|rC<|.str "part") (ql<|xI "Part" ["road","first","second"]<|oC (qE zF (oE 0)<|rC<|.int 1)<|oC (qE zF (oE 0)<|rC<|.int 2)<|oC (qE zF (oE 0)<|rC<|.int 3) oW) pZ)
 (oZ (wm (tG<|qE Ep (qE zF (oE 0)<|rC<|.int 0)<|rC<|.str "cut") (ql<|xI "Cut" ["road"]<|oC (qE zF (oE 0)<|rC<|.int 1) oW) pZ)
 (oZ (wm (tG<|qE Ep (qE zF (oE 0)<|rC<|.int 0)<|rC<|.str "draw") (ql<|xI "Draw" ["road"]<|oC (qE zF (oE 0)<|rC<|.int 1) oW) pZ)
 (oZ (wm (tG<|qE Ep (qE zF (oE 0)<|rC<|.int 0)<|rC<|.str "found") (ql<|xI "Found" [] oW) pZ)
 (ql<|xI "Raze" [] oW))))))
def AG:MF:=tK 1 1 BU
def C6:MX:=(Fe K26.uC<|oz (oR 0)<|oz (oR 1) oS)
def uy:uU:=uT 2 2 C6
def CI:MX:=(Fe K26.uD<|oz (oR 0)<|oz (oR 1) oS)
def uu:uU:=uT 2 2 CI
def Fp:MX:=(wk (zL K26.uq<|oz (oR 0)<|oz (oR 1) oS)
 (B7<|ql<|xI "Raze" [] oW))
def va:uU:=uT 2 2 Fp
def CL:MX:=(wk (zL K26.sU<|oz (oR 0)<|oz (oR 1) oS)
 (B7<|ql<|xI "Found" [] oW))
def uv:uU:=uT 2 2 CL
def GA:MS:=(ql<|xq<|oz (kSc<|rC<|.str "part")<|oz (kSc<|vX (tU "Part" "road")<|oE 0)<|oz (kSc<|vX (tU "Part" "first")<|oE 0)<|oz (kSc<|vX (tU "Part" "second")<|oE 0) oS)
def uj:MF:=tK 1 1 GA
def Fy:MS:=(ql<|xq<|oz (kSc<|rC<|.str "found") oS)
def tM:MF:=tK 1 1 Fy
def Ht:MS:=(ql<|xq<|oz (kSc<|rC<|.str "raze") oS)
def ug:MF:=tK 1 1 Ht
def isC(x:ME):ME:=yM (Kj "Put" t_ x)<|yM (Kj "Cut" t_ x)<|yM (Kj "Part" t_ x)<|yM (Kj "Draw" t_ x)<|yM (Kj "Found" t_ x)<|Kj "Raze" t_ x
def aeK(x:MK):ME:=yM (rOf<|pd K21.uN<|rH "Put" "told" x oS)<|yM (rOf<|pd K22.uO<|rH "Cut" "told" x oS)<|yM (rOf<|pd K26.uj<|rH "Part" "told" x oS)<|yM (rOf<|pd K25.uf<|rH "Draw" "told" x oS)<|yM (rOf<|pd K26.tM<|rH "Found" "told" x oS)<|rOf<|pd K26.ug<|rH "Raze" "told" x oS
end K26
namespace K29
open PySem L2 Mr Z Xe
def Ks:MS:=(ql<|xI "Found" [] oW)
def wj:MF:=tK 1 1 Ks
def Mm:MS:=(ql<|xI "Raze" [] oW)
def wV:MF:=tK 1 1 Mm
def ad2(x:MK):ME:=yM (rOf<|pd K26.uj<|rH "Part" "told" (pd K26.ux<|rH "Put" "other" x oS) oS)<|yM (rOf<|pd K25.uf<|rH "Draw" "told" (pd K26.vd<|rH "Cut" "other" x oS) oS)<|yM (rOf<|pd K21.uN<|rH "Put" "told" (pd K22.ti<|rH "Part" "other" x oS) oS)<|yM (rOf<|pd K22.uO<|rH "Cut" "told" (pd K25.tO<|rH "Draw" "other" x oS) oS)<|yM (rOf<|pd K26.tM<|rH "Found" "told" (pd K29.wj<|rH "Found" "other" x oS) oS)<|rOf<|pd K26.ug<|rH "Raze" "told" (pd K29.wV<|rH "Raze" "other" x oS) oS
def Qi(x:MK):MK:=ID (pd K26.ux<|rH "Put" "other" x oS)<|ID (pd K26.vd<|rH "Cut" "other" x oS)<|ID (pd K22.ti<|rH "Part" "other" x oS)<|ID (pd K25.tO<|rH "Draw" "other" x oS)<|ID (pd K29.wj<|rH "Found" "other" x oS)<|pd K29.wV<|rH "Raze" "other" x oS
def UP(x:MK):MK:=ID (pd K21.uN<|rH "Put" "told" x oS)<|ID (pd K22.uO<|rH "Cut" "told" x oS)<|ID (pd K26.uj<|rH "Part" "told" x oS)<|ID (pd K25.uf<|rH "Draw" "told" x oS)<|ID (pd K26.tM<|rH "Found" "told" x oS)<|pd K26.ug<|rH "Raze" "told" x oS
def XM(x:ME):ME:=yM (vX (tU "Put" "road") x)<|yM (vX (tU "Cut" "road") x)<|yM (vX (tU "Part" "road") x)<|vX (tU "Draw" "road") x
def ago(x:ME):ME:=yM (vX (tU "Put" "first") x)<|vX (tU "Part" "first") x
def age(x:ME):ME:=yM (vX (tU "Put" "second") x)<|vX (tU "Part" "second") x
def dnX(i c j:Nat):MX:=HW (Ii i K21.pV<|rH "Put" "done" (oR c)<|oz (oR j) oS)<|HW (Ii i K23.qM<|rH "Cut" "done" (oR c)<|oz (oR j) oS)<|HW (Ii i K22.sq<|rH "Part" "done" (oR c)<|oz (oR j) oS)<|HW (Ii i K25.rZ<|rH "Draw" "done" (oR c)<|oz (oR j) oS)<|HW (Ii i K26.ri<|rH "Found" "done" (oR c)<|oz (oR j) oS)<|Ii i K26.qW<|rH "Raze" "done" (oR c)<|oz (oR j) oS
def bkX(i c j:Nat):MX:=HW (K7 i K22.qZ<|rH "Put" "back" (oR c)<|oz (oR j) oS)<|HW (K7 i K26.rN<|rH "Cut" "back" (oR c)<|oz (oR j) oS)<|HW (K7 i K26.uy<|rH "Part" "back" (oR c)<|oz (oR j) oS)<|HW (K7 i K26.uu<|rH "Draw" "back" (oR c)<|oz (oR j) oS)<|HW (K7 i K26.va<|rH "Found" "back" (oR c)<|oz (oR j) oS)<|K7 i K26.uv<|rH "Raze" "back" (oR c)<|oz (oR j) oS
def zf:MX:=(dnX 2 3 2)
def Ez:MX:=(wk (B7<|pU 2<|wH (Bu<|oR 0) [] uS<|Dk<|vq 0)
 (wk (U2 3 (oR 1) zf)
 (B7<|ql<|Br 2)))
def vn:uU:=uT 2 4 Ez
def uw:MX:=(wk (bkX 2 4 3)<|dnX 3 4 3)
def IX:MX:=(wk (B7<|pU 2<|rV oS)
 (wk (B7<|pU 3<|oR 0)
 (wk (U2 4 (oR 1) uw)
 (B7<|ql<|agG<|vq 2))))
def Ct:uU:=uT 2 5 IX
def DF:MS:=(oZ (pU 3<|kSc<|rC .non)
 (oZ (pU 4<|kSc<|rC .non)
 (oZ (wm (tG<|oE 2) (Ka 4 K29.Ct (oz (oR 0)<|oz (oR 1) oS)<|xAs "MapError" 5 (pU 3<|pd K23.vG<|oz (oR 5) oS) X2)<|Ka 4 K29.vn (oz (oR 0)<|oz (oR 1) oS)<|xAs "MapError" 5 (pU 3<|pd K23.vG<|oz (oR 5) oS) X2)
 (oZ (wm (tG<|qE Hu (oE 3)<|rC .non) (ql<|rV<|oz (kSc<|rC<|.str "list")<|oz (Br 4) oS) pZ)
 (ql<|rV<|oz (kSc<|rC<|.str "refused")<|oz (Br 3) oS)))))
def yN:MF:=tK 3 6 DF
def EF:MS:=(oZ (pU 2<|kSc<|qE xh (oE 0)<|rC<|.int 4)
 (oZ (wm (tG<|qE Ep (oE 2)<|rC<|.int 0) (ql<|xq<|oz (xI "Cut" ["road"]<|oC (oE 1) oW)<|oz (xq<|oz (kSc<|rC<|.str "there")<|oz (oR 1) oS) oS) pZ)
 (oZ (wm (tG<|qE Ep (oE 2)<|rC<|.int 1) (ql<|xq<|oz (xI "Draw" ["road"]<|oC (oE 1) oW)<|oz (xq<|oz (kSc<|rC<|.str "there")<|oz (oR 1) oS) oS) pZ)
 (oZ (wm (tG<|qE Ep (oE 2)<|rC<|.int 2) (ql<|xq<|oz (xI "Put" ["road","first","second"]<|oC (oE 1)<|oC (rC<|.int 0)<|oC (rC .non) oW)<|oz (xq<|oz (kSc<|rC<|.str "there")<|oz (kSc<|rC<|.int 0) oS) oS) pZ)
 (ql<|xq<|oz (xI "Part" ["road","first","second"]<|oC (oE 1)<|oC (rC<|.int 0)<|oC (oE 1) oW)<|oz (xq<|oz (kSc<|rC<|.str "there")<|oz (kSc<|rC<|.int 0) oS) oS)))))
def zU:MF:=tK 2 3 EF
def LK:MS:=(oZ (pU 1<|To [%["put"|"part"],%["part"|"put"],%["cut"|"draw"],%["draw"|"cut"],%["found"|"found"],%["raze"|"raze"]])
 (ql<|Ww (xq<|oz (kSc<|GJ (oE 1)<|qE MN (oE 0)<|rC<|.int 0) oS)<|Sg (oR 0) (ud<|rC<|.int 1) wA))
def Ad:MF:=tK 1 2 LK
def Jm:MS:=(oZ (pU 4<|Qi<|oR 0)
 (oZ (wm (L8 (uK<|tG<|K26.isC<|oE 4)<|uK<|tG<|rK K13.qb<|oC (K26.aeK<|oR 4)<|oC (rOf<|pd K29.Ad<|oz (oR 1) oS) oW) (ql<|kSc<|rC<|.bl f_) pZ)
 (oZ (wm (uK<|tG<|rK K13.qb<|oC (ad2<|oR 4)<|oC (oE 1) oW) (ql<|kSc<|rC<|.bl f_) pZ)
 (oZ (wm (ND (tG<|qE Ep (yK vJ<|oC (oE 1) oW)<|rC<|.int 4)<|uK<|tG<|rK K13.qb<|oC (rOf<|rV<|oz (kSc<|XM<|oE 4)<|oz (kSc<|ago<|oE 4)<|oz (kSc<|age<|oE 4) oS)<|oC (rOf<|KM<|Sg (oR 1) (ud<|rC<|.int 1) wA) oW) (ql<|kSc<|rC<|.bl f_) pZ)
 (oZ (wm (ND (tG<|qE Ep (yK vJ<|oC (oE 1) oW)<|rC<|.int 2)<|uK<|tG<|rK K13.qb<|oC (XM<|oE 4)<|oC (qE MN (oE 1)<|rC<|.int 1) oW) (ql<|kSc<|rC<|.bl f_) pZ)
 (oZ (pU 5<|oR 3)
 (oZ (wm (tG<|qE Ep (qE Gw (oE 3)<|rC<|.int 0)<|rC<|.str "map") (pU 5<|rV<|oz (kSc<|rC<|.str "map")<|oz (pd K15.rR<|oz (kIx (vq 3)<|rC<|.int 1) oS) oS) pZ)
 (ql<|kSc<|rK K13.qb<|oC (rOf<|pd K26.xu<|oz (oR 4)<|oz (pd K15.rR<|oz (oR 2) oS) oS)<|oC (oE 5) oW))))))))
def Cg:MF:=tK 4 6 Jm
def vL:MS:=(oZ (wm (uK<|tG<|rK K13.qb<|oC (rOf<|pd K29.yN<|oz (pd K51.Ar<|oz (oR 0) oS)<|oz (oR 4)<|oz (oR 6) oS)<|oC (rOf<|rV<|oz (kSc<|rC<|.str "refused")<|oz (rV<|oz (adU (oR 3)<|rC<|.int 1) oS) oS) oW) (ql<|kSc<|rC<|.bl f_) pZ)<|wm (uK<|tG<|rK K13.qb<|oC (rOf<|wH (Bu<|oR 4) [] uS<|UP<|oR 0)<|oC (oE 5) oW) (ql<|kSc<|rC<|.bl f_) pZ)
def GI:MS:=(oZ (pU 4<|Dq (lOf<|Dq (lOf<|JJ (vq 1) wA<|ud<|oE 2)<|lOf<|rV<|oz (adU (oR 3)<|rC<|.int 0) oS)<|lOf<|JJ (vq 1) (ud<|oE 2) wA)
 (oZ (pU 5<|wH (Bu<|oR 4) [] uS<|UP<|oR 0)
 (oZ (Fk 6 (rV<|oz (kSc<|rC<|.bl t_)<|oz (kSc<|rC<|.bl f_) oS) vL)
 (ql<|kSc<|rC<|.bl t_))))
def xT:MF:=tK 4 7 GI
def AF:MS:=(oZ (pU 9<|pd K26.BH<|oz (kSc<|qE Gw (oE 7)<|oE 8)<|oz (oR 5)<|oz (kSc<|qE Gw (oE 1)<|qE yf (rC<|.int 6)<|oE 8)<|oz (oR 3) oS)<|oZ (pU 10<|pd K26.AG<|oz (oR 9) oS)<|oZ (pU 11<|pd K26.xu<|oz (oR 10)<|oz (pd K51.Ar<|oz (oR 5) oS) oS)<|oZ (wm (uK<|tG<|rK K29.Cg<|oC (oE 10)<|oC (oE 9)<|oC (oE 5)<|oC (oE 11) oW) (ql<|kSc<|rC<|.bl f_) pZ)<|wm (tG<|qE Ep (qE Gw (oE 11)<|rC<|.int 0)<|rC<|.str "map") (oZ (zJ 6<|oR 10)<|pU 5<|kIx (vq 11)<|rC<|.int 1) pZ)
def ab8:MS:=(oZ (pU 1<|pd K12.Ab<|oz (oR 0) oS)
 (oZ (pU 2<|pd K13.za<|oz (pd Zl.rL<|oz (pd K12.BS<|oz (JJ (vq 0) (ud<|rC<|.int 5)<|ud<|rC<|.int 11)<|oz (oR 1) oS) oS) oS)
 (oZ (pU 3<|kSc<|qE Ep (qE xh (rK Zl.ph<|oC (oE 0)<|oC (rC<|.int 0) oW)<|rC<|.int 2)<|rC<|.int 1)
 (oZ (wm (tG<|oE 3) (oZ (Vb [4,1]<|pd K16.G6<|oz (oR 0) oS)<|pU 2<|pd K13.za<|oz (oR 4) oS) pZ)
 (oZ (pU 5<|oR 2)
 (oZ (pU 6<|rV oS)
 (oZ (pU 7<|JJ (vq 0) (ud<|rC<|.int 11)<|ud<|rC<|.int 63)
 (oZ (wm (tG<|oE 3) (pU 7<|JJ (vq 0) (ud<|rC<|.int 7)<|ud<|rC<|.int 59) pZ)
 (oZ (DB 8 (oC (yK vJ<|oC (oE 7) oW) oW) AF)
 (oZ (pU 12<|wH (Bu<|oR 6) [] uS<|Qi<|oR 0)
 (oZ (wm (uK<|tG<|rK K13.qb<|oC (rOf<|pd (okX K29.vn)<|oz (pd K15.rR<|oz (oR 2) oS)<|oz (oR 12) oS)<|oC (rOf<|pd K15.rR<|oz (oR 5) oS) oW) (ql<|kSc<|rC<|.bl f_) pZ)
 (oZ (pU 13<|pd K51.Ar<|oz (oR 2) oS)
 (oZ (wm (L8 (uK<|tG<|rK K13.qb<|oC (rOf<|pd (okX K29.vn)<|oz (oR 13)<|oz (Dk<|vq 6) oS)<|oC (oE 5) oW)<|uK<|tG<|rK K13.qb<|oC (oE 13)<|oC (oE 2) oW) (ql<|kSc<|rC<|.bl f_) pZ)
 (oZ (pU 14<|rV<|oz (kSc<|rK Zl.ph<|oC (oE 0)<|oC (rC<|.int 3) oW)<|oz (kSc<|rK Zl.ph<|oC (oE 0)<|oC (rC<|.int 4) oW) oS)
 (oZ (wm (tG<|oE 3) (pU 14<|rV<|oz (kSc<|rK Zl.ph<|oC (oE 0)<|oC (rC<|.int 5) oW)<|oz (kSc<|rK Zl.ph<|oC (oE 0)<|oC (rC<|.int 6) oW) oS) pZ)
 (ql<|kSc<|rK K29.xT<|oC (oE 2)<|oC (oE 6)<|oC (qE xh (qE Gw (oE 14)<|rC<|.int 0)<|qE yf (yK vJ<|oC (oE 6) oW)<|rC<|.int 1)<|oC (rOf<|pd K29.zU<|oz (kSc<|qE Gw (oE 14)<|rC<|.int 1)<|oz (kSc<|qE Gw (oE 1)<|rC<|.int 65) oS) oW))))))))))))))))
def U6:MF:=tK 1 15 ab8
seal PE PA PS LY PT PW PC PG PGs PI PO PF JF vN UnR SR SK SL SQ SS LX SA SAr SM Nr CbD BmD UnD
set_option hygiene false
local macro_rules|`(tactic|and_intros)=>do let x<-("ajW JH wK oO oH ot oy pv oV qJ qA pJ rq rp yH vZ qK zW VJ aeX LM tS rm Ap tm uV BV Bn S4 Df Zs LR Wz vy Ah aie Bf wD YZ afU OL rA Bp KB qa qP yB qT vR xf DX aeC op_eq Cs Rj QL wt Uk V6 zR aiw zb aa4 yS uo KY".splitOn).toArray.mapM λs=>`(@$(Lean.mkIdent s.toName));`(tactic|apply_rules (maxDepth:=100000) only [$[$x:term],*])
local macro_rules|`(tactic|infer_instance)=>do let x<-("pR qH ox oN oP oJ qm pO SR.kSc oX oK pI SK.lOf SK.rOf acu zB aiX Ia Tg adW ym Vf OF B0 UQ Wx Gn aja Wt ahJ aiS FS afX AI XJ aeb acf aay Pf tI DK Fw ab3 abb Xj vp Ir Qw AW wG xN zz al3 ur vA afk aa8 YM Au tN Do Bj afI aaL ajm OG aea Lc ae3 tJ qi qf acJ Gi yq vO Zt zH SL.q".splitOn).toArray.mapM λs=>`(@$(Lean.mkIdent s.toName));`(tactic|((first | apply pR | apply qf | apply tJ | apply OG) <;> apply_rules (maxDepth:=100000) [$[$x:term],*] <;> first | decide | exact λ_ _ _ h=>h))
local macro_rules|`(tactic|bv_omega)=>do let i:=λs:String=>(s.splitOn.map λs=>Lean.mkIdent s.toName).toArray;let x:=i "PassesOwn.never aj uM PySem.boot_len aF aG sQ dm fk ace jN jX dW dX Fb OS S.nd";let y:=i "Bt.len Bt.sorted Bt.min Bt.zip Bt.range";let z:=i "jj gu Yy";let w:=i "OC";`(tactic|(intro _ _ _ _ _ _ S hr hu hu65;apply Exists.intro;apply And.intro;infer_instance;((first|refine oO ?_|refine oH ?_ ?_)<;>and_intros<;>(try ((with_reducible intro _ _ _ _);and_intros))<;>first|rfl|exact nobehind _ (by decide) (by decide)|assumption|exact sA _|decide|exact λ_=>rfl|exact λ_ _=>rfl|exact gu (jj rfl)|exact gu (gu rfl)|exact M3 hr|exact xr.none (by decide +kernel)|first|rfl|exact trivial|(intro _ _;rfl)|exact Xe.adp (pv 1)|first|(simp;done)|(first $[|exact $x]*)|(first $[|exact $y ‹_›]*)|(first $[|exact $z rfl]*)|(first $[|exact $w hu]*)|decide +kernel|trivial)))
set_option hygiene true
noncomputable def top(i:Nat):Stmt:=PySem.Challenge.pw_mapround_k29_whole_other_side.main.body.getD i<|.Pass (0,0,0,0)
def ald(i:Nat):Stmt:=match top i with|.ClassDef _ _ _ (m::_) _ _ _ _ _ _ _=>m|s=>s
def yE(i j:Nat):Stmt:=match top i with|.ClassDef _ _ _ b _ _ _ _ _ _ _=>b.getD j<|.Pass (0,0,0,0)|s=>s
abbrev Ld:Stmt:=yE 36 0
abbrev Hj:Stmt:=yE 38 0
abbrev LL:Stmt:=yE 37 0
abbrev HS:Stmt:=yE 39 0
abbrev zu:Stmt:=ald 2
abbrev Ec:Stmt:=ald 3
abbrev G5:Stmt:=top 9
abbrev AR:Stmt:=top 10
abbrev wF:Stmt:=top 11
abbrev xv:Stmt:=top 12
abbrev EK:Stmt:=top 13
abbrev JN:Stmt:=top 14
abbrev EW:Stmt:=top 16
abbrev zN:Stmt:=top 17
abbrev JQ:Stmt:=top 18
abbrev EI:Stmt:=top 20
abbrev HI:Stmt:=top 21
abbrev zM:Stmt:=top 22
abbrev AX:Stmt:=top 23
abbrev EN:Stmt:=top 24
abbrev AZ:Stmt:=top 25
abbrev EU:Stmt:=top 26
abbrev yx:Stmt:=top 27
abbrev A9:Stmt:=top 28
abbrev A0:Stmt:=top 29
abbrev zd:Stmt:=top 30
abbrev yu:Stmt:=top 31
abbrev zY:Stmt:=top 32
abbrev xA:Stmt:=top 33
abbrev FA:Stmt:=yE 36 1
abbrev vb:Stmt:=top 42
abbrev FK:Stmt:=yE 37 1
abbrev wI:Stmt:=top 42
abbrev B9:Stmt:=yE 40 0
abbrev vU:Stmt:=top 42
abbrev DY:Stmt:=yE 41 0
abbrev wx:Stmt:=top 42
abbrev Cm:Stmt:=yE 38 3
abbrev wX:Stmt:=top 43
abbrev CA:Stmt:=yE 39 3
abbrev yZ:Stmt:=top 43
abbrev FN:Stmt:=yE 36 2
abbrev DQ:Stmt:=yE 37 3
abbrev wQ:Stmt:=top 44
abbrev FL:Stmt:=yE 37 2
abbrev Dy:Stmt:=yE 36 3
abbrev yW:Stmt:=top 44
abbrev DG:Stmt:=yE 38 1
abbrev D8:Stmt:=yE 39 1
abbrev CS:Stmt:=top 45
abbrev El:Stmt:=yE 38 2
abbrev Ei:Stmt:=yE 39 2
abbrev B8:Stmt:=yE 40 1
abbrev Er:Stmt:=yE 41 1
abbrev Cf:Stmt:=top 46
abbrev GL:Stmt:=top 48
abbrev E5:Stmt:=top 49
abbrev E4:Stmt:=top 50
abbrev Ho:Stmt:=top 51
abbrev JZ:Stmt:=top 52
abbrev JY:Stmt:=top 53
abbrev yU:Stmt:=top 54
abbrev EY:Stmt:=top 55
abbrev Fd:Stmt:=top 56
abbrev Gx:Stmt:=top 57
abbrev Hw:Stmt:=top 58
abbrev G2:Stmt:=top 59
abbrev EX:Stmt:=top 60
abbrev GT:Stmt:=top 61
abbrev CT:Stmt:=top 62
abbrev JE:Stmt:=top 63
abbrev EH:Stmt:=top 64
abbrev Gh:Stmt:=yE 36 4
abbrev Gc:Stmt:=yE 37 4
abbrev Ee:Stmt:=yE 38 4
abbrev DC:Stmt:=yE 39 4
abbrev Bo:Stmt:=yE 40 2
abbrev Ci:Stmt:=yE 40 3
abbrev CD:Stmt:=yE 41 2
abbrev EG:Stmt:=yE 41 3
abbrev C0:Stmt:=top 65
abbrev A7:Stmt:=top 66
abbrev JM:Stmt:=top 67
abbrev Fu:Stmt:=top 68
abbrev X_(q:Addr->kz->Prop):=∃f d,q f d
abbrev Y_(K:Ζ)(C:Addr)(z x:Str)(st:Stmt)(ps:List Str):=∃f d,Bg K z x st f d/\yp K C z f/\rF K d ps []
structure A_(K:Ζ)(mg:Str->Υ)(P_ T_ C_ D_ F_ Z_ G_:Addr):Prop where
 e6:qr K "Put" P_/\oQ K P_ "road"/\oQ K P_ "first"/\oQ K P_ "second"
 e7:qr K "Cut" C_/\oQ K C_ "road"
 e8:qr K "Found" F_
 e9:qr K "Raze" Z_
 e10:qr K "Part" T_/\oQ K T_ "road"/\oQ K T_ "first"/\oQ K T_ "second"
 e12:qr K "Draw" D_/\oQ K D_ "road"
 e23:mg "Change"=bj (.ref G_)
 a0:X_<|xC K mg "turned" G5 ["ends"]
 a1:X_<|xC K mg "told_ends" AR ["turns"]
 a2:X_<|xC K mg "refuse_too_many" wF ["turns"]
 a3:X_<|xC K mg "in_good_order" xv ["turns"]
 a4:X_<|xC K mg "ends_of" EK ["m"]
 a5:X_<|xC K mg "nexts" JN ["m"]
 a6:X_<|xC K mg "onwards" EW ["m"]
 a7:X_<|xC K mg "gone_round" zN ["steps","end"]
 a8:X_<|xC K mg "lands" JQ ["m"]
 a9:X_<|xC K mg "settled" EI ["turns"]
 a10:X_<|xC K mg "spread" HI ["turn","end","spot"]
 a11:X_<|xC K mg "put_behind" zM ["turns","end","spot"]
 a12:X_<|xC K mg "put_alone" AX ["turns","end"]
 a13:X_<|xC K mg "put_end" EN ["turns","end","spot"]
 a14:X_<|xC K mg "with_road" AZ ["m","road","first","second"]
 a15:X_<|xC K mg "thinned" EU ["turn","gone"]
 a16:X_<|xC K mg "without_road" yx ["m","road"]
 a17:X_<|xC K mg "end_ahead" A9 ["turn","end"]
 a18:X_<|xC K mg "turn_with" A0 ["m","end"]
 a19:X_<|xC K mg "first_ahead" zd ["m","road"]
 a20:X_<|xC K mg "second_ahead" yu ["m","road"]
 a21:X_<|xC K mg "with_place" zY ["m"]
 a22:X_<|xC K mg "without_place" xA ["m"]
 a23:Y_ K P_ "done" "Put.done" FA ["self","m"]
 a24:X_<|xC K mg "refuse_as_done" vb ["change","m"]
 a25:Y_ K C_ "done" "Cut.done" FK ["self","m"]
 a26:Y_ K F_ "done" "Found.done" B9 ["self","m"]
 a27:Y_ K Z_ "done" "Raze.done" DY ["self","m"]
 a28:Y_ K T_ "other" "Part.other" Cm ["self"]
 a29:X_<|xC K mg "done_over" wX ["change","m"]
 a30:Y_ K D_ "other" "Draw.other" CA ["self"]
 a31:Y_ K P_ "back" "Put.back" FN ["self","m"]
 a32:Y_ K C_ "other" "Cut.other" DQ ["self"]
 a33:X_<|xC K mg "back_over" wQ ["change","m"]
 a34:Y_ K C_ "back" "Cut.back" FL ["self","m"]
 a35:Y_ K P_ "other" "Put.other" Dy ["self"]
 a36:Y_ K T_ "done" "Part.done" DG ["self","m"]
 a37:Y_ K D_ "done" "Draw.done" D8 ["self","m"]
 a38:X_<|xC K mg "done_all" CS ["m","changes"]
 a39:Y_ K T_ "back" "Part.back" El ["self","m"]
 a40:Y_ K D_ "back" "Draw.back" Ei ["self","m"]
 a41:Y_ K F_ "back" "Found.back" B8 ["self","m"]
 a42:Y_ K Z_ "back" "Raze.back" Er ["self","m"]
 a43:X_<|xC K mg "back_all" Cf ["m","changes"]
 a44:X_<|xC K mg "_law_cell" GL ["_law_script","_law_k"]
 a45:X_<|xC K mg "_law_names" E5 ["_law_script"]
 a46:X_<|xC K mg "_law_parts" E4 ["_law_cells","_law_names_here"]
 a47:X_<|xC K mg "_law_turn" Ho ["_law_turn_here"]
 a48:X_<|xC K mg "_law_map" JZ ["_law_turns"]
 a49:X_<|xC K mg "_law_all" JY ["_law_parts_here"]
 a50:X_<|xC K mg "_law_alike" yU ["_law_found","_law_due"]
 a51:X_<|xC K mg "_law_nexts" EY ["_law_m"]
 a52:X_<|xC K mg "_law_lands" Fd ["_law_m"]
 a53:X_<|xC K mg "_law_copy" Gx ["_law_m"]
 a54:X_<|xC K mg "_law_kind" Hw ["_law_e"]
 a55:X_<|xC K mg "_law_done" G2 ["_law_change","_law_m"]
 a56:X_<|xC K mg "_law_words" EX ["_law_cell_here","_law_m","_law_fresh","_law_free"]
 a57:X_<|xC K mg "_law_made" GT ["_law_words_here"]
 a58:X_<|xC K mg "_law_listed" CT ["_law_m","_law_changes","_law_back"]
 a59:X_<|xC K mg "_law_bad" JE ["_law_cell_here","_law_road"]
 a60:X_<|xC K mg "_law_other" EH ["_law_words_here"]
 a61:Y_ K P_ "told" "Put.told" Gh ["self"]
 a62:Y_ K C_ "told" "Cut.told" Gc ["self"]
 a63:Y_ K T_ "told" "Part.told" Ee ["self"]
 a64:Y_ K D_ "told" "Draw.told" DC ["self"]
 a65:Y_ K F_ "other" "Found.other" Bo ["self"]
 a66:Y_ K F_ "told" "Found.told" Ci ["self"]
 a67:Y_ K Z_ "other" "Raze.other" CD ["self"]
 a68:Y_ K Z_ "told" "Raze.told" EG ["self"]
 a69:X_<|xC K mg "_law_across" C0 ["_law_change","_law_words_here","_law_now","_law_found"]
 a70:X_<|xC K mg "_law_refused" A7 ["_law_m","_law_changes","_law_at","_law_bad_here"]
 a71:X_<|xC K mg "_law_any" JM ["_law_script"]
structure E_(P:kx)(w:kB)(K:Ζ)(mg:Str->Υ)(base:Heap)(P_ T_ C_ D_ F_ Z_ G_:Addr):Prop extends A_ K mg P_ T_ C_ D_ F_ Z_ G_ where
 B:Bt mg
 e0:∃t,mg "MOST_ENDS"=bj (.int 128 t)
 e1:∃t,mg "MOST_BARE_PLACES"=bj (.int 128 t)
 e2:∃C M,NY K mg "TooMany" C M
 e3:∃C M f d,UX P w K mg base "NotThere" "end" "end" C M f d
 e4:∃C M,NY K mg "NoPlace" C M
 e5:∃C M f d,UX P w K mg base "Taken" "road" "road" C M f d
 e11:∃f d,C3 P w K mg base "Put" P_ f d ["self","road","first","second"] ["road","first","second"]
 e13:∃f d,C3 P w K mg base "Cut" C_ f d ["self","road"] ["road"]
 e14:∃f d,C3 P w K mg base "Draw" D_ f d ["self","road"] ["road"]
 e15:∃f d,C3 P w K mg base "Part" T_ f d ["self","road","first","second"] ["road","first","second"]
 e16:O3 K mg "Raze" Z_
 e17:O3 K mg "Found" F_
 e18:mg "tuple"=n_
 e19:mg "ValueError"=n_
 e20:∃C M,ajL K mg "MapError" C M
 e21:X0 K P_
 e22:W.kitOne K (.ref P_) (.ref G_)=bj t_
 e24:X0 K C_
 e25:W.kitOne K (.ref C_) (.ref G_)=bj t_
 e26:X0 K T_
 e27:W.kitOne K (.ref T_) (.ref G_)=bj t_
 e28:X0 K D_
 e29:W.kitOne K (.ref D_) (.ref G_)=bj t_
 e30:X0 K F_
 e31:W.kitOne K (.ref F_) (.ref G_)=bj t_
 e32:X0 K Z_
 e33:W.kitOne K (.ref Z_) (.ref G_)=bj t_
section
variable (e_:E_ P w K mg base P_ T_ C_ D_ F_ Z_ G_)
def afs:oU ["self","road","first","second"] ["self","road","first","second"]<|oI Ld:=sC
def agl{C f:Addr}{fd:kz}(l:Mk K C f)(F:Bg K "__init__" "Put.__init__" Ld f fd)(cl:NK K C)(n:oQ K C "road")(t:oQ K C "first")(u:oQ K C "second")(m:mg "Put" = bj (.ref C)):C3 P w K mg base "Put" C f fd ["self","road","first","second"] ["road","first","second"]:=(l,F.ok afs (λx H Q E h=>CY h) λz A outer s H x Q E hr h=>(_,oH (D2 (pv 0) (pv 1) rfl)<|oH (D2 (pv 0) (pv 2) rfl)<|oO<|D2 (pv 0) (pv 3) rfl,agX cl n t u ⋯ ⋯ ⋯ h),b4 F,m)
def aaM:oU ["self","road","first","second"] ["self","road","first","second"]<|oI Hj:=sC
def abe{C f:Addr}{fd:kz}(l:Mk K C f)(F:Bg K "__init__" "Part.__init__" Hj f fd)(cl:NK K C)(n:oQ K C "road")(t:oQ K C "first")(u:oQ K C "second")(m:mg "Part" = bj (.ref C)):C3 P w K mg base "Part" C f fd ["self","road","first","second"] ["road","first","second"]:=(l,F.ok aaM (λx H Q E h=>CY h) λz A outer s H x Q E hr h=>(_,oH (D2 (pv 0) (pv 1) rfl)<|oH (D2 (pv 0) (pv 2) rfl)<|oO<|D2 (pv 0) (pv 3) rfl,agX cl n t u ⋯ ⋯ ⋯ h),b4 F,m)
def afc:oU ["self","road"] ["self","road"]<|oI LL:=sC
def aez{C f:Addr}{fd:kz}(l:Mk K C f)(F:Bg K "__init__" "Cut.__init__" LL f fd)(cl:NK K C)(n:oQ K C "road")(m:mg "Cut" = bj (.ref C)):C3 P w K mg base "Cut" C f fd ["self","road"] ["road"]:=(l,F.ok afc (λt H Q E h=>CY h) λu A outer s H t Q E hr h=>(_,oO<|D2 (pv 0) (pv 1) rfl,agR cl n h),b2 F,m)
def acS:oU ["self","road"] ["self","road"]<|oI HS:=sC
def abv{C f:Addr}{fd:kz}(l:Mk K C f)(F:Bg K "__init__" "Draw.__init__" HS f fd)(cl:NK K C)(n:oQ K C "road")(m:mg "Draw" = bj (.ref C)):C3 P w K mg base "Draw" C f fd ["self","road"] ["road"]:=(l,F.ok acS (λt H Q E h=>CY h) λu A outer s H t Q E hr h=>(_,oO<|D2 (pv 0) (pv 1) rfl,agR cl n h),b2 F,m)
def Qb:oU ["self","end"] ["self","end"]<|oI zu:=sC
def PV{C M f:Addr}{fd:kz}(rf:Ref K "NotThere" C M)(ini:W.findIn K (.ref C) "__init__" = bj (bj<|.ref f))(F:Bg K "__init__" "NotThere.__init__" zu f fd)(u:mg "MapError" = bj (.ref M))(l:W.readsIn K M (.type "type")=t_)(n:W.specialIn K (.ref M) "__getattribute__" = bj (bj<|.builtin "type.__getattribute__"))(t:W.findCls K (.ref M) (.type "type") "__init__" = bj (.val<|.builtin "ValueError.__init__"))(fn:W.isFn K (.ref f)=t_)(kp:W.keepIn K (.ref C)=t_)(nf:W.findIn K (.ref C) "end" = bj n_)(m:mg "NotThere" = bj (.ref C)):UX P w K mg base "NotThere" "end" "end" C M f fd:=((rf.nm,.inl (M,rf)),rf.xc,Tf M,m,(rf,ini,fn,kp,nf,m,b2 F,F.ok Qb (λx H Q E h=>by have(e,v,C,M,rfl,_):=h;rfl) λz A outer s H x Q E hr h=>(_,oH (rA<|ahj (by rfl) u l n t<|ot (pv 0)<|ot tm oy)<|oO<|agA (pv 0) (pv 1) rfl,R8 h)))
def W3:oU ["self","road"] ["self","road"]<|oI Ec:=sC
def W9{C M f:Addr}{fd:kz}(rf:Ref K "Taken" C M)(ini:W.findIn K (.ref C) "__init__" = bj (bj<|.ref f))(F:Bg K "__init__" "Taken.__init__" Ec f fd)(u:mg "MapError" = bj (.ref M))(l:W.readsIn K M (.type "type")=t_)(n:W.specialIn K (.ref M) "__getattribute__" = bj (bj<|.builtin "type.__getattribute__"))(t:W.findCls K (.ref M) (.type "type") "__init__" = bj (.val<|.builtin "ValueError.__init__"))(fn:W.isFn K (.ref f)=t_)(kp:W.keepIn K (.ref C)=t_)(nf:W.findIn K (.ref C) "road" = bj n_)(m:mg "Taken" = bj (.ref C)):UX P w K mg base "Taken" "road" "road" C M f fd:=((rf.nm,.inl (M,rf)),rf.xc,Tf M,m,(rf,ini,fn,kp,nf,m,b2 F,F.ok W3 (λx H Q E h=>by have(e,v,C,M,rfl,_):=h;rfl) λz A outer s H x Q E hr h=>(_,oH (rA<|ahj (by rfl) u l n t<|ot (pv 0)<|ot tm oy)<|oO<|agA (pv 0) (pv 1) rfl,R8 h)))
def Yj:oU ["ends","start"] ["ends"]<|oI G5:=sC
abbrev Sy(P w K mg base):=Fn P w K mg base 1 "turned" G5 ["ends"]<|qQ K Zl.Bz
def XD:X_<|Sy P w K mg base:=by have(_,_,D):=e_.a0;have B:=e_.B;show(_,_,NV D Yj<|by bv_omega)
def OU:oU ["turns","told","turn"] ["turns"]<|oI AR:=sC
abbrev xQ(P w K mg base):=Fn P w K mg base 1 "told_ends" AR ["turns"]<|qQ K Zl.rL
def OW:X_<|xQ P w K mg base:=by have(_,_,D):=e_.a1;have B:=e_.B;show(_,_,NV D OU<|by bv_omega)
def FP:oU ["turns"] ["turns"]<|oI wF:=sC
abbrev AY(P w K mg base):=Lr P w K mg base 2 "refuse_too_many" wF ["turns"]<|vm K Zl.rX
def FH:X_<|AY P w K mg base:=by have(_,_,D):=e_.a2;have B:=e_.B;have(_,x):=e_.e0;have(_,z):=e_.e1;have(_,_,n):=e_.e2;have(_,_,l):=OW e_;show(_,_,(D,FY D.F FP λQ Q Q Q Q Q hr E s=>(_,(oH (rp (qP Rj (qK uM (by rfl) B.len PySem.boot_len<|ot (qJ l hr<|ot (pv 0) oy) oy) (Cj (v:=.int 128) (by rfl) x (_,rfl))<|sA _) (oO<|AH n.i.rf xP rfl<|PB n.i) qa)<|oO<|rp (qP Rj (vZ aj ir PySem.F.type_list_count (aad s) (pv 0)<|ot (rm oy) oy) (Cj (v:=.int 128) (by rfl) z (_,rfl))<|sA _) (oO<|AH n.i.rf xP rfl<|PB n.i) qa),(ue (Et (ro<|qm Vf (vA zB<|oN (SK.rOf<|oX<|ox (oJ 0) oK) pI) pO) (Dd n.i.rf)<|uF qi)<|Et (ro<|qm Vf (afF<|oP 0) pO) (Dd n.i.rf)<|uF qi))))
def IJ:oU ["turns"] ["turns"]<|oI xv:=sC
abbrev xy(P w K mg base):=Fn P w K mg base 2 "in_good_order" xv ["turns"]<|qQ K Zl.sZ
def Ij:X_<|xy P w K mg base:=by have(_,_,D):=e_.a3;have B:=e_.B;have(_,_,l):=XD e_;show(_,_,NV D IJ<|by bv_omega)
def SW:oU ["m"] ["m"]<|oI EK:=sC
abbrev NI(P w K mg base):=Fn P w K mg base 2 "ends_of" EK ["m"]<|qQ K Zl.E2
def UY:X_<|NI P w K mg base:=by have(_,_,D):=e_.a4;have B:=e_.B;have(_,_,l):=OW e_;show(_,_,NV D SW<|by bv_omega)
def ZF:oU ["m","following","turn","end","behind"] ["m"]<|oI JN:=sC
abbrev Ws(P w K mg base):=Fn P w K mg base 1 "nexts" JN ["m"]<|qQ K K51.J2
def ab4:X_<|Ws P w K mg base:=by have(_,_,D):=e_.a5;have B:=e_.B;show(_,_,NV D ZF<|by bv_omega)
def Ug:oU ["m","following","steps","end"] ["m"]<|oI EW:=sC
abbrev NQ(P w K mg base):=Fn P w K mg base 2 "onwards" EW ["m"]<|qQ K K15.ET
def U1:X_<|NQ P w K mg base:=by have(_,_,D):=e_.a6;have B:=e_.B;have(_,_,l):=ab4 e_;show(_,_,NV D Ug<|by bv_omega)
def MJ:oU ["steps","end","ends","step"] ["steps","end"]<|oI zN:=sC
abbrev HB(P w K mg base):=Fn P w K mg base 1 "gone_round" zN ["steps","end"]<|qQ K K15.zS
def Mw:X_<|HB P w K mg base:=by have(_,_,D):=e_.a7;have B:=e_.B;show(_,_,NV D MJ<|by bv_omega)
def acF:oU ["m","steps","known","found","start","land","end"] ["m"]<|oI JQ:=sC
abbrev HJ(P w K mg base):=Fn P w K mg base 3 "lands" JQ ["m"]<|qQ K K15.rJ
def ab9:X_<|HJ P w K mg base:=by have(_,_,D):=e_.a8;have B:=e_.B;have(_,_,s):=U1 e_;have(_,_,t):=UY e_;have(_,_,l):=Ij e_;have(_,_,n):=Mw e_;show(_,_,NV D acF<|by bv_omega)
def TR:oU ["turns"] ["turns"]<|oI EI:=sC
abbrev E1(P w K mg base):=Lr P w K mg base 3 "settled" EI ["turns"]<|vm K K23.f_settled
def S8:X_<|E1 P w K mg base:=by have(_,_,D):=e_.a9;have(_,_,l):=FH e_;have(_,_,n):=Ij e_;show(_,_,(D,FY D.F TR λQ Q Q Q Q Q hr t s=>(_,(oH (rA<|vI l ∅ qo<|ot (pv 0) oy)<|oO<|pJ<|qJ n hr<|ot (pv 0) oy),(ue (yn<|ox (oJ 0) oK)<|uF<|qf<|oX<|ox (oJ 0) oK))))
def XY:oU ["turn","end","spot","behind"] ["turn","end","spot"]<|oI HI:=sC
abbrev Ru(P w K mg base):=Fn P w K mg base 1 "spread" HI ["turn","end","spot"]<|qQ K K21.B2
def Xk:X_<|Ru P w K mg base:=by have(_,_,D):=e_.a10;have B:=e_.B;show(_,_,NV D XY<|by bv_omega)
def MD:oU ["turns","end","spot"] ["turns","end","spot"]<|oI zM:=sC
abbrev GV(P w K mg base):=Lr P w K mg base 3 "put_behind" zM ["turns","end","spot"]<|vm K K21.yC
def MC:X_<|GV P w K mg base:=by have(_,_,D):=e_.a11;have(_,_,_,_,s):=e_.e3;have(_,_,l):=OW e_;have(_,_,n):=Xk e_;show(_,_,(D,FY D.F MD λQ Q Q Q Q Q hr u t=>(_,(oH (rp (qP zR (pv 2) (qJ l hr<|ot (pv 0) oy) rfl) (oO<|AH s.i.rf xP rfl<|TQ s.i ∅<|ot (pv 2) oy) qa)<|oO<|pJ<|zW (N:=["turn","end","spot"]) (fr:=[1,2]) rfl rfl (by trivial) rfl (by trivial) rfl (xr.of (by trivial) rfl rfl (by show(rfl,rfl,trivial)) (by repeat (first|show trivial|show((by first|show λQ=>(_,rfl)|show λh=>(by rcases h with h|h <;> cases h)),?_)))<|by show((rfl,rfl,rfl),(rfl,rfl,rfl),trivial)) (vy<|pv 0) (λQ Q Q Q=>Bn)<|λQ Q Q Q=>(qJ n hr<|ot (pv 0)<|ot (pv 1)<|ot (pv 2) oy)),(ue (Et (ro<|qm (OF t_) (oP 2)<|SK.rOf<|oX<|ox (oJ 0) oK) (Ib s.i.rf s.i.nf<|oN (oP 2) pI)<|uF qi)<|uF<|qf<|AI (oJ 0) Gi<|oX<|ox (oJ 0)<|ox (oJ 1)<|ox (oJ 2) oK))))
def GM:oU ["turns","end","bare"] ["turns","end"]<|oI AX:=sC
abbrev IW(P w K mg base):=Lr P w K mg base 1 "put_alone" AX ["turns","end"]<|vm K K21.zw
def Om:X_<|IW P w K mg base:=by have(_,_,D):=e_.a12;have(_,_,n):=e_.e4;show(_,_,(D,FY D.F GM λQ Q Q Q Q Q hr u l=>(_,(oH (rp (qP (Nu l) (rm oy) (pv 0) rfl) (oO<|AH n.i.rf xP rfl<|PB n.i) qa)<|oH (qA (i:=2) GM<|vZ aj dm fk (Np l) (pv 0)<|ot (rm oy) oy)<|oO<|pJ<|rq DX (rq DX (wK zb (pv 0) Bf<|wD<|pv 2)<|rm<|ot (rm<|ot (pv 1) oy) oy)<|wK zb (pv 0) (wD<|rq xf (pv 2) oV) Bf),(ue (Et (ro<|ach t_<|oP 0) (Dd n.i.rf)<|uF qi)<|ue (uF<|qH (i:=2)<|SR.kSc<|Wr<|oP 0)<|uF<|qf<|FS (SK.lOf<|FS (SK.lOf<|Fw (xN 0) AW<|wG<|oP 2)<|SK.lOf<|tI<|ox (tI<|ox (oJ 1) oK) oK)<|SK.lOf<|Fw (xN 0) (wG<|qm Ia (oP 2) pO) AW))))
def Uq:oU ["turns","end","spot"] ["turns","end","spot"]<|oI EN:=sC
abbrev NH(P w K mg base):=Lr P w K mg base 4 "put_end" EN ["turns","end","spot"]<|vm K K21.wR
def Us:X_<|NH P w K mg base:=by have(_,_,D):=e_.a13;have(_,_,l):=MC e_;have(_,_,n):=Om e_;show(_,_,(D,FY D.F Uq λQ Q Q Q Q Q hr t s=>(_,(oH (rp (qP LD (pv 2) Ap<|sA _) (oO<|pJ<|vI n ∅ qo<|ot (pv 0)<|ot (pv 1) oy) qa)<|oO<|pJ<|vI l ∅ qo<|ot (pv 0)<|ot (pv 1)<|ot (pv 2) oy),(ue (Et (ro<|qm J6 (oP 2) Au) (xw<|ox (oJ 0)<|ox (oJ 1) oK)<|uF qi)<|xw<|ox (oJ 0)<|ox (oJ 1)<|ox (oJ 2) oK))))
def GB:oU ["m","road","first","second","started"] ["m","road","first","second"]<|oI AZ:=sC
abbrev Jg(P w K mg base):=Lr P w K mg base 5 "with_road" AZ ["m","road","first","second"]<|vm K K21.rY
def Qe:X_<|Jg P w K mg base:=by have(_,_,D):=e_.a14;have(_,_,_,_,t):=e_.e5;have(_,_,l):=Us e_;have(_,_,s):=S8 e_;have(_,_,n):=OW e_;show(_,_,(D,FY D.F GB λQ Q Q Q Q Q hr x u=>(_,(oH (rp (qP NX (pv 1) (qJ n hr<|ot (pv 0) oy) rfl) (oO<|AH t.i.rf xP rfl<|TQ t.i ∅<|ot (pv 1) oy) qa)<|oH (qA (i:=4) GB<|vI l ∅ qo<|ot (pv 0)<|ot (pv 1)<|ot (pv 2) oy)<|oO<|pJ<|vI s ∅ qo<|ot (vI l ∅ qo<|ot (pv 4)<|ot (BV yS<|pv 1)<|ot (pv 3) oy) oy),(ue (Et (ro<|qm (OF f_) (oP 1)<|SK.rOf<|oX<|ox (oJ 0) oK) (Ib t.i.rf t.i.nf<|oN (oP 1) pI)<|uF qi)<|ue (wU (i:=4)<|ox (oJ 0)<|ox (oJ 1)<|ox (oJ 2) oK)<|acj<|ox (oJ 4)<|ox (SR.kSc<|Do zH<|oP 1)<|ox (oJ 3) oK))))
def Uo:oU ["turn","gone"] ["turn","gone"]<|oI EU:=sC
abbrev IK(P w K mg base):=Fn P w K mg base 1 "thinned" EU ["turn","gone"]<|qQ K K23.xO
def Te:X_<|IK P w K mg base:=by have(_,_,D):=e_.a15;show(_,_,Wq D Uo λQ Q Q Q Q Q hr n l=>(_,
   (oO<|pJ<|zW (N:=["end","gone"]) (fr:=[1]) rfl rfl (by trivial) rfl (by trivial) rfl (xr.of (by trivial) rfl rfl (by show(rfl,trivial)) (by repeat (first|show trivial|show((by first|show λQ=>(_,rfl)|show λh=>(by rcases h with h|h <;> cases h)),?_)))<|by show((rfl,rfl,rfl),trivial)) (vy<|pv 0) (λQ Q Q Q=>S4<|qP zR (pv 0) (pv 1) rfl)<|λQ Q Q Q=>(pv 0)),by infer_instance))
def JB:oU ["m","road"] ["m","road"]<|oI yx:=sC
abbrev D3(P w K mg base):=Lr P w K mg base 4 "without_road" yx ["m","road"]<|vm K K23.rW
def Jw:X_<|D3 P w K mg base:=by have(_,_,D):=e_.a16;have(_,_,_,_,t):=e_.e3;have(_,_,n):=S8 e_;have(_,_,l):=OW e_;have(_,_,s):=Te e_;show(_,_,(D,FY D.F JB λQ Q Q Q Q Q hr x u=>(_,(oH (rp (qP zR (pv 1) (qJ l hr<|ot (pv 0) oy) rfl) (oO<|AH t.i.rf xP rfl<|TQ t.i ∅<|ot (pv 1) oy) qa)<|oO<|pJ<|vI n ∅ qo<|ot (zW (N:=["turn","road"]) (fr:=[1]) rfl rfl (by trivial) rfl (by trivial) rfl (xr.of (by trivial) rfl rfl (by show(rfl,trivial)) (by repeat (first|show trivial|show((by first|show λQ=>(_,rfl)|show λh=>(by rcases h with h|h <;> cases h)),?_)))<|by show((rfl,rfl,rfl),trivial)) (vy<|pv 0) (λQ Q Q Q=>Bn)<|λQ Q Q Q=>(qJ s hr<|ot (pv 0)<|ot (uV<|ot (pv 1)<|ot (BV yS<|pv 1) oy) oy)) oy),(ue (Et (ro<|qm (OF t_) (oP 1)<|SK.rOf<|oX<|ox (oJ 0) oK) (Ib t.i.rf t.i.nf<|oN (oP 1) pI)<|uF qi)<|xw<|ox (AI (oJ 0) Gi<|oX<|ox (oJ 0)<|ox (vp<|ox (oJ 1)<|ox (SR.kSc<|Do zH<|oP 1) oK) oK) oK))))
def P7:oU ["turn","end"] ["turn","end"]<|oI A9:=sC
abbrev Ey(P w K mg base):=Fn P w K mg base 1 "end_ahead" A9 ["turn","end"]<|qQ K K26.zr
def O4:X_<|Ey P w K mg base:=by have(_,_,D):=e_.a17;have B:=e_.B;show(_,_,NV D P7<|by bv_omega)
def PP:oU ["m","end"] ["m","end"]<|oI A0:=sC
abbrev DZ(P w K mg base):=Fn P w K mg base 1 "turn_with" A0 ["m","end"]<|qQ K K26.zq
def Pg:X_<|DZ P w K mg base:=by have(_,_,D):=e_.a18;show(_,_,Wq D PP λQ Q Q Q Q Q hr n l=>(_,
   (oO<|pJ<|tS qT (zW (N:=["turn","end"]) (fr:=[1]) rfl rfl (by trivial) rfl (by trivial) rfl (xr.of (by trivial) rfl rfl (by show(rfl,trivial)) (by repeat (first|show trivial|show((by first|show λQ=>(_,rfl)|show λh=>(by rcases h with h|h <;> cases h)),?_)))<|by show((rfl,rfl,rfl),trivial)) (vy<|pv 0) (λQ Q Q Q=>S4<|qP NX (pv 1) (pv 0) rfl)<|λQ Q Q Q=>(pv 0)) oV<|λQ Q=>rfl),by infer_instance))
def Ln:oU ["m","road"] ["m","road"]<|oI zd:=sC
abbrev Fm(P w K mg base):=Fn P w K mg base 2 "first_ahead" zd ["m","road"]<|qQ K K26.wg
def KL:X_<|Fm P w K mg base:=by have(_,_,D):=e_.a19;have B:=e_.B;have(_,_,l):=O4 e_;have(_,_,s):=Te e_;have(_,_,n):=Pg e_;show(_,_,NV D Ln<|by bv_omega)
def JC:oU ["m","road"] ["m","road"]<|oI yu:=sC
abbrev ED(P w K mg base):=Fn P w K mg base 2 "second_ahead" yu ["m","road"]<|qQ K K26.vC
def Jx:X_<|ED P w K mg base:=by have(_,_,D):=e_.a20;have B:=e_.B;have(_,_,l):=O4 e_;have(_,_,n):=Pg e_;show(_,_,NV D JC<|by bv_omega)
def Mb:oU ["m"] ["m"]<|oI zY:=sC
abbrev GX(P w K mg base):=Lr P w K mg base 4 "with_place" zY ["m"]<|vm K K26.f_with_place
def Mf:X_<|GX P w K mg base:=by have(_,_,D):=e_.a21;have(_,_,l):=S8 e_;show(_,_,(D,FY D.F Mb λQ Q Q Q Q Q hr s n=>(_,(oO<|pJ<|vI l ∅ qo<|ot (rq DX (rm<|ot (rm oy) oy)<|pv 0) oy),(xw<|ox (FS (SK.lOf<|tI<|ox (tI oK) oK)<|Ir 0) oK))))
def B3:oU ["m","bare"] ["m"]<|oI xA:=sC
abbrev Dh(P w K mg base):=Lr P w K mg base 3 "without_place" xA ["m"]<|vm K K26.f_without_place
def IL:X_<|Dh P w K mg base:=by have(_,_,D):=e_.a22;have(_,_,s):=e_.e4;have(_,_,l):=Ij e_;show(_,_,(D,FY D.F B3 λQ Q Q Q Q Q hr x n=>(_,(oH (rp (qP (Nu n) (rm oy) (pv 0) rfl) (oO<|AH s.i.rf xP rfl<|PB s.i) qa)<|oH (qA (i:=1) B3<|vZ aj dm fk (Np n) (pv 0)<|ot (rm oy) oy)<|oO<|pJ<|qJ l hr<|ot (rq DX (wK zb (pv 0) Bf<|wD<|pv 1)<|wK zb (pv 0) (wD<|rq xf (pv 1) oV) Bf) oy),(ue (Et (ro<|ach t_<|oP 0) (Dd s.i.rf)<|uF qi)<|ue (uF<|qH (i:=1)<|SR.kSc<|Wr<|oP 0)<|uF<|qf<|oX<|ox (FS (SK.lOf<|Fw (xN 0) AW<|wG<|oP 1)<|SK.lOf<|Fw (xN 0) (wG<|qm Ia (oP 1) pO) AW) oK))))
def Sw:oU ["self","m"] ["self","m"]<|oI FA:=sC
def QI:X_<|zA P w K mg base 6 P_ "done" ["self","m"]<|vm K K21.pV:=by have(s,u,x,z):=e_.e6;have(_,_,F,mt,b):=e_.a23;have(_,_,l):=Qe e_;show(_,_,(s.cl,mt,b,FY F Sw λQ Q Q Q Q Q hr E t=>(_,
   (oO<|pJ<|vI l ∅ qo<|ot (pv 1)<|ot (tV (pv 0)<|by rfl)<|ot (tV (pv 0)<|by rfl)<|ot (tV (pv 0)<|by rfl) oy),
   (xw<|ox (oJ 1)<|ox (SR.kSc<|qR s u<|oP 0)<|ox (SR.kSc<|qR s x<|oP 0)<|ox (SR.kSc<|qR s z<|oP 0) oK))))
def Dr:oU ["change","m"] ["change","m"]<|oI vb:=sC
abbrev zl(P w K mg base):=Lr P w K mg base 7 "refuse_as_done" vb ["change","m"]<|vm K K22.tE
def Dt:X_<|zl P w K mg base:=by have(s,_,_,_):=e_.e6;have(_,_,D):=e_.a24;have(_,_,t):=QI e_;show(_,_,(D,FY D.F Dr λQ Q Q Q Q Q hr E n=>(_,(oO<|rA<|AA t ∅ qo (pv 0)<|ot (pv 1) oy),(yn<|pK s (oJ 0)<|ox (oJ 1) oK))))
def Q9:oU ["self","m"] ["self","m"]<|oI FK:=sC
def RS:X_<|zA P w K mg base 5 C_ "done" ["self","m"]<|vm K K23.qM:=by have(s,u):=e_.e7;have(_,_,F,mt,b):=e_.a25;have(_,_,l):=Jw e_;show(_,_,(s.cl,mt,b,FY F Q9 λQ Q Q Q Q Q hr x t=>(_,
   (oO<|pJ<|vI l ∅ qo<|ot (pv 1)<|ot (tV (pv 0)<|by rfl) oy),
   (xw<|ox (oJ 1)<|ox (SR.kSc<|qR s u<|oP 0) oK))))
def Ds:oU ["change","m"] ["change","m"]<|oI wI:=sC
abbrev zm(P w K mg base):=Lr P w K mg base 6 "refuse_as_done" wI ["change","m"]<|vm K K23.uA
def Dp:X_<|zm P w K mg base:=by have(s,_):=e_.e7;have(_,_,D):=e_.a24;have(_,_,t):=RS e_;show(_,_,(D,FY D.F Ds λQ Q Q Q Q Q hr x n=>(_,(oO<|rA<|AA t ∅ qo (pv 0)<|ot (pv 1) oy),(yn<|pK s (oJ 0)<|ox (oJ 1) oK))))
def Mh:oU ["self","m"] ["self","m"]<|oI B9:=sC
def Mq:X_<|zA P w K mg base 5 F_ "done" ["self","m"]<|vm K K26.ri:=by have t:=e_.e8;have(_,_,F,mt,b):=e_.a26;have(_,_,l):=Mf e_;show(_,_,(t.cl,mt,b,FY F Mh λQ Q Q Q Q Q hr u s=>(_,
   (oO<|pJ<|vI l ∅ qo<|ot (pv 1) oy),
   (xw<|ox (oJ 1) oK))))
def BW:oU ["change","m"] ["change","m"]<|oI vU:=sC
abbrev yj(P w K mg base):=Lr P w K mg base 6 "refuse_as_done" vU ["change","m"]<|vm K K26.uq
def Bw:X_<|yj P w K mg base:=by have s:=e_.e8;have(_,_,D):=e_.a24;have(_,_,t):=Mq e_;show(_,_,(D,FY D.F BW λQ Q Q Q Q Q hr u n=>(_,(oO<|rA<|AA t ∅ qo (pv 0)<|ot (pv 1) oy),(yn<|pK s (oJ 0)<|ox (oJ 1) oK))))
def PM:oU ["self","m"] ["self","m"]<|oI DY:=sC
def N8:X_<|zA P w K mg base 4 Z_ "done" ["self","m"]<|vm K K26.qW:=by have t:=e_.e9;have(_,_,F,mt,b):=e_.a27;have(_,_,l):=IL e_;show(_,_,(t.cl,mt,b,FY F PM λQ Q Q Q Q Q hr u s=>(_,
   (oO<|pJ<|vI l ∅ qo<|ot (pv 1) oy),
   (xw<|ox (oJ 1) oK))))
def CP:oU ["change","m"] ["change","m"]<|oI wx:=sC
abbrev yI(P w K mg base):=Lr P w K mg base 5 "refuse_as_done" wx ["change","m"]<|vm K K26.sU
def Co:X_<|yI P w K mg base:=by have s:=e_.e9;have(_,_,D):=e_.a24;have(_,_,t):=N8 e_;show(_,_,(D,FY D.F CP λQ Q Q Q Q Q hr u n=>(_,(oO<|rA<|AA t ∅ qo (pv 0)<|ot (pv 1) oy),(yn<|pK s (oJ 0)<|ox (oJ 1) oK))))
def Mg:oU ["self"] ["self"]<|oI Cm:=sC
def Mv:X_<|Bm P w K mg base 3 T_ "other" ["self"]<|qQ K K22.ti:=by have(z,_,_,_):=e_.e6;have(s,E,G,H):=e_.e10;have(_,_,F,mt,b):=e_.a28;have(_,_,I):=e_.e11;show(_,_,(s.cl,mt,b,YX F Mg λQ Q Q Q Q Q hr O t=>(_,
   (oO<|pJ<|yD I ∅<|ot (tV (pv 0)<|by rfl)<|ot (tV (pv 0)<|by rfl)<|ot (tV (pv 0)<|by rfl) oy),
   (qf<|yv z<|oN (qR s E<|oP 0)<|oN (qR s G<|oP 0)<|oN (qR s H<|oP 0) pI))))
def HF:oU ["change","m"] ["change","m"]<|oI wX:=sC
abbrev BG(P w K mg base):=Lr P w K mg base 7 "done_over" wX ["change","m"]<|vm K K22.uE
def Hm:X_<|BG P w K mg base:=by have(u,_,_,_):=e_.e6;have(x,_,_,_):=e_.e10;have(_,_,D):=e_.a29;have(_,_,l):=ab9 e_;have(_,_,z):=Mv e_;have(_,_,E):=QI e_;show(_,_,(D,FY D.F HF λQ Q Q Q Q Q hr O t=>(_,(oO<|pJ<|qJ l hr<|ot (AA E ∅ qo (yQ z ∅<|pv 0)<|ot (qJ l hr<|ot (pv 1) oy) oy) oy),(Rr<|pK u (oX<|pK x (oJ 0) oK)<|ox (oX<|ox (oJ 1) oK) oK))))
def MQ:oU ["self"] ["self"]<|oI CA:=sC
def Mn:X_<|Bm P w K mg base 3 D_ "other" ["self"]<|qQ K K25.tO:=by have(z,_):=e_.e7;have(s,E):=e_.e12;have(_,_,F,mt,b):=e_.a30;have(_,_,G):=e_.e13;show(_,_,(s.cl,mt,b,YX F MQ λQ Q Q Q Q Q hr I t=>(_,
   (oO<|pJ<|yD G ∅<|ot (tV (pv 0)<|by rfl) oy),
   (qf<|yv z<|oN (qR s E<|oP 0) pI))))
def Hy:oU ["change","m"] ["change","m"]<|oI yZ:=sC
abbrev B4(P w K mg base):=Lr P w K mg base 6 "done_over" yZ ["change","m"]<|vm K K25.xS
def Gz:X_<|B4 P w K mg base:=by have(u,_):=e_.e7;have(x,_):=e_.e12;have(_,_,D):=e_.a29;have(_,_,l):=ab9 e_;have(_,_,z):=Mn e_;have(_,_,E):=RS e_;show(_,_,(D,FY D.F Hy λQ Q Q Q Q Q hr I t=>(_,(oO<|pJ<|qJ l hr<|ot (AA E ∅ qo (yQ z ∅<|pv 0)<|ot (qJ l hr<|ot (pv 1) oy) oy) oy),(Rr<|pK u (oX<|pK x (oJ 0) oK)<|ox (oX<|ox (oJ 1) oK) oK))))
def Rh:oU ["self","m"] ["self","m"]<|oI FN:=sC
def Sr:X_<|zA P w K mg base 8 P_ "back" ["self","m"]<|vm K K22.qZ:=by have(t,E,_,_):=e_.e6;have(G,_):=e_.e7;have(_,_,F,mt,b):=e_.a31;have(_,_,l):=Dt e_;have(_,_,H):=e_.e13;show(_,_,(t.cl,mt,b,FY F Rh λQ Q Q Q Q Q hr M u=>(_,
   (oH (rA<|vI l ∅ qo<|ot (pv 0)<|ot (pv 1) oy)
   (oO<|pJ<|yD H ∅<|ot (tV (pv 0)<|by rfl) oy)),
   (ue (yn<|ox (oJ 0)<|ox (oJ 1) oK)
   (uF<|qf<|yv G<|oN (qR t E<|oP 0) pI)))))
def PX:oU ["self"] ["self"]<|oI DQ:=sC
def Oj:X_<|Bm P w K mg base 3 C_ "other" ["self"]<|qQ K K26.vd:=by have(s,z):=e_.e7;have(E,_):=e_.e12;have(_,_,F,mt,b):=e_.a32;have(_,_,G):=e_.e14;show(_,_,(s.cl,mt,b,YX F PX λQ Q Q Q Q Q hr I t=>(_,
   (oO<|pJ<|yD G ∅<|ot (tV (pv 0)<|by rfl) oy),
   (qf<|yv E<|oN (qR s z<|oP 0) pI))))
def Hi:oU ["change","m"] ["change","m"]<|oI wQ:=sC
abbrev BF(P w K mg base):=Lr P w K mg base 9 "back_over" wQ ["change","m"]<|vm K K26.uC
def Hn:X_<|BF P w K mg base:=by have(z,_,_,_):=e_.e6;have(E,_,_,_):=e_.e10;have(G,_):=e_.e7;have(_,_,D):=e_.a33;have(_,_,l):=ab9 e_;have(_,_,H):=Mv e_;have(_,_,I):=Sr e_;have(_,_,J):=Oj e_;show(_,_,(D,FY D.F Hi λQ Q Q Q Q Q hr Y x=>(_,(oO<|pJ<|yQ J ∅<|AA I ∅ qo (yQ H ∅<|pv 0)<|ot (qJ l hr<|ot (pv 1) oy) oy),(Qo G<|pK z (oX<|pK E (oJ 0) oK)<|ox (oX<|ox (oJ 1) oK) oK))))
def RZ:oU ["self","m"] ["self","m"]<|oI FL:=sC
def QO:X_<|zA P w K mg base 7 C_ "back" ["self","m"]<|vm K K26.rN:=by have(I,_,_,_):=e_.e6;have(x,z):=e_.e7;have(_,_,F,mt,b):=e_.a34;have(_,_,l):=Dp e_;have(_,_,s):=KL e_;have(_,_,n):=Jx e_;have(_,_,J):=e_.e11;show(_,_,(x.cl,mt,b,FY F RZ λZ Z Z Z Z Z hr Q E=>(_,
   (oH (rA<|vI l ∅ qo<|ot (pv 0)<|ot (pv 1) oy)
   (oO<|pJ<|yD J ∅<|ot (tV (pv 0)<|by rfl)<|ot (qJ s hr<|ot (pv 1)<|ot (tV (pv 0)<|by rfl) oy)<|ot (qJ n hr<|ot (pv 1)<|ot (tV (pv 0)<|by rfl) oy) oy)),
   (ue (yn<|ox (oJ 0)<|ox (oJ 1) oK)
   (uF<|qf<|yv I<|oN (qR x z<|oP 0)<|oN (SK.rOf<|oX<|ox (oJ 1)<|ox (SR.kSc<|qR x z<|oP 0) oK)<|oN (SK.rOf<|oX<|ox (oJ 1)<|ox (SR.kSc<|qR x z<|oP 0) oK) pI)))))
def PR:oU ["self"] ["self"]<|oI Dy:=sC
def Pr:X_<|Bm P w K mg base 3 P_ "other" ["self"]<|qQ K K26.ux:=by have(s,z,E,G):=e_.e6;have(H,_,_,_):=e_.e10;have(_,_,F,mt,b):=e_.a35;have(_,_,I):=e_.e15;show(_,_,(s.cl,mt,b,YX F PR λQ Q Q Q Q Q hr O t=>(_,
   (oO<|pJ<|yD I ∅<|ot (tV (pv 0)<|by rfl)<|ot (tV (pv 0)<|by rfl)<|ot (tV (pv 0)<|by rfl) oy),
   (qf<|yv H<|oN (qR s z<|oP 0)<|oN (qR s E<|oP 0)<|oN (qR s G<|oP 0) pI))))
def Hg:oU ["change","m"] ["change","m"]<|oI yW:=sC
abbrev Bx(P w K mg base):=Lr P w K mg base 8 "back_over" yW ["change","m"]<|vm K K26.uD
def HG:X_<|Bx P w K mg base:=by have(z,_,_,_):=e_.e6;have(E,_):=e_.e7;have(G,_):=e_.e12;have(_,_,D):=e_.a33;have(_,_,l):=ab9 e_;have(_,_,H):=Mn e_;have(_,_,I):=QO e_;have(_,_,J):=Pr e_;show(_,_,(D,FY D.F Hg λQ Q Q Q Q Q hr Y x=>(_,(oO<|pJ<|yQ J ∅<|AA I ∅ qo (yQ H ∅<|pv 0)<|ot (qJ l hr<|ot (pv 1) oy) oy),(Qo z<|pK E (oX<|pK G (oJ 0) oK)<|ox (oX<|ox (oJ 1) oK) oK))))
def O0:oU ["self","m"] ["self","m"]<|oI DG:=sC
def O8:X_<|zA P w K mg base 8 T_ "done" ["self","m"]<|vm K K22.sq:=by have(t,_,_,_):=e_.e10;have(_,_,F,mt,b):=e_.a36;have(_,_,l):=Hm e_;show(_,_,(t.cl,mt,b,FY F O0 λQ Q Q Q Q Q hr E s=>(_,
   (oO<|pJ<|vI l ∅ qo<|ot (pv 0)<|ot (pv 1) oy),
   (xw<|ox (oJ 0)<|ox (oJ 1) oK))))
def Pn:oU ["self","m"] ["self","m"]<|oI D8:=sC
def N9:X_<|zA P w K mg base 7 D_ "done" ["self","m"]<|vm K K25.rZ:=by have(t,_):=e_.e12;have(_,_,F,mt,b):=e_.a37;have(_,_,l):=Gz e_;show(_,_,(t.cl,mt,b,FY F Pn λQ Q Q Q Q Q hr x s=>(_,
   (oO<|pJ<|vI l ∅ qo<|ot (pv 0)<|ot (pv 1) oy),
   (xw<|ox (oJ 0)<|ox (oJ 1) oK))))
def AQ:oU ["m","changes","behind","change"] ["m","changes"]<|oI CS:=sC
abbrev Gp(P w K mg base):=Lr P w K mg base 9 "done_all" CS ["m","changes"]<|vm K K29.vn
def Rc:X_<|Gp P w K mg base:=by have(E,M,O,Q):=e_.e6;have(G,R,S,T):=e_.e10;have(H,U):=e_.e7;have(I,X):=e_.e12;have J:=e_.e8;have L:=e_.e9;have(_,_,D):=e_.a38;have B:=e_.B;have(_,_,Y):=QI e_;have(_,_,xE):=RS e_;have(_,_,DD):=O8 e_;have(_,_,DE):=N9 e_;have(_,_,yo):=Mq e_;have(_,_,zo):=N8 e_;show(_,_,(D,FY D.F AQ λZ Z Z Z Z Z hr hu z=>(_,(oH (JH (i:=2) (cl:=[]) (N:=["turn"]) (fr:=[]) rfl AQ.nd rfl (by trivial) rfl (by trivial) rfl (by trivial) rfl (xr.none<|by trivial) (vy<|pv 0) (λZ Z Z Z=>Bn)<|λZ Z Z Z=>(BK yk (by rfl) B.list bO<|ot (pv 0) oy))<|oH (Bp PassesOwn.leaving rfl (vy<|pv 1) (Df (i:=3) AQ)<|oO<|by (repeat' apply Py) <;> show qA (i:=2) AQ<|AA ‹_› ∅ qo (pv 3)<|ot (pv 2) oy)<|oO<|pJ<|pv 2),(ue (uF<|qH (i:=2)<|AI (oJ 0) Gi<|Pf<|xN 0)<|ue (VU (oJ 1)<|vQ (wU (i:=2)<|pK E (oJ 3)<|ox (oJ 2) oK)<|vQ (wU (i:=2)<|pK H (oJ 3)<|ox (oJ 2) oK)<|vQ (wU (i:=2)<|pK G (oJ 3)<|ox (oJ 2) oK)<|vQ (wU (i:=2)<|pK I (oJ 3)<|ox (oJ 2) oK)<|vQ (wU (i:=2)<|pK J (oJ 3)<|ox (oJ 2) oK)<|wU (i:=2)<|pK L (oJ 3)<|ox (oJ 2) oK)<|uF<|qf<|DK 2))))
def Oq:oU ["self","m"] ["self","m"]<|oI El:=sC
def OE:X_<|zA P w K mg base 10 T_ "back" ["self","m"]<|vm K K26.uy:=by have(u,_,_,_):=e_.e10;have(_,_,F,mt,b):=e_.a39;have(_,_,l):=Hn e_;show(_,_,(u.cl,mt,b,FY F Oq λQ Q Q Q Q Q hr I t=>(_,
   (oO<|pJ<|vI l ∅ qo<|ot (pv 0)<|ot (pv 1) oy),
   (xw<|ox (oJ 0)<|ox (oJ 1) oK))))
def Pq:oU ["self","m"] ["self","m"]<|oI Ei:=sC
def Ow:X_<|zA P w K mg base 9 D_ "back" ["self","m"]<|vm K K26.uu:=by have(u,_):=e_.e12;have(_,_,F,mt,b):=e_.a40;have(_,_,l):=HG e_;show(_,_,(u.cl,mt,b,FY F Pq λQ Q Q Q Q Q hr I t=>(_,
   (oO<|pJ<|vI l ∅ qo<|ot (pv 0)<|ot (pv 1) oy),
   (xw<|ox (oJ 0)<|ox (oJ 1) oK))))
def MR:oU ["self","m"] ["self","m"]<|oI B8:=sC
def L7:X_<|zA P w K mg base 7 F_ "back" ["self","m"]<|vm K K26.va:=by have u:=e_.e8;have x:=e_.e9;have(_,_,F,mt,b):=e_.a41;have(_,_,l):=Bw e_;have z:=e_.e16;show(_,_,(u.cl,mt,b,FY F MR λQ Q Q Q Q Q hr E t=>(_,
   (oH (rA<|vI l ∅ qo<|ot (pv 0)<|ot (pv 1) oy)
   (oO<|pJ<|Ip z)),
   (ue (yn<|ox (oJ 0)<|ox (oJ 1) oK)
   (uF<|qf<|Iz x)))))
def OM:oU ["self","m"] ["self","m"]<|oI Er:=sC
def P1:X_<|zA P w K mg base 6 Z_ "back" ["self","m"]<|vm K K26.uv:=by have u:=e_.e8;have x:=e_.e9;have(_,_,F,mt,b):=e_.a42;have(_,_,l):=Co e_;have z:=e_.e17;show(_,_,(x.cl,mt,b,FY F OM λQ Q Q Q Q Q hr E t=>(_,
   (oH (rA<|vI l ∅ qo<|ot (pv 0)<|ot (pv 1) oy)
   (oO<|pJ<|Ip z)),
   (ue (yn<|ox (oJ 0)<|ox (oJ 1) oK)
   (uF<|qf<|Iz u)))))
def zk:oU ["m","changes","backs","ahead","change"] ["m","changes"]<|oI Cf:=sC
abbrev K0(P w K mg base):=Lr P w K mg base 11 "back_all" Cf ["m","changes"]<|vm K K29.Ct
def Qv:X_<|K0 P w K mg base:=by have(z,S,T,U):=e_.e6;have(E,X,Y,qg):=e_.e10;have(G,qj):=e_.e7;have(H,qC):=e_.e12;have I:=e_.e8;have J:=e_.e9;have(_,_,D):=e_.a43;have B:=e_.B;have(_,_,xK):=QI e_;have(_,_,Lh):=Sr e_;have(_,_,xE):=RS e_;have(_,_,Ke):=QO e_;have(_,_,DD):=O8 e_;have(_,_,M):=OE e_;have(_,_,DE):=N9 e_;have(_,_,O):=Ow e_;have(_,_,yo):=Mq e_;have(_,_,Q):=L7 e_;have(_,_,zo):=N8 e_;have(_,_,R):=P1 e_;show(_,_,(D,FY D.F zk λZ Z Z Z Z Z hr hu L=>(_,(oH (qA (i:=2) zk<|rm oy)<|oH (qA (i:=3) zk<|pv 0)<|oH (Bp PassesOwn.leaving rfl (vy<|pv 1) (Df (i:=4) zk)<|oH (by (repeat' apply Py) <;> show rA<|vZ aj aF aG sQ (pv 2)<|ot (AA ‹_› ∅ qo (pv 4)<|ot (pv 3) oy) oy)<|oO<|by (repeat' apply Py) <;> show qA (i:=3) zk<|AA ‹_› ∅ qo (pv 4)<|ot (pv 3) oy)<|oO<|pJ<|agi rfl (by rfl) B.list (by rfl) B.reversed<|ot (pv 2) oy),(ue (uF<|qH (i:=2)<|tI oK)<|ue (uF<|qH (i:=3)<|oJ 0)<|ue (VU (oJ 1)<|ue (vQ (EL (i:=2)<|pK z (oJ 4)<|ox (oJ 3) oK)<|vQ (EL (i:=2)<|pK G (oJ 4)<|ox (oJ 3) oK)<|vQ (EL (i:=2)<|pK E (oJ 4)<|ox (oJ 3) oK)<|vQ (EL (i:=2)<|pK H (oJ 4)<|ox (oJ 3) oK)<|vQ (EL (i:=2)<|pK I (oJ 4)<|ox (oJ 3) oK)<|EL (i:=2)<|pK J (oJ 4)<|ox (oJ 3) oK)<|vQ (wU (i:=3)<|pK z (oJ 4)<|ox (oJ 3) oK)<|vQ (wU (i:=3)<|pK G (oJ 4)<|ox (oJ 3) oK)<|vQ (wU (i:=3)<|pK E (oJ 4)<|ox (oJ 3) oK)<|vQ (wU (i:=3)<|pK H (oJ 4)<|ox (oJ 3) oK)<|vQ (wU (i:=3)<|pK I (oJ 4)<|ox (oJ 3) oK)<|wU (i:=3)<|pK J (oJ 4)<|ox (oJ 3) oK)<|uF<|qf<|ad6<|xN 2))))
def Yf:oU ["_law_script","_law_k"] ["_law_script","_law_k"]<|oI GL:=sC
abbrev GR(P w K mg base):=Fn P w K mg base 1 "_law_cell" GL ["_law_script","_law_k"]<|qQ K Zl.ph
def Ya:X_<|GR P w K mg base:=by have(_,_,D):=e_.a44;have B:=e_.B;show(_,_,NV D Yf<|by bv_omega)
def xD:oU ["_law_script","_law_step","_law_shift","_law_stride","_law_off"] ["_law_script"]<|oI E5:=sC
abbrev NS(P w K mg base):=Fn P w K mg base 2 "_law_names" E5 ["_law_script"]<|qQ K K12.Ab
def Uj:X_<|NS P w K mg base:=by have(_,_,D):=e_.a45;have B:=e_.B;have(_,_,l):=Ya e_;show(_,_,Wq D xD λQ Q Q Q Q Q hr s n=>(_,
   (oH (qA (i:=1) xD oV)
   (oH (qA (i:=2) xD oV)
   (oH (rp (qP Rj (rq wt (qJ l hr<|ot (pv 0)<|ot oV oy) oV) oV<|sA _) (oH (qA (i:=1) xD<|rq xf oV<|rq wt (qJ l hr<|ot (pv 0)<|ot oV oy)<|rq Ll oV oV)<|oO<|qA (i:=2) xD<|rq wt (qJ l hr<|ot (pv 0)<|ot oV oy)<|rq Ll oV oV) qa)
   (oH (qA (i:=3) xD<|rq xf oV<|rq wt (rq Cs (qJ l hr<|ot (pv 0)<|ot oV oy) oV) oV)
   (oH (qA (i:=4) xD<|rq wt (rq Cs (qJ l hr<|ot (pv 0)<|ot oV oy) oV) oV)
   (oO<|pJ<|zW (N:=["_law_k","_law_shift","_law_step","_law_off","_law_stride"]) (fr:=[2,1,4,3]) rfl rfl (by trivial) rfl (by trivial) rfl (xr.of (by trivial) rfl rfl (by show(rfl,rfl,rfl,rfl,trivial)) (by repeat (first|show trivial|show((by first|show λQ=>(_,rfl)|show λh=>(by rcases h with h|h <;> cases h)),?_)))<|by show((rfl,rfl,rfl),(rfl,rfl,rfl),(rfl,rfl,rfl),(rfl,rfl,rfl),trivial)) (Ah (by rfl) B.range<|ot oV oy) (λQ Q Q Q=>Bn)<|λQ Q Q Q=>(rq xf (rq Uk (pv 2)<|rq xf (rq wt (rq xf (rq Uk (pv 4)<|pv 0)<|pv 3) oV) oV)<|pv 1))))))),by infer_instance))
def uc:oU ["_law_cells","_law_names_here","_law_parts_here","_law_trail","_law_left","_law_used","_law_cell_here","_law_way","_law_here","_law_end"] ["_law_cells","_law_names_here"]<|oI E4:=sC
abbrev NF(P w K mg base):=Fn P w K mg base 1 "_law_parts" E4 ["_law_cells","_law_names_here"]<|qQ K K12.BS
def US:X_<|NF P w K mg base:=by have(_,_,D):=e_.a46;have B:=e_.B;show(_,_,Wq D uc λQ Q Q Q Q Q hr n l=>(_,
   (oH (qA (i:=2) uc<|rm<|ot (rm<|ot (rm oy) oy) oy)
   (oH (qA (i:=3) uc<|rm<|ot oV oy)
   (oH (qA (i:=4) uc<|rm oy)
   (oH (qA (i:=5) uc oV)
   (oH (Bp PassesOwn.never rfl (vy<|pv 0) (Df (i:=6) uc)
    (oH (qA (i:=7) uc<|rq wt (pv 6) oV)<|oH (qA (i:=8) uc<|tS qT (tS qT (pv 2) (BV yS oV)<|λQ Q=>rfl) (tS qT (pv 3) (BV yS oV)<|λQ Q=>rfl)<|λQ Q=>rfl)<|oH (qA (i:=9) uc<|tS qT (pv 1) (pv 5)<|λQ Q=>rfl)<|oH (rp (qP op_eq (rq wt (rq Cs (pv 6) oV) oV) oV<|sA _) (oO<|qA (i:=9) uc<|BV yS<|pv 9) qa)<|oO<|rp (qP QL (pv 7) oV<|sA _) (oH (rA<|vZ aj aF aG sQ (pv 8)<|ot (pv 9) oy)<|oH (qA (i:=5) uc<|rq xf (pv 5) oV)<|oO<|rp (qP QL (pv 7) oV<|sA _) (oO<|rA<|vZ aj aF aG sQ (pv 4)<|ot (BV yS<|pv 9) oy)<|oH (rA<|vZ aj aF aG sQ (pv 3)<|ot (qK uM (by rfl) B.len PySem.boot_len<|ot (tS qT (pv 2) (BV yS oV)<|λQ Q=>rfl) oy) oy)<|oO<|rA<|vZ aj aF aG sQ (tS qT (pv 2) (BV yS oV)<|λQ Q=>rfl)<|ot (rm<|ot (BV yS<|pv 9) oy) oy)<|oO<|rp (qP QL (pv 7) oV<|sA _) (oO<|rp (KY (pv 4)<|λQ=>rfl) (oO<|rA<|vZ aj aF aG sQ (pv 8)<|ot (vZ aj fT fU RH (pv 4)<|ot (rq wt (rq Cs (pv 6) oV)<|qK uM (by rfl) B.len PySem.boot_len<|ot (pv 4) oy) oy) oy) qa)<|oO<|rp (qP op_eq (pv 7) oV<|sA _) (oO<|rp (qP Rj (qK uM (by rfl) B.len PySem.boot_len<|ot (pv 3) oy) oV<|sA _) (oO<|rA<|ai4 aj fT fU aiQ<|pv 3) qa)<|oH (rA<|vZ aj dW dX Fb (pv 8)<|ot (pv 4) oy)<|oH (qA (i:=4) uc<|rm oy)<|oH (rA<|vZ aj aF aG sQ (pv 2)<|ot (rm<|ot (rm oy) oy) oy)<|oO<|qA (i:=3) uc<|rm<|ot oV oy))
   (oH (rA<|vZ aj dW dX Fb (tS qT (tS qT (pv 2) (BV yS oV)<|λQ Q=>rfl) (tS qT (pv 3) (BV yS oV)<|λQ Q=>rfl)<|λQ Q=>rfl)<|ot (pv 4) oy)
   (oO<|pJ<|pv 2))))))),
   (pR (qH (i:=2)<|tI<|ox (tI<|ox (tI oK) oK) oK)
   (pR (qH (i:=3)<|tI<|ox (SR.kSc pO) oK)
   (pR (qH (i:=4)<|tI oK)
   (pR (qH (i:=5)<|SR.kSc pO)
   (pR (OG (oJ 0)<|pR (qH (i:=7)<|SR.kSc<|qm Gn (oP 6) pO)<|ait (LI (LI (Po 2)<|Do zH pO)<|qm B0 (oP 3)<|Do zH pO)<|aap (We (SR.kSc<|qm B0 (oP 1)<|oP 5) ⋯)<|aap (aj4 (ro<|qm ym (qm Gn (qm Tg (oP 6) pO) pO) pO) (We (SR.kSc<|Do zH<|oP 9) ⋯)<|ZN<|λQ Q Q h=>h)<|WH (ro<|qm Wx (oP 7) pO) (aal (ajN<|oJ 9)<|pR (qH (i:=5)<|SR.kSc<|qm Ia (oP 5) pO)<|tJ (ro<|qm Wx (oP 7) pO) (Bj (i:=4)<|SR.kSc<|Do zH<|oP 9)<|pR (Bj (i:=3)<|SR.kSc<|vA zB<|oN (qm B0 (oP 2)<|Do zH pO) pI)<|adJ (LI (Po 2)<|Do zH pO)<|tI<|ox (SR.kSc<|Do zH<|oP 9) oK)<|WH (ro<|qm Wx (oP 7) pO) (WH (Zt<|oP 4) (afR<|Qw (i:=4)<|qm Gn (qm Tg (oP 6) pO)<|vA zB<|oN (oP 4) pI)<|ag8 qi)<|WH (ro<|qm ym (oP 7) pO) (ag8<|tJ (ro<|qm Vf (vA zB<|oN (oP 3) pI) pO) (aah<|aga (i:=3)) qi)<|aal (aif<|Ir 4)<|pR (qH (i:=4)<|tI oK)<|pR (Bj (i:=2)<|tI<|ox (tI oK) oK)<|qH (i:=3)<|tI<|ox (SR.kSc pO) oK)
   (pR (agt (LI (LI (Po 2)<|Do zH pO)<|qm B0 (oP 3)<|Do zH pO)<|Ir 4)
   (qf<|DK 2)))))))))
def YJ:oU ["_law_turn_here","_law_k"] ["_law_turn_here"]<|oI Ho:=sC
abbrev Re(P w K mg base):=Fn P w K mg base 1 "_law_turn" Ho ["_law_turn_here"]<|qQ K K13.BM
def Yk:X_<|Re P w K mg base:=by have(_,_,D):=e_.a47;have B:=e_.B;show(_,_,NV D YJ<|by bv_omega)
def ab6:oU ["_law_turns"] ["_law_turns"]<|oI JZ:=sC
abbrev N7(P w K mg base):=Fn P w K mg base 2 "_law_map" JZ ["_law_turns"]<|qQ K K13.za
def Y1:X_<|N7 P w K mg base:=by have(_,_,D):=e_.a48;have B:=e_.B;have(_,_,l):=Yk e_;show(_,_,NV D ab6<|by bv_omega)
def abk:oU ["_law_parts_here","_law_turns","_law_part"] ["_law_parts_here"]<|oI JY:=sC
abbrev Pa(P w K mg base):=Fn P w K mg base 1 "_law_all" JY ["_law_parts_here"]<|qQ K Zl.rL
def Zr:X_<|Pa P w K mg base:=by have(_,_,D):=e_.a49;have B:=e_.B;show(_,_,NV D abk<|by bv_omega)
def Kl:oU ["_law_found","_law_due","_law_k"] ["_law_found","_law_due"]<|oI yU:=sC
def A6{fm:MF}{s:Nat}(u:1<=s){f:Addr}{fd:kz}(D:xC K mg "_law_alike" yU ["_law_found","_law_due"] f fd)(B:Bt mg)(l:mg "tuple" = n_)(n:Fn P w K mg base s "_law_alike" yU ["_law_found","_law_due"] (qQ K fm) f fd):Fn P w K mg base (s+1) "_law_alike" yU ["_law_found","_law_due"] (qQ K<|K13.sj fm) f fd:=Wq D Kl λQ Q Q Q Q Q hr x t=>(_,
   (oH (rp (PW.pt<|WA (uo<|qK (vN.or xt xp) (by rfl) B.isi aA<|ot (pv 1)<|ot (xX (v:=.ty "list") (by rfl) B.list bO rfl) oy)<|OJ<|uo<|qK (vN.or xt xp) (by rfl) B.isi aA<|ot (pv 1)<|ot (xX (v:=.ty "tuple") (by rfl) l fq rfl) oy) (oH (rp (PW.pt<|WA (qP V6 (qK (vN.or xt xp) (by rfl) B.isi aA<|ot (pv 0)<|ot (xX (v:=.ty "list") (by rfl) B.list bO rfl) oy) (qK (vN.or xt xp) (by rfl) B.isi aA<|ot (pv 1)<|ot (xX (v:=.ty "list") (by rfl) B.list bO rfl) oy)<|sA _)<|OJ<|qP V6 (qK (vN.or xt xp) (by rfl) B.isi aA<|ot (pv 0)<|ot (xX (v:=.ty "tuple") (by rfl) l fq rfl) oy) (qK (vN.or xt xp) (by rfl) B.isi aA<|ot (pv 1)<|ot (xX (v:=.ty "tuple") (by rfl) l fq rfl) oy)<|sA _) (oO<|pJ yH) qa) (oH (rp (qP V6 (qK uM (by rfl) B.len PySem.boot_len<|ot (pv 0) oy) (qK uM (by rfl) B.len PySem.boot_len<|ot (pv 1) oy)<|sA _) (oO<|pJ yH) qa) (oH (Bp PassesOwn.never rfl (Ah (by rfl) B.range<|ot (qK uM (by rfl) B.len PySem.boot_len<|ot (pv 1) oy) oy) (Df (i:=2) Kl)
    (oO<|rp (yB<|uo<|ahu n hr<|ot (tS (LZ.or qT vR) (pv 0) (pv 2)<|λQ Q=>rfl)<|ot (tS (LZ.or qT vR) (pv 1) (pv 2)<|λQ Q=>rfl) oy) (oO<|pJ yH) qa))<|oO<|pJ yH))) qa)
   (oH (rp (qP LD (pv 1) Ap<|sA _) (oO<|pJ<|JI LD (pv 0) Ap<|sA _) qa)
   (oH (rp (uo<|qK (vN.or xt xp) (by rfl) B.isi aA<|ot (pv 1)<|ot (xX (v:=.ty "str") (by rfl) B.str iM rfl) oy) (oO<|pJ<|Tv (qK (vN.or xt xp) (by rfl) B.isi aA<|ot (pv 0)<|ot (xX (v:=.ty "str") (by rfl) B.str iM rfl) oy)<|aax<|JI op_eq (pv 0) (pv 1)<|sA _) qa)
   (oO<|pJ<|Tv (qK (vN.or xt xp) (by rfl) B.isi aA<|ot (pv 0)<|ot (xX (v:=.ty "int") (by rfl) B.int jY rfl) oy)<|Tv (ajd<|qK (vN.or xt xp) (by rfl) B.isi aA<|ot (pv 0)<|ot (xX (v:=.ty "bool") (by rfl) B.bool jT rfl) oy)<|aax<|JI op_eq (pv 0) (pv 1)<|sA _)))),
   (pR (tJ (VQ (vO<|vA Bq<|oN (oP 1)<|oN EC pI)<|vO<|vA Bq<|oN (oP 1)<|oN EC pI) (pR (tJ (VQ (ro<|qm Wt (vA Bq<|oN (oP 0)<|oN EC pI)<|vA Bq<|oN (oP 1)<|oN EC pI)<|ro<|qm Wt (vA Bq<|oN (oP 0)<|oN EC pI)<|vA Bq<|oN (oP 1)<|oN EC pI) (qf<|SR.kSc zz) qi)<|pR (tJ (ro<|qm Wt (vA zB<|oN (oP 0) pI)<|vA zB<|oN (oP 1) pI) (qf<|SR.kSc zz) qi)<|pR (Lc (oN (vA zB<|oN (oP 1) pI) pI)<|tJ (yq<|vO<|ur<|oN (qm xG (oP 0)<|oP 2)<|oN (qm xG (oP 1)<|oP 2) pI) (qf<|SR.kSc zz) qi)<|qf<|SR.kSc zz) qi)
   (pR (tJ (ro<|qm J6 (oP 1) Au) (qf<|SR.kSc<|qm J6 (oP 0) Au) qi)
   (pR (tJ (vO<|vA Bq<|oN (oP 1)<|oN EC pI) (qf<|SR.kSc<|T2 (vA Bq<|oN (oP 0)<|oN EC pI)<|qm ym (oP 0)<|oP 1) qi)
   (qf<|SR.kSc<|T2 (vA Bq<|oN (oP 0)<|oN EC pI)<|T2 (aiL<|vA Bq<|oN (oP 0)<|oN EC pI)<|qm ym (oP 0)<|oP 1)))))
abbrev E8(P w K mg base):=Fn P w K mg base 5 "_law_alike" yU ["_law_found","_law_due"]<|qQ K K13.qb
def Ur:X_<|E8 P w K mg base:=by have(_,_,D):=e_.a50;have B:=e_.B;have l:=e_.e18;show(_,_,(A6 ⋯ D B l<|A6 ⋯ D B l<|A6 ⋯ D B l<|A6 ⋯ D B l<|aef (k:=1) D))
def TC:oU ["_law_m","_law_then","_law_turn_here","_law_k"] ["_law_m"]<|oI EY:=sC
abbrev M8(P w K mg base):=Fn P w K mg base 1 "_law_nexts" EY ["_law_m"]<|qQ K K15.E6
def UT:X_<|M8 P w K mg base:=by have(_,_,D):=e_.a51;have B:=e_.B;show(_,_,NV D TC<|by bv_omega)
def TF:oU ["_law_m","_law_then","_law_have","_law_found","_law_end","_law_gone","_law_now"] ["_law_m"]<|oI Fd:=sC
abbrev IQ(P w K mg base):=Fn P w K mg base 3 "_law_lands" Fd ["_law_m"]<|qQ K K15.rR
def TB:X_<|IQ P w K mg base:=by have(_,_,D):=e_.a52;have B:=e_.B;have(_,_,l):=UT e_;have(_,_,n):=Y1 e_;show(_,_,NV D TF<|by bv_omega)
def X6:oU ["_law_m"] ["_law_m"]<|oI Gx:=sC
abbrev Lq(P w K mg base):=Fn P w K mg base 1 "_law_copy" Gx ["_law_m"]<|qQ K K51.Ar
def XN:X_<|Lq P w K mg base:=by have(_,_,D):=e_.a53;have B:=e_.B;show(_,_,Wq D X6 λQ Q Q Q Q Q hr n l=>(_,
   (oO<|pJ<|zW (cl:=[]) (N:=["_law_turn_here"]) (fr:=[]) rfl rfl (by trivial) rfl (by trivial) rfl (xr.none<|by trivial) (vy<|pv 0) (λQ Q Q Q=>Bn)<|λQ Q Q Q=>(BK yk (by rfl) B.list bO<|ot (pv 0) oy)),by infer_instance))
def Na:oU ["_law_e","_law_kinds"] ["_law_e"]<|oI Hw:=sC
abbrev Ki(P w K mg base):=FnH P w K mg base 3 "_law_kind" Hw ["_law_e"]<|qQ K K23.vG
def Xx:X_<|Ki P w K mg base:=by have(_,_,D):=e_.a54;have B:=e_.B;have(FU,_,_,_,u):=e_.e3;have(VH,_,_,_,x):=e_.e5;have(n,_,z):=e_.e2;have(t,_,G):=e_.e4;have l:=e_.e19;show(_,_,(D,D.F.okH Na (λZ Z Z Z=>N6) λL A outer s H M Q E hr h=>(_,(oH (qA (i:=1) Na<|rm oy)<|oH (rp (yB<|uo<|qK Ef (by rfl) B.isi aA<|ot (pv 0)<|ot (xX (v:=.ty "ValueError") (by rfl) l afZ rfl) oy) (oO<|rA<|vZ aj aF aG sQ (pv 1)<|ot (uV<|ot tm<|ot oV oy) oy) qa)<|oH (rp (uo<|qK Ef (by rfl) B.isi aA<|ot (pv 0)<|ot (Cj (v:=.ref VH) (by rfl) (x.mgc) rfl) oy) (oO<|rA<|vZ aj aF aG sQ (pv 1)<|ot (uV<|ot tm<|ot (WD (pv 0) rfl) oy) oy) qa)<|oH (rp (uo<|qK Ef (by rfl) B.isi aA<|ot (pv 0)<|ot (Cj (v:=.ref FU) (by rfl) (u.mgc) rfl) oy) (oO<|rA<|vZ aj aF aG sQ (pv 1)<|ot (uV<|ot tm<|ot (WD (pv 0) rfl) oy) oy) qa)<|oH (rp (uo<|qK Ef (by rfl) B.isi aA<|ot (pv 0)<|ot (Cj (v:=.ref t) (by rfl) (G.mgc) rfl) oy) (oO<|rA<|vZ aj aF aG sQ (pv 1)<|ot (uV<|ot tm<|ot oV oy) oy) qa)<|oH (rp (uo<|qK Ef (by rfl) B.isi aA<|ot (pv 0)<|ot (Cj (v:=.ref n) (by rfl) (z.mgc) rfl) oy) (oO<|rA<|vZ aj aF aG sQ (pv 1)<|ot (uV<|ot tm<|ot oV oy) oy) qa)<|oO<|pJ<|pv 1),GY _ (K:=K) (pR (qH (i:=1)<|tI oK)<|pR (tJ (yq<|vO<|vA KR<|oN (oP 0)<|oN EC pI) (Bj (i:=1)<|vp<|ox (SR.kSc tN)<|ox (SR.kSc pO) oK) qi)<|pR (tJ (vO<|vA KR<|oN (oP 0)<|oN (OY x.c) pI) (Bj (i:=1)<|vp<|ox (SR.kSc tN)<|ox (SR.kSc<|Vy<|oP 0) oK) qi)<|pR (tJ (vO<|vA KR<|oN (oP 0)<|oN (OY u.c) pI) (Bj (i:=1)<|vp<|ox (SR.kSc tN)<|ox (SR.kSc<|Vy<|oP 0) oK) qi)<|pR (tJ (vO<|vA KR<|oN (oP 0)<|oN (OY G.c) pI) (Bj (i:=1)<|vp<|ox (SR.kSc tN)<|ox (SR.kSc pO) oK) qi)<|pR (tJ (vO<|vA KR<|oN (oP 0)<|oN (OY z.c) pI) (Bj (i:=1)<|vp<|ox (SR.kSc tN)<|ox (SR.kSc pO) oK) qi)<|qf<|DK 1) h)))
def Aa:oU ["_law_change","_law_m","_law_told","_law_found","_law_e"] ["_law_change","_law_m"]<|oI G2:=sC
abbrev Kr(P w K mg base):=Fn P w K mg base 9 "_law_done" G2 ["_law_change","_law_m"]<|qQ K K26.xu
def YH:X_<|Kr P w K mg base:=by have(J,S,T,U):=e_.e6;have(L,X,Y,qg):=e_.e10;have(M,qj):=e_.e7;have(O,qC):=e_.e12;have Q:=e_.e8;have R:=e_.e9;have(_,_,D):=e_.a55;have B:=e_.B;have(_,_,l):=e_.e20;have(_,_,I):=Xx e_;have(_,_,xK):=QI e_;have(_,_,xE):=RS e_;have(_,_,DD):=O8 e_;have(_,_,DE):=N9 e_;have(_,_,yo):=Mq e_;have(_,_,zo):=N8 e_;show(_,_,Wq D Aa λZ Z Z Z Z Z hr hu E=>(_,
   (oH (qA (i:=2) Aa Ap)
   (oH (qA (i:=3) Aa Ap)
   (oH (by (repeat' apply Py) <;> show VS<|adQ (i:=3) ‹_› ∅ (pv 0) (ot (pv 1) oy) (aa1 (i:=4) l.xc l.base l.mgc Aa.nd rfl rfl (λZ=>(oO<|qA (i:=2) Aa<|UK I ((hr.h _).mono ⋯)<|ot (pv 4) oy)) TZ) Aa.nd rfl<|by trivial)
   (oH (rp (qP LD (pv 2) Ap<|sA _) (oO<|pJ<|rm<|ot tm<|ot (pv 3) oy) qa)
   (oO<|pJ<|rm<|ot tm<|ot (pv 2) oy))))),
   (pR (qH (i:=2)<|SR.kSc Au)
   (pR (qH (i:=3)<|SR.kSc Au)
   (pR (KP (A2 (pK J (oJ 0)<|ox (oJ 1) oK)<|Jq l.c (qH (i:=2)<|oX<|ox (oJ 4) oK) D5)<|KP (A2 (pK M (oJ 0)<|ox (oJ 1) oK)<|Jq l.c (qH (i:=2)<|oX<|ox (oJ 4) oK) D5)<|KP (A2 (pK L (oJ 0)<|ox (oJ 1) oK)<|Jq l.c (qH (i:=2)<|oX<|ox (oJ 4) oK) D5)<|KP (A2 (pK O (oJ 0)<|ox (oJ 1) oK)<|Jq l.c (qH (i:=2)<|oX<|ox (oJ 4) oK) D5)<|KP (A2 (pK Q (oJ 0)<|ox (oJ 1) oK)<|Jq l.c (qH (i:=2)<|oX<|ox (oJ 4) oK) D5)<|A2 (pK R (oJ 0)<|ox (oJ 1) oK)<|Jq l.c (qH (i:=2)<|oX<|ox (oJ 4) oK) D5)
   (pR (tJ (ro<|qm J6 (oP 2) Au) (qf<|tI<|ox (SR.kSc tN)<|ox (DK 3) oK) qi)
   (qf<|tI<|ox (SR.kSc tN)<|ox (DK 2) oK)))))))
def S6:oU ["_law_cell_here","_law_m","_law_fresh","_law_free","_law_ends","_law_mix","_law_beyond","_law_way","_law_roads","_law_some","_law_first","_law_second"] ["_law_cell_here","_law_m","_law_fresh","_law_free"]<|oI EX:=sC
abbrev M9(P w K mg base):=Fn P w K mg base 2 "_law_words" EX ["_law_cell_here","_law_m","_law_fresh","_law_free"]<|qQ K K26.BH
def Um:X_<|M9 P w K mg base:=by have(_,_,D):=e_.a56;have B:=e_.B;have(_,_,l):=Zr e_;show(_,_,NV D S6<|by bv_omega)
def Yd:oU ["_law_words_here"] ["_law_words_here"]<|oI GT:=sC
abbrev Rg(P w K mg base):=Fn P w K mg base 3 "_law_made" GT ["_law_words_here"]<|qQ K K26.AG
def Yu:X_<|Rg P w K mg base:=by have(Q,_,_,_):=e_.e6;have(R,_,_,_):=e_.e10;have(S,_):=e_.e7;have(T,_):=e_.e12;have U:=e_.e8;have X:=e_.e9;have(_,_,D):=e_.a57;have(_,_,Y):=e_.e11;have(_,_,Cr):=e_.e15;have(_,_,Dm):=e_.e13;have(_,_,C7):=e_.e14;have zQ:=e_.e17;have Ce:=e_.e16;show(_,_,Wq D Yd λZ Z Z Z Z Z hr hu z=>(_,
   (oH (rp (qP op_eq (tS (LZ.or qT vR) (pv 0) oV<|λZ Z=>rfl) tm<|sA _) (oO<|pJ<|yD Y ∅<|ot (tS (LZ.or qT vR) (pv 0) oV<|λZ Z=>rfl)<|ot (tS (LZ.or qT vR) (pv 0) oV<|λZ Z=>rfl)<|ot (tS (LZ.or qT vR) (pv 0) oV<|λZ Z=>rfl) oy) qa)
   (oH (rp (qP op_eq (tS (LZ.or qT vR) (pv 0) oV<|λZ Z=>rfl) tm<|sA _) (oO<|pJ<|yD Cr ∅<|ot (tS (LZ.or qT vR) (pv 0) oV<|λZ Z=>rfl)<|ot (tS (LZ.or qT vR) (pv 0) oV<|λZ Z=>rfl)<|ot (tS (LZ.or qT vR) (pv 0) oV<|λZ Z=>rfl) oy) qa)
   (oH (rp (qP op_eq (tS (LZ.or qT vR) (pv 0) oV<|λZ Z=>rfl) tm<|sA _) (oO<|pJ<|yD Dm ∅<|ot (tS (LZ.or qT vR) (pv 0) oV<|λZ Z=>rfl) oy) qa)
   (oH (rp (qP op_eq (tS (LZ.or qT vR) (pv 0) oV<|λZ Z=>rfl) tm<|sA _) (oO<|pJ<|yD C7 ∅<|ot (tS (LZ.or qT vR) (pv 0) oV<|λZ Z=>rfl) oy) qa)
   (oH (rp (qP op_eq (tS (LZ.or qT vR) (pv 0) oV<|λZ Z=>rfl) tm<|sA _) (oO<|pJ<|Ip zQ) qa)
   (oO<|pJ<|Ip Ce)))))),
   (pR (tJ (ro<|qm ym (qm xG (oP 0) pO) tN) (qf<|yv Q<|oN (qm xG (oP 0) pO)<|oN (qm xG (oP 0) pO)<|oN (qm xG (oP 0) pO) pI) qi)
   (pR (tJ (ro<|qm ym (qm xG (oP 0) pO) tN) (qf<|yv R<|oN (qm xG (oP 0) pO)<|oN (qm xG (oP 0) pO)<|oN (qm xG (oP 0) pO) pI) qi)
   (pR (tJ (ro<|qm ym (qm xG (oP 0) pO) tN) (qf<|yv S<|oN (qm xG (oP 0) pO) pI) qi)
   (pR (tJ (ro<|qm ym (qm xG (oP 0) pO) tN) (qf<|yv T<|oN (qm xG (oP 0) pO) pI) qi)
   (pR (tJ (ro<|qm ym (qm xG (oP 0) pO) tN) (qf<|Iz U) qi)
   (qf<|Iz X))))))))
def vi:oU ["_law_m","_law_changes","_law_back","_law_told","_law_found","_law_e"] ["_law_m","_law_changes","_law_back"]<|oI CT:=sC
abbrev Kz(P w K mg base):=Fn P w K mg base 12 "_law_listed" CT ["_law_m","_law_changes","_law_back"]<|qQ K K29.yN
def RC:X_<|Kz P w K mg base:=by have(_,_,D):=e_.a58;have(_,_,s):=e_.e20;have(_,_,l):=Qv e_;have(_,_,n):=Rc e_;have(_,_,t):=Xx e_;show(_,_,Wq D vi λQ Q Q Q Q Q hr E u=>(_,
   (oH (qA (i:=3) vi Ap)
   (oH (qA (i:=4) vi Ap)
   (oH (VS<|al8 (uo<|pv 2) (Z4 (i:=4) l ∅ (ot (pv 0)<|ot (pv 1) oy) (aa1 (i:=5) s.xc s.base s.mgc vi.nd rfl rfl (λQ=>(oO<|qA (i:=3) vi<|UK t ((hr.h _).mono ⋯)<|ot (pv 5) oy)) TZ) vi.nd rfl<|by trivial)<|Z4 (i:=4) n ∅ (ot (pv 0)<|ot (pv 1) oy) (aa1 (i:=5) s.xc s.base s.mgc vi.nd rfl rfl (λQ=>(oO<|qA (i:=3) vi<|UK t ((hr.h _).mono ⋯)<|ot (pv 5) oy)) TZ) vi.nd rfl<|by trivial)
   (oH (rp (qP LD (pv 3) Ap<|sA _) (oO<|pJ<|rm<|ot tm<|ot (pv 4) oy) qa)
   (oO<|pJ<|rm<|ot tm<|ot (pv 3) oy))))),
   (pR (qH (i:=3)<|SR.kSc Au)
   (pR (qH (i:=4)<|SR.kSc Au)
   (pR (tJ (vO<|oP 2) (A2 (ox (oJ 0)<|ox (oJ 1) oK)<|Jq s.c (qH (i:=3)<|oX<|ox (oJ 5) oK) D5)<|A2 (ox (oJ 0)<|ox (oJ 1) oK)<|Jq s.c (qH (i:=3)<|oX<|ox (oJ 5) oK) D5)
   (pR (tJ (ro<|qm J6 (oP 3) Au) (qf<|tI<|ox (SR.kSc tN)<|ox (DK 4) oK) qi)
   (qf<|tI<|ox (SR.kSc tN)<|ox (DK 3) oK)))))))
def QC:oU ["_law_cell_here","_law_road","_law_way"] ["_law_cell_here","_law_road"]<|oI JE:=sC
abbrev V2(P w K mg base):=Fn P w K mg base 3 "_law_bad" JE ["_law_cell_here","_law_road"]<|qQ K K29.zU
def abg:X_<|V2 P w K mg base:=by have(M,_,_,_):=e_.e6;have(O,_,_,_):=e_.e10;have(Q,_):=e_.e7;have(R,_):=e_.e12;have(_,_,D):=e_.a59;have(_,_,S):=e_.e11;have(_,_,T):=e_.e15;have(_,_,U):=e_.e13;have(_,_,X):=e_.e14;show(_,_,Wq D QC λZ Z Z Z Z Z hr hu u=>(_,
   (oH (qA (i:=2) QC<|rq wt (pv 0) oV)
   (oH (rp (qP op_eq (pv 2) oV<|sA _) (oO<|pJ<|uV<|ot (yD U ∅<|ot (pv 1) oy)<|ot (uV<|ot tm<|ot (pv 1) oy) oy) qa)
   (oH (rp (qP op_eq (pv 2) oV<|sA _) (oO<|pJ<|uV<|ot (yD X ∅<|ot (pv 1) oy)<|ot (uV<|ot tm<|ot (pv 1) oy) oy) qa)
   (oH (rp (qP op_eq (pv 2) oV<|sA _) (oO<|pJ<|uV<|ot (yD S ∅<|ot (pv 1)<|ot oV<|ot Ap oy)<|ot (uV<|ot tm<|ot oV oy) oy) qa)
   (oO<|pJ<|uV<|ot (yD T ∅<|ot (pv 1)<|ot oV<|ot (pv 1) oy)<|ot (uV<|ot tm<|ot oV oy) oy))))),
   (pR (qH (i:=2)<|SR.kSc<|qm Gn (oP 0) pO)
   (pR (tJ (ro<|qm ym (oP 2) pO) (qf<|vp<|ox (yv Q<|oN (oP 1) pI)<|ox (vp<|ox (SR.kSc tN)<|ox (oJ 1) oK) oK) qi)
   (pR (tJ (ro<|qm ym (oP 2) pO) (qf<|vp<|ox (yv R<|oN (oP 1) pI)<|ox (vp<|ox (SR.kSc tN)<|ox (oJ 1) oK) oK) qi)
   (pR (tJ (ro<|qm ym (oP 2) pO) (qf<|vp<|ox (yv M<|oN (oP 1)<|oN pO<|oN Au pI)<|ox (vp<|ox (SR.kSc tN)<|ox (SR.kSc pO) oK) oK) qi)
   (qf<|vp<|ox (yv O<|oN (oP 1)<|oN pO<|oN (oP 1) pI)<|ox (vp<|ox (SR.kSc tN)<|ox (SR.kSc pO) oK) oK)))))))
def UH:oU ["_law_words_here","_law_pairs"] ["_law_words_here"]<|oI EH:=sC
abbrev MZ(P w K mg base):=Fn P w K mg base 1 "_law_other" EH ["_law_words_here"]<|qQ K K29.Ad
def T5:X_<|MZ P w K mg base:=by have(_,_,D):=e_.a60;have B:=e_.B;show(_,_,NV D UH<|by bv_omega)
def Sj:oU ["self"] ["self"]<|oI Gh:=sC
def Sd:X_<|Bm P w K mg base 1 P_ "told" ["self"]<|qQ K K21.uN:=by have(n,t,u,x):=e_.e6;have(_,_,F,mt,b):=e_.a61;show(_,_,(n.cl,mt,b,YX F Sj λQ Q Q Q Q Q hr z s=>(_,
   (oO<|pJ<|uV<|ot tm<|ot (tV (pv 0)<|by rfl)<|ot (tV (pv 0)<|by rfl)<|ot (tV (pv 0)<|by rfl) oy),
   (qf<|vp<|ox (SR.kSc tN)<|ox (SR.kSc<|qR n t<|oP 0)<|ox (SR.kSc<|qR n u<|oP 0)<|ox (SR.kSc<|qR n x<|oP 0) oK))))
def Sm:oU ["self"] ["self"]<|oI Gc:=sC
def Rz:X_<|Bm P w K mg base 1 C_ "told" ["self"]<|qQ K K22.uO:=by have(n,t):=e_.e7;have(_,_,F,mt,b):=e_.a62;show(_,_,(n.cl,mt,b,YX F Sm λQ Q Q Q Q Q hr u s=>(_,
   (oO<|pJ<|uV<|ot tm<|ot (tV (pv 0)<|by rfl) oy),
   (qf<|vp<|ox (SR.kSc tN)<|ox (SR.kSc<|qR n t<|oP 0) oK))))
def O7:oU ["self"] ["self"]<|oI Ee:=sC
def O6:X_<|Bm P w K mg base 1 T_ "told" ["self"]<|qQ K K26.uj:=by have(n,t,u,x):=e_.e10;have(_,_,F,mt,b):=e_.a63;show(_,_,(n.cl,mt,b,YX F O7 λQ Q Q Q Q Q hr z s=>(_,
   (oO<|pJ<|uV<|ot tm<|ot (tV (pv 0)<|by rfl)<|ot (tV (pv 0)<|by rfl)<|ot (tV (pv 0)<|by rfl) oy),
   (qf<|vp<|ox (SR.kSc tN)<|ox (SR.kSc<|qR n t<|oP 0)<|ox (SR.kSc<|qR n u<|oP 0)<|ox (SR.kSc<|qR n x<|oP 0) oK))))
def Qg:oU ["self"] ["self"]<|oI DC:=sC
def OR:X_<|Bm P w K mg base 1 D_ "told" ["self"]<|qQ K K25.uf:=by have(n,t):=e_.e12;have(_,_,F,mt,b):=e_.a64;show(_,_,(n.cl,mt,b,YX F Qg λQ Q Q Q Q Q hr u s=>(_,
   (oO<|pJ<|uV<|ot tm<|ot (tV (pv 0)<|by rfl) oy),
   (qf<|vp<|ox (SR.kSc tN)<|ox (SR.kSc<|qR n t<|oP 0) oK))))
def Kh:oU ["self"] ["self"]<|oI Bo:=sC
def LA:X_<|Bm P w K mg base 3 F_ "other" ["self"]<|qQ K K29.wj:=by have n:=e_.e8;have(_,_,F,mt,b):=e_.a65;have t:=e_.e17;show(_,_,(n.cl,mt,b,YX F Kh λQ Q Q Q Q Q hr u s=>(_,
   (oO<|pJ<|Ip t),
   (qf<|Iz n))))
def MV:oU ["self"] ["self"]<|oI Ci:=sC
def Mu:X_<|Bm P w K mg base 1 F_ "told" ["self"]<|qQ K K26.tM:=by have s:=e_.e8;have(_,_,F,mt,b):=e_.a66;show(_,_,(s.cl,mt,b,YX F MV λQ Q Q Q Q Q hr t n=>(_,
   (oO<|pJ<|uV<|ot tm oy),
   (qf<|vp<|ox (SR.kSc tN) oK))))
def Mx:oU ["self"] ["self"]<|oI CD:=sC
def Me:X_<|Bm P w K mg base 3 Z_ "other" ["self"]<|qQ K K29.wV:=by have n:=e_.e9;have(_,_,F,mt,b):=e_.a67;have t:=e_.e16;show(_,_,(n.cl,mt,b,YX F Mx λQ Q Q Q Q Q hr u s=>(_,
   (oO<|pJ<|Ip t),
   (qf<|Iz n))))
def ON:oU ["self"] ["self"]<|oI EG:=sC
def Ou:X_<|Bm P w K mg base 1 Z_ "told" ["self"]<|qQ K K26.ug:=by have s:=e_.e9;have(_,_,F,mt,b):=e_.a68;show(_,_,(s.cl,mt,b,YX F ON λQ Q Q Q Q Q hr t n=>(_,
   (oO<|pJ<|uV<|ot tm oy),
   (qf<|vp<|ox (SR.kSc tN) oK))))
def Bb:oU ["_law_change","_law_words_here","_law_now","_law_found","_law_far","_law_due"] ["_law_change","_law_words_here","_law_now","_law_found"]<|oI C0:=sC
abbrev KG(P w K mg base):=Fn P w K mg base 10 "_law_across" C0 ["_law_change","_law_words_here","_law_now","_law_found"]<|qQ K K29.Cg
def RW:X_<|KG P w K mg base:=by have(t,S,qp,qe):=e_.e6;have(x,T,qu,qg):=e_.e10;have(G,U):=e_.e7;have(H,X):=e_.e12;have M:=e_.e8;have O:=e_.e9;have(_,_,D):=e_.a69;have B:=e_.B;have(_,_,L):=Ur e_;have(_,_,K3):=YH e_;have(_,_,R):=TB e_;have(_,_,XT):=T5 e_;have Za:=e_.e21;have ac5:=e_.e22;have Q:=e_.e23;have abf:=e_.e24;have ac9:=e_.e25;have VR:=e_.e26;have abF:=e_.e27;have VX:=e_.e28;have aby:=e_.e29;have Q5:=e_.e30;have YW:=e_.e31;have Vx:=e_.e32;have Zh:=e_.e33;have(_,_,D6):=Pr e_;have(_,_,Tt):=Sd e_;have(_,_,xK):=QI e_;have(_,_,DS):=Oj e_;have(_,_,Uz):=Rz e_;have(_,_,xE):=RS e_;have(_,_,yi):=Mv e_;have(_,_,QD):=O6 e_;have(_,_,DD):=O8 e_;have(_,_,ya):=Mn e_;have(_,_,QB):=OR e_;have(_,_,DE):=N9 e_;have(_,_,Ma):=LA e_;have(_,_,Ox):=Mu e_;have(_,_,yo):=Mq e_;have(_,_,Os):=Me e_;have(_,_,Qq):=Ou e_;have(_,_,zo):=N8 e_;show(_,_,Wq D Bb λZ Z Z Z Z Z hr hu Y=>(_,
   (oH (qA (i:=4) Bb<|by (repeat' apply Ao) <;> show yQ ‹_› ∅<|pv 0)
   (oH (rp (PW.pt<|WA (yB<|uo<|by (repeat' apply Ao) <;> show qK (acg (qr.cl ‹_›) ‹_› ‹_› adu) (by rfl) B.isi aA<|ot (pv 4)<|ot (Cj (v:=.ref G_) (by rfl) Q rfl) oy)<|OJ<|yB<|uo<|qJ L hr<|ot (by (repeat' apply Ao) <;> show yQ ‹_› ∅<|pv 4)<|ot (qJ XT hr<|ot (pv 1) oy) oy) (oO<|pJ yH) qa)
   (oH (rp (yB<|uo<|qJ L hr<|ot (by (repeat' apply Ao) <;> show yQ ‹_› ∅<|yQ ‹_› ∅<|pv 4)<|ot (pv 1) oy) (oO<|pJ yH) qa)
   (oH (rp (PW.pt<|ZQ (qP op_eq (qK uM (by rfl) B.len PySem.boot_len<|ot (pv 1) oy) oV<|sA _)<|WC<|yB<|uo<|qJ L hr<|ot (rm<|ot (by (repeat' apply Ao) <;> show tV (pv 4)<|by rfl)<|ot (by (repeat' apply Ao) <;> show tV (pv 4)<|by rfl)<|ot (by (repeat' apply Ao) <;> show tV (pv 4)<|by rfl) oy)<|ot (BK yk (by rfl) B.list bO<|ot (wK aa4 (pv 1) (wD oV) Bf) oy) oy) (oO<|pJ yH) qa)
   (oH (rp (PW.pt<|ZQ (qP op_eq (qK uM (by rfl) B.len PySem.boot_len<|ot (pv 1) oy) oV<|sA _)<|WC<|yB<|uo<|qJ L hr<|ot (by (repeat' apply Ao) <;> show tV (pv 4)<|by rfl)<|ot (tS vR (pv 1) oV<|λZ Z=>rfl) oy) (oO<|pJ yH) qa)
   (oH (qA (i:=5) Bb<|pv 3)
   (oH (rp (qP op_eq (tS qT (pv 3) oV<|λZ Z=>rfl) tm<|sA _) (oO<|qA (i:=5) Bb<|rm<|ot tm<|ot (qJ R hr<|ot (tS qT (pv 3) oV<|λZ Z=>rfl) oy) oy) qa)
   (oO<|pJ<|qJ L hr<|ot (qJ K3 hr<|ot (pv 4)<|ot (qJ R hr<|ot (pv 2) oy) oy)<|ot (pv 5) oy)))))))),
   (pR (qH (i:=4)<|vE (oX<|pK t (oJ 0) oK)<|vE (oX<|pK G (oJ 0) oK)<|vE (oX<|pK x (oJ 0) oK)<|vE (oX<|pK H (oJ 0) oK)<|vE (oX<|pK M (oJ 0) oK)<|oX<|pK O (oJ 0) oK)
   (pR (tJ (VQ (yq<|vO<|uL (IA (w:=.ref G_) (u:=.ref G_) t rfl<|oP 4)<|uL (IA (w:=.ref G_) (u:=.ref G_) G rfl<|oP 4)<|uL (IA (w:=.ref G_) (u:=.ref G_) x rfl<|oP 4)<|uL (IA (w:=.ref G_) (u:=.ref G_) H rfl<|oP 4)<|uL (IA (w:=.ref G_) (u:=.ref G_) M rfl<|oP 4)<|IA (w:=.ref G_) (u:=.ref G_) O rfl<|oP 4)<|yq<|vO<|ur<|oN (uL (SK.rOf<|oX<|pK t (oJ 4) oK)<|uL (SK.rOf<|oX<|pK G (oJ 4) oK)<|uL (SK.rOf<|oX<|pK x (oJ 4) oK)<|uL (SK.rOf<|oX<|pK H (oJ 4) oK)<|uL (SK.rOf<|oX<|pK M (oJ 4) oK)<|SK.rOf<|oX<|pK O (oJ 4) oK)<|oN (SK.rOf<|oX<|ox (oJ 1) oK) pI) (qf<|SR.kSc zz) qi)
   (pR (tJ (yq<|vO<|ur<|oN (uL (SK.rOf<|oX<|pK x (oX<|pK t (oJ 4) oK) oK)<|uL (SK.rOf<|oX<|pK H (oX<|pK G (oJ 4) oK) oK)<|uL (SK.rOf<|oX<|pK t (oX<|pK x (oJ 4) oK) oK)<|uL (SK.rOf<|oX<|pK G (oX<|pK H (oJ 4) oK) oK)<|uL (SK.rOf<|oX<|pK M (oX<|pK M (oJ 4) oK) oK)<|SK.rOf<|oX<|pK O (oX<|pK O (oJ 4) oK) oK)<|oN (oP 1) pI) (qf<|SR.kSc zz) qi)
   (pR (tJ (aar (ro<|qm ym (vA zB<|oN (oP 1) pI) pO)<|yq<|vO<|ur<|oN (SK.rOf<|tI<|ox (SR.kSc<|uL (qR t S<|oP 4)<|uL (qR G U<|oP 4)<|uL (qR x T<|oP 4)<|qR H X<|oP 4)<|ox (SR.kSc<|uL (qR t qp<|oP 4)<|qR x qu<|oP 4)<|ox (SR.kSc<|uL (qR t qe<|oP 4)<|qR x qg<|oP 4) oK)<|oN (SK.rOf<|abz<|ab3 (oJ 1) (wG pO) AW) pI) (qf<|SR.kSc zz) qi)
   (pR (tJ (aar (ro<|qm ym (vA zB<|oN (oP 1) pI) pO)<|yq<|vO<|ur<|oN (uL (qR t S<|oP 4)<|uL (qR G U<|oP 4)<|uL (qR x T<|oP 4)<|qR H X<|oP 4)<|oN (qm UQ (oP 1) pO) pI) (qf<|SR.kSc zz) qi)
   (pR (qH (i:=5)<|oJ 3)
   (pR (tJ (ro<|qm ym (qm B0 (oP 3) pO) tN) (qH (i:=5)<|tI<|ox (SR.kSc tN)<|ox (oX<|ox (aay (xN 3) pO) oK) oK) qi)
   (qf<|SR.kSc<|ur<|oN (SK.rOf<|oX<|ox (oJ 4)<|ox (oX<|ox (oJ 2) oK) oK)<|oN (oP 5) pI))))))))))
def zX:oU ["_law_m","_law_changes","_law_at","_law_bad_here","_law_some","_law_words_here","_law_back"] ["_law_m","_law_changes","_law_at","_law_bad_here"]<|oI A7:=sC
abbrev Jo(P w K mg base):=Fn P w K mg base 13 "_law_refused" A7 ["_law_m","_law_changes","_law_at","_law_bad_here"]<|qQ K K29.xT
def Pj:X_<|Jo P w K mg base:=by have(E,R,S,T):=e_.e6;have(G,U,X,Y):=e_.e10;have(H,qj):=e_.e7;have(I,qC):=e_.e12;have J:=e_.e8;have L:=e_.e9;have(_,_,D):=e_.a70;have B:=e_.B;have(_,_,z):=Ur e_;have(_,_,O):=RC e_;have(_,_,Q):=XN e_;have(_,_,Tt):=Sd e_;have(_,_,Uz):=Rz e_;have(_,_,QD):=O6 e_;have(_,_,QB):=OR e_;have(_,_,Ox):=Mu e_;have(_,_,Qq):=Ou e_;show(_,_,Wq D zX λZ Z Z Z Z Z hr hu M=>(_,
   (oH (qA (i:=4) zX<|rq DX (rq DX (wK zb (pv 1) Bf<|wD<|pv 2)<|rm<|ot (tS vR (pv 3) oV<|λZ Z=>rfl) oy)<|wK zb (pv 1) (wD<|pv 2) Bf)
   (oH (JH (i:=5) (cl:=[]) (N:=["_law_change"]) (fr:=[]) rfl zX.nd rfl (by trivial) rfl (by trivial) rfl (by trivial) rfl (xr.none<|by trivial) (vy<|pv 4) (λZ Z Z Z=>Bn)<|λZ Z Z Z=>(by (repeat' apply Ao) <;> show yQ ‹_› ∅<|pv 0))
   (oH (Bp PassesOwn.never rfl (vy<|rm<|ot yH<|ot yH oy) (Df (i:=6) zX)
    (oH (rp (yB<|uo<|qJ z hr<|ot (qJ O hr<|ot (qJ Q hr<|ot (pv 0) oy)<|ot (pv 4)<|ot (pv 6) oy)<|ot (rm<|ot tm<|ot (rm<|ot (tS vR (pv 3) oV<|λZ Z=>rfl) oy) oy) oy) (oO<|pJ yH) qa)<|oO<|rp (yB<|uo<|qJ z hr<|ot (zW (cl:=[]) (N:=["_law_change"]) (fr:=[]) rfl rfl (by trivial) rfl (by trivial) rfl (xr.none<|by trivial) (vy<|pv 4) (λZ Z Z Z=>Bn)<|λZ Z Z Z=>(by (repeat' apply Ao) <;> show yQ ‹_› ∅<|pv 0))<|ot (pv 5) oy) (oO<|pJ yH) qa))
   (oO<|pJ yH)))),
   (pR (qH (i:=4)<|FS (SK.lOf<|FS (SK.lOf<|Fw (xN 1) AW<|wG<|oP 2)<|SK.lOf<|tI<|ox (aa2 (oJ 3) pO) oK)<|SK.lOf<|Fw (xN 1) (wG<|oP 2) AW)
   (pR (qH (i:=5)<|AI (oJ 4) Gi<|vE (oX<|pK E (oJ 0) oK)<|vE (oX<|pK H (oJ 0) oK)<|vE (oX<|pK G (oJ 0) oK)<|vE (oX<|pK I (oJ 0) oK)<|vE (oX<|pK J (oJ 0) oK)<|oX<|pK L (oJ 0) oK)
   (pR (OG (tI<|ox (SR.kSc zz)<|ox (SR.kSc zz) oK)<|pR (tJ (yq<|vO<|ur<|oN (SK.rOf<|oX<|ox (oX<|ox (oJ 0) oK)<|ox (oJ 4)<|ox (oJ 6) oK)<|oN (SK.rOf<|tI<|ox (SR.kSc tN)<|ox (tI<|ox (aa2 (oJ 3) pO) oK) oK) pI) (qf<|SR.kSc zz) qi)<|tJ (yq<|vO<|ur<|oN (SK.rOf<|AI (oJ 4) Gi<|vE (oX<|pK E (oJ 0) oK)<|vE (oX<|pK H (oJ 0) oK)<|vE (oX<|pK G (oJ 0) oK)<|vE (oX<|pK I (oJ 0) oK)<|vE (oX<|pK J (oJ 0) oK)<|oX<|pK L (oJ 0) oK)<|oN (oP 5) pI) (qf<|SR.kSc zz) qi)
   (qf<|SR.kSc zz))))))
def sY:oU ["_law_script","_law_many","_law_name","_law_cell_here","_law_ends","_law_k","_law_left","_law_follow","_law_end","_law_turns","_law_met","_law_turn_here","_law_names_here"] ["_law_script"]<|oI JM:=sC
abbrev Va(P w K mg base):=Fn P w K mg base 2 "_law_any" JM ["_law_script"]<|qQ K K16.G6
def Zz:X_<|Va P w K mg base:=by have(_,_,D):=e_.a71;have B:=e_.B;have(_,_,l):=Ya e_;show(_,_,Wq D sY λQ Q Q Q Q Q hr s n=>(_,
   (oH (qA (i:=1) sY<|rq wt (qJ l hr<|ot (pv 0)<|ot oV oy) oV)
   (oH (qA (i:=2) sY oV)
   (oH (qA (i:=3) sY<|qJ l hr<|ot (pv 0)<|ot oV oy)
   (oH (qA (i:=4) sY<|rm oy)
   (oH (Bp PassesOwn.never rfl (Ah (by rfl) B.range<|ot (pv 1) oy) (Df (i:=5) sY)
    (oH (qA (i:=2) sY<|rq xf (rq xf (pv 2) oV)<|rq wt (pv 3)<|rq Ll oV oV)<|oH (qA (i:=3) sY<|rq abR (pv 3)<|rq Ll oV oV)<|oO<|rA<|vZ aj dW dX Fb (pv 4)<|ot (rm<|ot (pv 2)<|ot (BV yS<|pv 2) oy) oy))
   (oH (qA (i:=6) sY<|BK yk (by rfl) B.list bO<|ot (pv 4) oy)
   (oH (qA (i:=3) sY<|qJ l hr<|ot (pv 0)<|ot oV oy)
   (oH (qA (i:=7) sY LM)
   (oH (Bp PassesOwn.never rfl (vy<|pv 4) (Df (i:=8) sY)
    (oH (OL (M3 hr) (pv 7) (pv 8) (vZ aj fT fU RH (pv 6)<|ot (rq wt (pv 3)<|qK uM (by rfl) B.len PySem.boot_len<|ot (pv 6) oy) oy) rfl)<|oO<|qA (i:=3) sY<|rq Cs (pv 3)<|rq xf (qK uM (by rfl) B.len PySem.boot_len<|ot (pv 6) oy) oV))
   (oH (qA (i:=9) sY<|rm oy)
   (oH (qA (i:=10) sY LM)
   (oH (Bp PassesOwn.never rfl (vy<|pv 4) (Df (i:=8) sY)
    (oH (qA (i:=11) sY<|rm oy)<|oH (KB PassesOwn.never (Tu<|II (M3 hr) (pv 8)<|pv 10)<|oH (OL (M3 hr) (pv 10) (pv 8) yH rfl)<|oH (rA<|vZ aj aF aG sQ (pv 11)<|ot (pv 8) oy)<|oO<|qA (i:=8) sY<|VJ (M3 hr) (pv 7) (pv 8)<|by first|rfl|show trivial|(intro _ _;rfl))<|oO<|rp (KY (pv 11)<|λQ=>rfl) (oO<|rA<|vZ aj aF aG sQ (pv 9)<|ot (pv 11) oy) qa))
   (oH (qA (i:=12) sY<|rm oy)
   (oH (qA (i:=2) sY<|rq xf oV<|rq wt (qJ l hr<|ot (pv 0)<|ot oV oy)<|rq Ll oV oV)
   (oH (KB PassesOwn.never (qP QL (qK uM (by rfl) B.len PySem.boot_len<|ot (pv 12) oy) oV<|sA _)<|oH (rp (Tu<|II (M3 hr) (pv 2)<|pv 10) (oO<|rA<|vZ aj aF aG sQ (pv 12)<|ot (pv 2) oy) qa)<|oO<|qA (i:=2) sY<|rq xf (pv 2) oV)
   (oO<|pJ<|uV<|ot (rq DX (pv 9)<|zW (cl:=[]) (N:=["_law_k"]) (fr:=[]) rfl rfl (by trivial) rfl (by trivial) rfl (xr.none<|by trivial) (Ah (by rfl) B.range<|ot (rq wt (rq Cs (qJ l hr<|ot (pv 0)<|ot oV oy) oV) oV) oy) (λQ Q Q Q=>Bn)<|λQ Q Q Q=>(rm oy))<|ot (pv 12) oy)))))))))))))))),by infer_instance))
def vH:oU ["_law_script","_law_names_here","_law_m","_law_free","_law_turns","_law_now","_law_changes","_law_cells","_law_k","_law_words_here","_law_change","_law_found","_law_far","_law_handed","_law_spots"] ["_law_script"]<|oI Fu:=sC
abbrev al6(P w K mg base):=Fn P w K mg base 14 "law" Fu ["_law_script"]<|qQ K K29.U6
def aj1(D:xC K mg "law" Fu ["_law_script"] f fd):al6 P w K mg base f fd:=by have(pQ,qw,qp,qe):=e_.e6;have(pE,qB,qu,qg):=e_.e10;have(pY,qj):=e_.e7;have(pP,qC):=e_.e12;have pX:=e_.e8;have qh:=e_.e9;have B:=e_.B;have(_,_,Q):=Uj e_;have(_,_,J):=Y1 e_;have(_,_,L):=XN e_;have(_,_,R):=Pj e_;have(_,_,S):=Zr e_;have(_,_,z):=Zz e_;have(_,_,T):=Um e_;have(_,_,U):=Yu e_;have(_,_,X):=YH e_;have(_,_,E):=Ur e_;have(_,_,t):=Ya e_;have(_,_,G):=abg e_;have(_,_,Y):=US e_;have(_,_,UU):=RW e_;have(_,_,l):=Rc e_;have(_,_,M):=TB e_;have(_,_,D6):=Pr e_;have(_,_,DS):=Oj e_;have(_,_,yi):=Mv e_;have(_,_,ya):=Mn e_;have(_,_,Ma):=LA e_;have(_,_,Os):=Me e_;show Wq D vH λZ Z Z Z Z Z hr hu O=>(_,
   (oH (qA (i:=1) vH<|qJ Q hr<|ot (pv 0) oy)
   (oH (qA (i:=2) vH<|qJ J hr<|ot (qJ S hr<|ot (qJ Y hr<|ot (wK zb (pv 0) (wD oV)<|wD oV)<|ot (pv 1) oy) oy) oy)
   (oH (qA (i:=3) vH<|JI op_eq (rq wt (qJ t hr<|ot (pv 0)<|ot oV oy) oV) oV<|sA _)
   (oH (rp (uo<|pv 3) (oH (ahC (qJ z hr<|ot (pv 0) oy)<|Zs rfl<|LR (Df (i:=4) vH)<|LR (Df (i:=1) vH) Wz)<|oO<|qA (i:=2) vH<|qJ J hr<|ot (pv 4) oy) qa)
   (oH (qA (i:=5) vH<|pv 2)
   (oH (qA (i:=6) vH<|rm oy)
   (oH (qA (i:=7) vH<|wK zb (pv 0) (wD oV)<|wD oV)
   (oH (rp (uo<|pv 3) (oO<|qA (i:=7) vH<|wK zb (pv 0) (wD oV)<|wD oV) qa)
   (oH (Bp PassesOwn.never rfl (Ah (by rfl) B.range<|ot (qK uM (by rfl) B.len PySem.boot_len<|ot (pv 7) oy) oy) (Df (i:=8) vH)
    (oH (qA (i:=9) vH<|qJ T hr<|ot (tS qT (pv 7) (pv 8)<|λZ Z=>rfl)<|ot (pv 5)<|ot (tS qT (pv 1) (rq xf oV<|pv 8)<|λZ Z=>rfl)<|ot (pv 3) oy)<|oH (qA (i:=10) vH<|qJ U hr<|ot (pv 9) oy)<|oH (qA (i:=11) vH<|qJ X hr<|ot (pv 10)<|ot (qJ L hr<|ot (pv 5) oy) oy)<|oH (rp (yB<|uo<|qJ UU hr<|ot (pv 10)<|ot (pv 9)<|ot (pv 5)<|ot (pv 11) oy) (oO<|pJ yH) qa)<|oO<|rp (qP op_eq (tS qT (pv 11) oV<|λZ Z=>rfl) tm<|sA _) (oH (rA<|vZ aj aF aG sQ (pv 6)<|ot (pv 10) oy)<|oO<|qA (i:=5) vH<|tS qT (pv 11) oV<|λZ Z=>rfl) qa))
   (oH (JH (i:=12) (cl:=[]) (N:=["_law_change"]) (fr:=[]) rfl vH.nd rfl (by trivial) rfl (by trivial) rfl (by trivial) rfl (xr.none<|by trivial) (vy<|pv 6) (λZ Z Z Z=>Bn)<|λZ Z Z Z=>(by (repeat' apply Ao) <;> show yQ ‹_› ∅<|pv 0))
   (oH (rp (yB<|uo<|qJ E hr<|ot (abu l ∅<|ot (qJ M hr<|ot (pv 2) oy)<|ot (pv 12) oy)<|ot (qJ M hr<|ot (pv 5) oy) oy) (oO<|pJ yH) qa)
   (oH (qA (i:=13) vH<|qJ L hr<|ot (pv 2) oy)
   (oH (rp (PW.pt<|WA (yB<|uo<|qJ E hr<|ot (abu l ∅<|ot (pv 13)<|ot (BK yk (by rfl) B.list bO<|ot (pv 6) oy) oy)<|ot (pv 5) oy)<|OJ<|yB<|uo<|qJ E hr<|ot (pv 13)<|ot (pv 2) oy) (oO<|pJ yH) qa)
   (oH (qA (i:=14) vH<|rm<|ot (qJ t hr<|ot (pv 0)<|ot oV oy)<|ot (qJ t hr<|ot (pv 0)<|ot oV oy) oy)
   (oH (rp (uo<|pv 3) (oO<|qA (i:=14) vH<|rm<|ot (qJ t hr<|ot (pv 0)<|ot oV oy)<|ot (qJ t hr<|ot (pv 0)<|ot oV oy) oy) qa)
   (oO<|pJ<|qJ R hr<|ot (pv 2)<|ot (pv 6)<|ot (rq wt (tS qT (pv 14) oV<|λZ Z=>rfl)<|rq xf (qK uM (by rfl) B.len PySem.boot_len<|ot (pv 6) oy) oV)<|ot (qJ G hr<|ot (tS qT (pv 14) oV<|λZ Z=>rfl)<|ot (tS qT (pv 1) oV<|λZ Z=>rfl) oy) oy)))))))))))))))),
   (pR (qH (i:=1)<|oX<|ox (oJ 0) oK)
   (pR (qH (i:=2)<|oX<|ox (oX<|ox (oX<|ox (Fw (xN 0) (wG pO)<|wG pO)<|ox (oJ 1) oK) oK) oK)
   (pR (qH (i:=3)<|SR.kSc<|qm ym (qm Gn (ur<|oN (oP 0)<|oN pO pI) pO) pO)
   (pR (tJ (vO<|oP 3) (pR (afL [4,1]<|oX<|ox (oJ 0) oK)<|qH (i:=2)<|oX<|ox (oJ 4) oK) qi)
   (pR (qH (i:=5)<|oJ 2)
   (pR (qH (i:=6)<|tI oK)
   (pR (qH (i:=7)<|Fw (xN 0) (wG pO)<|wG pO)
   (pR (tJ (vO<|oP 3) (qH (i:=7)<|Fw (xN 0) (wG pO)<|wG pO) qi)
   (pR (Lc (oN (vA zB<|oN (oP 7) pI) pI)<|pR (qH (i:=9)<|oX<|ox (SR.kSc<|qm B0 (oP 7)<|oP 8)<|ox (oJ 5)<|ox (SR.kSc<|qm B0 (oP 1)<|qm Ia pO<|oP 8)<|ox (oJ 3) oK)<|pR (qH (i:=10)<|oX<|ox (oJ 9) oK)<|pR (qH (i:=11)<|oX<|ox (oJ 10)<|ox (oX<|ox (oJ 5) oK) oK)<|pR (tJ (yq<|vO<|ur<|oN (oP 10)<|oN (oP 9)<|oN (oP 5)<|oN (oP 11) pI) (qf<|SR.kSc zz) qi)<|tJ (ro<|qm ym (qm B0 (oP 11) pO) tN) (pR (Bj (i:=6)<|oJ 10)<|qH (i:=5)<|aay (xN 11) pO) qi)
   (pR (qH (i:=12)<|AI (oJ 6) Gi<|vE (oX<|pK pQ (oJ 0) oK)<|vE (oX<|pK pY (oJ 0) oK)<|vE (oX<|pK pE (oJ 0) oK)<|vE (oX<|pK pP (oJ 0) oK)<|vE (oX<|pK pX (oJ 0) oK)<|oX<|pK qh (oJ 0) oK)
   (pR (tJ (yq<|vO<|ur<|oN (SK.rOf<|oX<|ox (oX<|ox (oJ 2) oK)<|ox (oJ 12) oK)<|oN (SK.rOf<|oX<|ox (oJ 5) oK) pI) (qf<|SR.kSc zz) qi)
   (pR (qH (i:=13)<|oX<|ox (oJ 2) oK)
   (pR (tJ (VQ (yq<|vO<|ur<|oN (SK.rOf<|oX<|ox (oJ 13)<|ox (Pf<|xN 6) oK)<|oN (oP 5) pI)<|yq<|vO<|ur<|oN (oP 13)<|oN (oP 2) pI) (qf<|SR.kSc zz) qi)
   (pR (qH (i:=14)<|tI<|ox (SR.kSc<|ur<|oN (oP 0)<|oN pO pI)<|ox (SR.kSc<|ur<|oN (oP 0)<|oN pO pI) oK)
   (pR (tJ (vO<|oP 3) (qH (i:=14)<|tI<|ox (SR.kSc<|ur<|oN (oP 0)<|oN pO pI)<|ox (SR.kSc<|ur<|oN (oP 0)<|oN pO pI) oK) qi)
   (qf<|SR.kSc<|ur<|oN (oP 2)<|oN (oP 6)<|oN (qm Gn (qm B0 (oP 14) pO)<|qm Ia (vA zB<|oN (oP 6) pI) pO)<|oN (SK.rOf<|oX<|ox (SR.kSc<|qm B0 (oP 14) pO)<|ox (SR.kSc<|qm B0 (oP 1) pO) oK) pI)))))))))))))))))
end
end K29
namespace K13
open PySem L2 Mr Z Xe Zl
def plain:Nat->D->Prop
 |0,_=>False
 |_+1,.int _=>True
 |_+1,.str _=>True
 |n+1,.list ds=>ds.length<1000000/\∀d∈ds,plain n d
 |n+1,.tup ds=>ds.length<1000000/\∀d∈ds,plain n d
 |_+1,_=>False
def xW:Nat->MF
 |0=>Zj
 |n+1=>sj<|xW n
def Cn(t:x = .list ds∨x = .tup ds)(hd:∀d∈ds,fm [d,d]=i6 t_):∃v,vw 2 (yl fm) (sV 0 ds.length) [bj<|.sh x,bj<|.sh x,n_]=bj (.nx [bj<|.sh x,bj<|.sh x,v]):=by
 have key:=Ai (x:=2) (body:=yl fm) (λQ S=>∃v,S=[bj<|.sh x,bj<|.sh x,v]) (ds:=sV 0 ds.length) (S:=[bj<|.sh x,bj<|.sh x,n_]) (n_,rfl) (by
  rintro i d S l ⟨v,rfl⟩;have hi:i<ds.length:=by
   have:=(gSq.mp l).1;rwa [uJ]at this
  rw[Gf hi]at l;cases l;have n:atI ds (0+(i:Int))=bj ds[i]:=by
   rw[PQ<|by rfl'];have:(0+(i:Int)).toNat=i:=by rfl'
   rw[this];show gEg hi
  have s:=hd ds[i]<|gRq hi;show([bj<|.sh x,bj<|.sh x,i3<|0+(i:Int)],?_,_,rfl);rcases t with rfl|rfl;.simp! [yl,n,s]
  .simp! [yl,n,s]);have(u,e,v,rfl):=key;show(v,e)
def Wu b:dNe (.bl b) (.bl b)=bj (.bl f_):=by cases b <;> rfl
theorem alike_refl:∀n d,plain n d->xW n [d,d]=i6 t_
 |0,_,h=>h.elim
 |n+1,d,h=>by change sj (xW n) [d,d]=_;cases d with
  |int i=>simp! [sj,vo,eq_self,Ky]
  |str x=>simp! [sj,vo,eq_self,KC]
  |list s=>
   have(v,e):=Cn (fm:=xW n) (x:=.list s) (.inl rfl) λd hd=>alike_refl n d<|h.2 d hd;have l:=zT (n:=s.length) h.1;simp! [sj,vo,eq_self,Wu,decide_true,fS,l,e]
  |tup s=>
   have(v,e):=Cn (fm:=xW n) (x:=.tup s) (.inr rfl) λd hd=>alike_refl n d<|h.2 d hd;have l:=zT (n:=s.length) h.1;simp! [sj,vo,eq_self,Wu,decide_true,fS,l,e]
  |_=>show h.elim
def agm(hl:ns.length<=500000):BM [dI ns]=bj (aI<|good ns):=by cases ns with
 |nil=>
  simp! [BM,Ik,Mz];rfl
 |cons n ns=>
  have(t,u):=NW;have e:=D1 t u;have l:=Kx<|n::ns;have hm:WO [dI<|n::ns]=bj (.int<|ns.foldl min n):=by
   change(vt<|(n::ns).map D.int).bind (λns=>(P6 ns).map D.int)=_;rw[vV];rfl
  have x:C1 (dI<|n::ns) [.int<|ns.foldl min n]=bj (.int<|sD (n::ns) (n::ns).length):=by
   change(vt<|(n::ns).map D.int).bind _=_;rw[vV];change(if _ then _ else _)=_;rw[qF t,e]
  have ht:Mz (dI<|n::ns)=bj t_:=rfl;generalize z:n::ns=N at *;have s:(N.drop<|sD N N.length).length+(N.take<|sD N N.length).length<=tL:=by rw[au,lTq];change _<=16777216;lia
  simp! [BM,Ik,ht,hm,x,zp,ES N _ l,yO N _ l,s,←mBq,Hv];rfl
def turn_comp{rs:Λ}(hl:∀r∈rs,r.length<=500000):ui uS (pd BM<|oz (oR 0) oS) [] (rs.map dI)=bj ((rs.map good).map aI):=by
 rw[Z.ye λd=>aI<|good<|Fg d]
 .rw[GP λr=>aI<|good r,mPq];rfl
 .intro d hd;have(r,hr,rfl):=D9 hd;show([bj<|.sh<|dI r],?_);simp! [agm<|hl r hr,yg]
def UF(hl:∀r∈rs,r.length<=500000)(l:rs.length<=tL):za [dM rs]=bj (.ow<|(AO<|rs.map good).map aI):=by simp! [za,Qs,turn_comp hl,l]
noncomputable def dL(ms:List Λ):D:=.list<|ms.map dM
def T8{ms:List Λ}{i:Nat}(h:ms[i]?=bj m):(ms.take<|i+1).flatten=(ms.take i).flatten++m:=by rw[dR,h,fAq];simp
def aaZ(ms:List Λ)i:(ms.take i).flatten.length<=ms.flatten.length:=by have:=congrArg cH<|congrArg jS<|aZ i ms;rw[fAq,lAq]at this;lia
def ady{ms:List Λ}{i:Nat}(h:(ms.map dM)[i]?=bj d):∃m,ms[i]?=bj m/\d=dM m:=by rw[gMq]at h;have(r,l,n):=oMq.mp h;show(r,l,n.symm)
def oM(rs:Λ):AV:=.ow<|rs.map λr=>.sh<|dI r
def abd rs:pA (oM rs)=dM rs:=by unfold oM;rw[vY,Ot]
def WT(hb:body=Uu 1 (Em 2))(hl:ms.flatten.length<=500000):∃v,vw 2 body (ms.map dM) [bj<|.sh<|dL ms,bj<|.ow [],n_]=bj (.nx [bj<|.sh<|dL ms,bj<|oM ms.flatten,v]):=by
 subst hb;have key:=Ai (x:=2) (body:=Uu 1<|Em 2) (λi S=>∃v,S=[bj<|.sh<|dL ms,bj<|oM (ms.take i).flatten,v]) (ds:=ms.map dM) (S:=[bj<|.sh<|dL ms,bj<|.ow [],n_]) (n_,by rfl) (by
  rintro i d S hd ⟨v,rfl⟩;have(m,hm,rfl):=ady hd;have l:=T8 hm;have n:=aaZ ms<|i+1;rw[l,lAq]at n;have s:(ms.take i).flatten.length+m.length<=tL:=tY ∅;show([bj<|.sh<|dL ms,bj<|oM<|(ms.take i).flatten++m,bj<|.sh<|dM m],?_,bj<|.sh<|dM m,by rw[l]);simp! [oM,s,Vn,←mBq]);have(t,e,v,rfl):=key;rw[lMq,bw]at e;show(v,e)
def ah9(hl:ms.flatten.length<=500000):rL [dL ms]=bj (oM ms.flatten):=by
 have(v,e):=WT (ms:=ms) (body:=yh) rfl hl;unfold dL at e ⊢;simp! [rL,CZ,e]
def adf(n)r(h:r.length<1000000):plain (n+2)<|dI r:=(by rw[lMq];show h,λd hd=>by have(z,_,rfl):=mMq.mp hd;trivial)
def J1(n)rs(h:rs.length<=1000)(l:rs.flatten.length<=1000):plain (n+3)<|dM rs:=(by rw[lMq];lia,λd hd=>by have(r,hr,rfl):=D9 hd;show adf n r<|by have:=Ck hr;lia)
def J7(w)z:plain 4<|.list [.str "refused", .list [.tup [.str w,.int z]]]:=(by change 2<1000000;decide,λd hd=>by
 rcases ag.mp hd with rfl|hd;.trivial
 .rw[mSq.mp hd];show(by change 1<1000000;decide,λd hd=>by rw[mSq.mp hd];show(by change 2<1000000;decide,λd hd=>by
    rcases ag.mp hd with rfl|hd;.trivial
    .rw[mSq.mp hd];trivial)))
end K13
namespace K12
open PySem L2 Mr Z Xe Zl
abbrev aP(part:Λ):AV:=.ow<|part.map aI
def KW n:Ql (n+1) (-1)=bj n:=by
 unfold Ql;rw[qL ⋯,qF<|by ac_nf];congr 1;ac_nf
def ZZ:sH (.ow<|(P0++[last]).map aP) [P0.length]=bj (last.map aI):=by rw[DV,gMq,gYq<|ae _,cA];rfl
def GZ{r:Ϝ}(hr:last[h]?=bj r):sH (.ow<|(P0++[last]).map aP) [P0.length,h]=bj (r.map λn=>.sh<|.int n):=by rw[DV,gMq,gYq<|ae _,cA];change sH (.ow<|last.map aI) [h]=_;rw[DV,gMq,hr];rfl
def Kk{α β:Type}(f:α->β)(l:List α)i a:(l.map f).set i (f a)=(l.set i a).map f:=by rw[List.map_set]
def Vc{α:Type}(l:List α)a b:(l++[a]).set l.length b=l++[b]:=by rw[iH _ _<|ae _,cA];rfl
def an1{last'}:putAt (.ow<|(P0++[last]).map aP) [P0.length] (last'.map aI) = .ow ((P0++[last']).map aP):=by
 rw[Gr (a:=aP last)<|by rw[gMq,gYq<|ae _,cA];rfl];change AV.ow (((P0++[last]).map aP).set P0.length<|aP last')=_;rw[Kk,Vc]
def abA{r r':Ϝ}(hr:last[h]?=bj r):putAt (.ow<|(P0++[last]).map aP) [P0.length,h] (r'.map λn=>.sh<|.int n) = .ow ((P0++[last.set h r']).map aP):=by
 rw[Gr (a:=aP last)<|by rw[gMq,gYq<|ae _,cA];rfl];have e:putAt (aP last) [h] (r'.map λn=>.sh<|.int n)=aP (last.set h r'):=by
  rw[Gr (a:=aI r)<|by rw[gMq,hr];rfl];change AV.ow ((last.map aI).set h<|aI r')=_;rw[Kk]
 rw[e,Kk,Vc]
structure Wd where
 P0:List Λ
 last:Λ
 t0:Θ
 h:Nat
 left:Ϝ
 used:Nat
noncomputable def sgn(c e:Int):Int:=if c / 8 % 2=1 then -e else e
def Jp(nm:Ϝ)(w:Wd)(c:Int):Wd:=let e:=sgn c<|nm.getD w.used 0
 let r:=w.last.getD w.h []
 if c % 8<4 then
  if c % 8<2 then { w with last:=w.last.set w.h (r++[e]),left:=w.left++[-e],used:=w.used+1 }
  else { w with last:=w.last.set w.h (r++[e])++[[-e]],t0:=w.t0++[w.h],h:=w.last.length,used:=w.used+1 }
 else if c % 8<6 then
  if w.left=[]then w else { w with last:=w.last.set w.h (r++[w.left.getD (c / 16 % w.left.length).toNat 0]),left:=w.left.eraseIdx (c / 16 % w.left.length).toNat }
 else if c % 8=6 then
  match w.t0.getLast? with
  |n_=>w
  |bj h'=>{ w with t0:=w.t0.dropLast,h:=h' }
 else { P0:=w.P0++[w.last.set w.h<|r++w.left],last:=[[]],t0:=[],h:=0,left:=[],used:=w.used }
abbrev cN(l:Θ):Ϝ:=l.map λn:Nat=>(n:Int)
def st(v0 v1:Option AV)(w:Wd)(v6 v7 v8 v9:Option AV):AS:=[v0,v1,bj<|.ow<|(w.P0++[w.last]).map aP,bj<|aI<|cN<|w.t0++[w.h],bj<|aI w.left,i3 (w.used:Int),v6,v7,v8,v9]
def brA:Θ->MS:=(λpath=>oZ ((U5 2<|oR 9) path)<|oZ (pU 5<|kSc<|qE yf (oE 5)<|rC<|.int 1)<|wm (tG<|qE XF (oE 7)<|rC<|.int 2) (zJ 4<|kSc<|vX yy<|oE 9)<|oZ (zJ 3<|kSc<|yK vJ<|oC (qE Gw (oE 2)<|vX yy<|rC<|.int 1) oW)<|Vw 2 (pIx 2 (Ut 2)<|vX yy<|rC<|.int 1)<|rV<|oz (kSc<|vX yy<|oE 9) oS)
def brB:Θ->MS:=(Mi 2 (R5<|oE 4) (P4 2<|Hq 4<|qE xh (qE Ih (oE 6)<|rC<|.int 16)<|yK vJ<|oC (oE 4) oW)<|λQ=>pZ)
def brC:Θ->MS:=(λQ=>(wm (tG<|qE dGt (yK vJ<|oC (oE 3) oW)<|rC<|.int 1) (O1<|M0 3) pZ))
def brE:Θ->MS:=(λpath=>oZ ((Vq 2<|Em 4) path)<|oZ (pU 4<|rV oS)<|oZ (zJ 2<|rV<|oz (rV oS) oS)<|pU 3<|rV<|oz (kSc<|rC<|.int 0) oS)
def SJ:Θ->MS:=(Mi 2 (tG<|qE XF (oE 7)<|rC<|.int 4) brA<|Mi 2 (tG<|qE XF (oE 7)<|rC<|.int 6) brB<|Mi 2 (tG<|qE Ep (oE 7)<|rC<|.int 6) brC brE)
def afi:vS=(oZ (pU 7<|kSc<|qE xh (oE 6)<|rC<|.int 8)<|aeY 8 2 (pIx 2 (pIx 2 (Ut 2)<|vX yy<|rC<|.int 1)<|qE Gw (oE 3)<|vX yy<|rC<|.int 1)<|XI 2 (pU 9<|kSc<|qE Gw (oE 1)<|oE 5)<|XI 2 (wm (tG<|qE Ep (qE xh (qE Ih (oE 6)<|rC<|.int 8)<|rC<|.int 2)<|rC<|.int 1) (pU 9<|kSc<|vX yy<|oE 9) pZ) SJ):=rfl
def abU{r:Ϝ}(hh:hd<last.length)(hr:last[hd]?=bj r)(L:used<nm.length) :
  vS (st v0 (bj<|.sh<|dI nm) (P0,last,t0,hd,left,used) (i3 c) v7 v8 v9)=SJ [P0.length,hd] (st v0 (bj<|.sh<|dI nm) (P0,last,t0,hd,left,used) (i3 c) (i3<|c % 8) n_<|i3<|sgn c<|nm.getD used 0):=by
 have z:=uW (i:=c) (j:=8) ⋯;have B:=Cz (i:=c) (j:=8) ⋯ ⋯;have E:=uW (i:=c / 8) (j:=2) ⋯;have G:=GZ (P0:=P0) hr;have H:=ZZ (P0:=P0) (last:=last);have l:(P0++[last]).length=P0.length+1:=by simp
 have I:=KW P0.length;have J:Ql last.length (hd:Int)=bj hd:=Ve hh;have n:atI ((cN<|t0++[hd]).map D.int) (-1)=bj (.int (hd:Int)):=by unfold cN;rw[mBq,mBq];show G4 _ _
 have st3:=rG<|cN<|t0++[hd];have s:atI (nm.map D.int) (used:Int)=bj (.int<|nm.getD used 0):=zZ<|by rw[gMq,gDq,gEg L];rfl
 have t:((8:Nat)≠2/\8<10)=True:=by simp
 simp only[afi];by_cases u:c / 8 % 2=1
 .have x:sgn c (nm.getD used 0) = -(nm.getD used 0):=qF u;simp! [st,z,l,I,H,G,J,st3,dI,n,t,s,B,E,u,x,eq_self]
 .have x:sgn c (nm.getD used 0)=nm.getD used 0:=qL u;simp! [st,z,l,I,H,G,J,st3,dI,n,t,s,B,E,u,x,eq_self]
section
variable {left r:Ϝ}
def Qc(r:Ϝ)e:(r.map λn=>AV.sh<|.int n)++[.sh<|.int e]=(r++[e]).map λn=>.sh<|.int n:=by rw[mBq];rfl
def U7(r s:Ϝ):(r.map λn=>AV.sh<|.int n)++(s.map D.int).map AV.sh=(r++s).map λn=>.sh<|.int n:=by rw[mBq,mPq];rfl
def ags(l:Λ)e:l.map aI++[.ow [.sh<|.int e]]=(l++[[e]]).map aI:=by rw[mBq];rfl
def afa(P:List Λ):P.map aP++[.ow [.ow []]]=(P++[[[]]]).map aP:=by rw[mBq];rfl
def ahs(l)n:(cN l).map (λn=>AV.sh<|.int n)++[.sh<|.int (n:Int)]=(cN<|l++[n]).map λn=>.sh<|.int n:=by unfold cN;rw[mBq,mBq];rfl
def WE(P:List Λ):(P.map aP).map pA=P.map dM:=by
 rw[mPq];show mCq λp Q=>?_;change pA (.ow<|p.map aI)=dM p;rw[vY,mPq];change D.list _=D.list _;congr 1;show mCq λr Q=>rG r
def an5(P0)last:atI ((P0++[last]).map dM) (-1)=bj (dM last):=by rw[mBq];show G4 _ _
theorem aat{α β:Type}(f:α->β):∀(l:List α) i,(l.map f).eraseIdx i=(l.eraseIdx i).map f
 | [],i=>rfl
 |x::l,0=>rfl
 |x::l,i+1=>by simp only[aq,bU,bU,aat f l i,aq]
def agQ{l:Ϝ}(h:l≠[]):Mz (.list<|l.map D.int)=bj t_:=by cases l with
 |nil=>show absurd rfl h
 |cons x l=>rfl
def alu(hh:hd<last.length)(hr:last[hd]?=bj r)(l:r.length<500000)(n:left.length<500000)(s:c % 8<4)(t:c % 8<2) :
  SJ [P0.length,hd] (st v0 v1 (P0,last,t0,hd,left,used) (i3 c) (i3<|c % 8) v8<|i3 e)=bj (.nx<|st v0 v1 (P0,last.set hd<|r++[e],t0,hd,left++[-e],used+1) (i3 c) (i3<|c % 8) v8<|i3 e):=by
 have u:=GZ (P0:=P0) hr;have l1:r.length<tL:=by change _<16777216;lia
 have l2:left.length<tL:=by change _<16777216;lia
 have x:=abA (P0:=P0) (r':=r++[e]) hr;have z:=Qc r e;have B:=Qc left<|-e;have E:((used+1:Nat):Int)=(used:Int)+1:=by rfl'
 simp! [SJ,brA,st,s,u,l1,z,x,t,l2,B,E]
def amh(hh:hd<last.length)(hr:last[hd]?=bj r)(t:r.length<500000)(u:last.length<500000)(x:t0.length<500000)(z:c % 8<4)(B:¬ c % 8<2) :
  SJ [P0.length,hd] (st v0 v1 (P0,last,t0,hd,left,used) (i3 c) (i3<|c % 8) v8<|i3 e)=bj (.nx<|st v0 v1 (P0,last.set hd (r++[e])++[[-e]],t0++[hd],last.length,left,used+1) (i3 c) (i3<|c % 8) v8<|i3 e):=by
 have E:=GZ (P0:=P0) hr;have l1:r.length<tL:=by change _<16777216;lia
 have G:=abA (P0:=P0) (r':=r++[e]) hr;have H:=Qc r e;have I:((used+1:Nat):Int)=(used:Int)+1:=by rfl'
 have J:=WE<|P0++[last.set hd<|r++[e]];have s:=an5 P0<|last.set hd<|r++[e];have L:=ZZ (P0:=P0) (last:=last.set hd<|r++[e]);have l:(P0++[last.set hd<|r++[e]]).length=P0.length+1:=by simp
 have n:(last.set hd<|r++[e]).length=last.length:=lZq;have M:=KW P0.length;have l2:last.length<tL:=by change _<16777216;lia
 have lt':(t0++[hd]).length<tL:=by rw[lAq];change t0.length+1<16777216;lia
 have O:=ahs (t0++[hd]) last.length;have P:=ags (last.set hd<|r++[e])<|-e;have Q:=an1 (P0:=P0) (last:=last.set hd<|r++[e]) (last':=last.set hd (r++[e])++[[-e]]);simp! [SJ,brA,st,z,E,l1,H,G,B,J,s,L,l,n,M,l2,lt',O,P,Q,I]
def amz(hr:last[hd]?=bj r)(l:¬ c % 8<4)(n:c % 8<6) :
  SJ [P0.length,hd] (st v0 v1 (P0,last,t0,hd,[],used) (i3 c) (i3<|c % 8) v8<|i3 e)=bj (.nx<|st v0 v1 (P0,last,t0,hd,[],used) (i3 c) (i3<|c % 8) v8<|i3 e):=by
 have s:=GZ (P0:=P0) hr;have t:Mz (.list [])=bj f_:=rfl;simp! [SJ,brB,st,l,s,n,t]
def akS(hr:last[hd]?=bj r)(x:r.length<500000)(z:left.length<500000)(l:left≠[])(B:¬ c % 8<4)(E:c % 8<6) :
  SJ [P0.length,hd] (st v0 v1 (P0,last,t0,hd,left,used) (i3 c) (i3<|c % 8) v8<|i3 e)=bj (.nx<|st v0 v1 (P0,last.set hd<|r++[left.getD (c / 16 % left.length).toNat 0],t0,hd,left.eraseIdx (c / 16 % left.length).toNat,used) (i3 c) (i3<|c % 8) v8<|i3 e):=by
 have G:=GZ (P0:=P0) hr;have l1:r.length<tL:=by change _<16777216;lia
 have u:0<left.length:=eW.mpr l;have t:=Cz (i:=c) (j:=16) ⋯ ⋯;have H:=uW (i:=c / 16) (j:=(left.length:Int)) ∅;have I:0<=c / 16 % (left.length:Int):=bB _<|by ac_nf
 have b1:c / 16 % (left.length:Int)<(left.length:Int):=bz _ ∅;have s:(c / 16 % (left.length:Int)).toNat<left.length:=by ac_nf
 have J:left.length<=tL:=by change _<=16777216;lia
 have L:(left.map λn=>AV.sh<|.int n)[(c / 16 % (left.length:Int)).toNat]?=i3 (left.getD (c / 16 % (left.length:Int)).toNat 0):=by rw[gMq,gEg s,gDq,gEg s];rfl
 have g2:(left.map λn=>AV.sh<|.int n).eraseIdx (c / 16 % (left.length:Int)).toNat=(left.eraseIdx (c / 16 % (left.length:Int)).toNat).map λn=>.sh<|.int n:=aat _ _ _;have M:=abA (P0:=P0) (r':=r++[left.getD (c / 16 % (left.length:Int)).toNat 0]) hr;have O:=Qc r<|left.getD (c / 16 % (left.length:Int)).toNat 0;have P:=rG left;have q:(0<=c / 16 % (left.length:Int)/\c / 16 % (left.length:Int)<(left.length:Int)/\left.length<=tL)=True:=by simp[I,b1,J]
 have Q:=agQ l;simp! [SJ,brB,st,B,G,E,l1,t,H,q,L,g2,O,M,P,dI,Q,eq_self,true_and]
def alb(hr:last[hd]?=bj r)(l:c % 8=6) :
  SJ [P0.length,hd] (st v0 v1 (P0,last,[],hd,left,used) (i3 c) (i3<|c % 8) v8<|i3 e)=bj (.nx<|st v0 v1 (P0,last,[],hd,left,used) (i3 c) (i3<|c % 8) v8<|i3 e):=by
 have n:=GZ (P0:=P0) hr;have s:¬ (6:Int)<4:=by decide
 have t:¬ (6:Int)<6:=by decide
 have u:=rG<|cN [hd];have x:decide ((1:Int)<((1:Nat):Int))=f_:=by rfl
 simp! [SJ,brC,st,l,n,s,t,u,dI,cN,x]
def ak8(hr:last[hd]?=bj r)(l:c % 8=6) :
  SJ [P0.length,hd] (st v0 v1 (P0,last,t++[h'],hd,left,used) (i3 c) (i3<|c % 8) v8<|i3 e)=bj (.nx<|st v0 v1 (P0,last,t,h',left,used) (i3 c) (i3<|c % 8) v8<|i3 e):=by
 have s:=GZ (P0:=P0) hr;have u:¬ (6:Int)<4:=by decide
 have x:¬ (6:Int)<6:=by decide
 have z:=rG<|cN<|t++[h']++[hd];have B:(1:Int)<((t++[h']++[hd]).length:Int):=by simp;ac_nf
 have E:(cN<|t++[h']++[hd]).map (λn=>AV.sh<|.int n)=(cN<|t++[h']).map (λn=>AV.sh<|.int n)++[.sh<|.int (hd:Int)]:=(ahs (t++[h']) hd).symm;have G:((cN<|t++[h']).map (λn=>AV.sh<|.int n)++[AV.sh<|.int (hd:Int)])[((cN<|t++[h']).map (λn=>AV.sh<|.int n)++[AV.sh<|.int (hd:Int)]).length-1]?=i3 (hd:Int):=by
  rw[lAq,lSq,gYq<|by rfl'];simp
 have H:((cN<|t++[h']).map (λn=>AV.sh<|.int n)++[AV.sh<|.int (hd:Int)]).dropLast=(cN<|t++[h']).map (λn=>AV.sh<|.int n):=iV;simp! [SJ,brC,st,l,s,u,x,z,dI,B,E,G,H]
def ang(hr:last[hd]?=bj r)(t:r.length+left.length<500000)(u:P0.length<500000)(x:¬ c % 8<4)(z:¬ c % 8<6)(B:¬ c % 8=6) :
  SJ [P0.length,hd] (st v0 v1 (P0,last,t0,hd,left,used) (i3 c) (i3<|c % 8) v8<|i3 e)=bj (.nx<|st v0 v1 (P0++[last.set hd<|r++left],[[]],[],0,[],used) (i3 c) (i3<|c % 8) v8<|i3 e):=by
 have E:=GZ (P0:=P0) hr;have l1:r.length+left.length<=tL:=by change _<=16777216;lia
 have G:=abA (P0:=P0) (r':=r++left) hr;have H:=U7 r left;have s:(r.map λn=>AV.sh<|.int n)++(left.map λn=>AV.sh<|.int n)=(r++left).map λn=>.sh<|.int n:=mBq.symm;have l:(P0++[last.set hd<|r++left]).length<tL:=by rw[lAq];change P0.length+1<16777216;lia
 have I:=afa<|P0++[last.set hd<|r++left];have J:=rG left;simp! [SJ,brE,st,x,E,z,B,l1,H,s,G,l,I,J,dI];first|rfl|(rfl;done)
end
noncomputable def Gg(nm:Ϝ)(k:Nat):Ϝ:=(nm.take k).flatMap λx=>[x, -x]
def IC(h:nm[k]?=bj x):Gg nm (k+1)=Gg nm k++[x, -x]:=by unfold Gg;rw[tX h,jf];rfl
theorem GK:∀{k},k<=nm.length->(Gg nm k).length=2*k
 |0,_=>rfl
 |k+1,h=>by
  rw[IC<|gEg<|show k<nm.length by rfl',lAq,GK<|by rfl'];change 2*k+2=_;rfl'
theorem EV{x r:Ϝ}a:∀{l:Λ}{h:Nat},l[h]?=bj r->(l.set h<|r++x).flatten.count a=l.flatten.count a+x.count a
 | [],_,h=>by simp at h
 |s::l,0,h=>by cases h;simp only[fh,fCq,fCq,cAq,cAq,cAq];rfl'
 |s::l,h+1,e=>by
  rw[gG,fCq,fCq,cAq,cAq,EV a<|by show e];rfl'
theorem NB a:∀{l:Ϝ}{j},j<l.length->(l.eraseIdx j).count a+[l.getD j 0].count a=l.count a
 | [],_,h=>by simp at h
 |x::l,0,_=>by
  rw[show x::l=[x]++l from rfl,cAq];change l.count a+[x].count a=_;rfl'
 |x::l,j+1,h=>by
  have n:=NB a<|by simpa using h
  rw[bU,show x::l.eraseIdx j=[x]++l.eraseIdx j from rfl,show(x::l).getD (j+1) 0=l.getD j 0 from rfl,show x::l=[x]++l from rfl,cAq,cAq];lia
def V9 a c x:[sgn c x].count a+[-(sgn c x)].count a=[x, -x].count a:=by
 rw[show[x, -x]=[x]++[-x]from rfl,cAq];unfold sgn;split;.rw[iN];rfl'
 .rfl
structure ZJ (nm:Ϝ)(w:Wd)(n:Nat):Prop where
 hh:w.h<w.last.length
 ht:∀k∈w.t0,k<w.last.length
 us:w.used<=n
 lP:w.P0.length<=n
 lt:w.t0.length<=n
 tl:w.P0.flatten.length+w.last.length<=n+1
 cnt:∀a,w.P0.flatten.flatten.count a+w.last.flatten.count a+w.left.count a=(Gg nm w.used).count a
def ZJ.perm(h:ZJ nm w n):(w.P0.flatten.flatten++w.last.flatten++w.left).Perm<|Gg nm w.used:=by rw[jg];intro a;rw[cAq,cAq];show h.cnt a
def ZJ.len(h:ZJ nm w n)(l:w.used<=nm.length):w.last.flatten.length+w.left.length<=2*n:=by have:=h.perm.length_eq;rw[GK l,lAq,lAq]at this;have:=h.us;lia
def VT{l:Λ}{h:Nat}{r:Ϝ}(e:l[h]?=bj r):r.length<=l.flatten.length:=eR.length_le<|aN<|mGq e
set_option tactic.hygienic true in
def ZJ.step(h:ZJ nm w n)(t:w.used<nm.length)c:ZJ nm (Jp nm w c)<|n+1:=by
 have(P0,last,t0,hd,left,used):=w;have(hh,ht,us,lP,lt,tl,cnt):=h;simp only at hh ht us lP lt tl cnt t;have hr:last[hd]?=bj (last.getD hd []):=by rw[gDq,gEg hh];rfl
 have u:nm[used]?=bj (nm.getD used 0):=by rw[gDq,gEg t];rfl
 unfold Jp;simp only;split
 .split
  .show(?_,?_,?_,?_,?_,?_,λa=>?_);.simp only[lZq];show hh
   .simp only[lZq];show ht
   .simp only;lia
   .simp only;lia
   .simp only;lia
   .simp only[lZq];lia
   .simp only;rw[EV a hr,IC u,cAq,cAq,←cnt a,←V9 a c<|nm.getD used 0];rfl'
  .show(?_,?_,?_,?_,?_,?_,λa=>?_);.simp only[lAq,lZq,lSq];rfl'
   .intro k hk;simp only[lAq,lZq,lSq];rcases mAq.mp hk with q|q;.have:=ht k q;rfl'
    .rw[mSq.mp q];rfl'
   .simp only;lia
   .simp only;lia
   .simp only[lAq,lSq];rfl'
   .simp only[lAq,lZq,lSq];rfl'
   .simp only;rw[fAq,cAq,aK,EV a hr,IC u,cAq,←cnt a,←V9 a c<|nm.getD used 0];rfl'
 .split
  .split;.show(hh,ht,by simp only;lia,by simp only;lia,by simp only;lia,by simp only;lia,cnt)
   .rename_i l;have x:0<left.length:=eW.mpr l;have s:(c / 16 % (left.length:Int)).toNat<left.length:=by
     have B:0<=c / 16 % (left.length:Int):=bB _ ∅;have b1:c / 16 % (left.length:Int)<(left.length:Int):=bz _ ∅;lia
    show(?_,?_,?_,?_,?_,?_,λa=>?_);.simp only[lZq];show hh
    .simp only[lZq];show ht
    .simp only;lia
    .simp only;lia
    .simp only;lia
    .simp only[lZq];lia
    .simp only;have:=NB a s;rw[EV a hr,←cnt a];lia
  .split
   .split;.show(hh,ht,by simp only;lia,by simp only;lia,by simp only;lia,by simp only;lia,cnt)
    .rename_i z hl;show(ht z<|List.mem_of_getLast? hl,λk hk=>ht k<|List.dropLast_subset _ hk,by simp only;lia,by simp only;lia,?_,by simp only;lia,cnt);simp only[iR];lia
   .show(?_,?_,?_,?_,?_,?_,λa=>?_);.simp
    .intro k hk;cases hk
    .simp only;lia
    .simp only[lAq,lSq];rfl'
    .simp
    .simp only[fAq,lAq,aK,lZq,lSq];rfl'
    .rw[fAq,fAq,aK,cAq,EV a hr,←cnt a];simp;rfl'
def Yq(h:ZJ nm w n)(hn:n<1000)(B:w.used<nm.length):∃E G H,vS (st v0 (bj<|.sh<|dI nm) w (i3 c) v7 v8 v9)=bj (.nx<|st v0 (bj<|.sh<|dI nm) (Jp nm w c) (i3 c) E G H):=by
 have u:=h.len<|bZ B;have(P0,last,t0,hd,left,used):=w;have(hh,ht,us,lP,lt,tl,cnt):=h;simp only at hh ht us lP lt tl cnt B u;have hr:last[hd]?=bj (last.getD hd []):=by rw[gDq,gEg hh];rfl
 have I:=VT hr;have pre:=abU (P0:=P0) (t0:=t0) (left:=left) (c:=c) (v0:=v0) (v7:=v7) (v8:=v8) (v9:=v9) hh hr B;show(i3<|c % 8,n_,i3<|sgn c<|nm.getD used 0,?_);rw[pre];unfold Jp;simp only;by_cases s:c % 8<4
 .rw[qF s];by_cases z:c % 8<2;.rw[qF z];show alu hh hr ∅ ∅ s z
  .rw[qL z];show amh hh hr ∅ ∅ ∅ s z
 .rw[qL s];by_cases x:c % 8<6
  .rw[qF x];by_cases hl:left=[];.subst hl;rw[qF rfl];show amz hr s x
   .rw[qL hl];show akS hr ∅ ∅ hl s x
  .rw[qL x];by_cases l:c % 8=6
   .rw[qF l];rcases eN t0 with rfl|⟨t,J,rfl⟩;.show alb hr l
    .rw[eO,List.getLast?_append];simp only[List.getLast?_singleton,cY,iV];show ak8 hr l
   .rw[qL l];show ang hr ∅ ∅ s x l
noncomputable def w0:Wd:=([],[[]],[],0,[],0)
def ahm nm:ZJ nm w0 0:=(by decide,(λk h=>by cases h),ae _,ae _,ae _,by decide,λa=>by rfl)
theorem words_ok:∀(cs:Ϝ) {w}{n},ZJ nm w n->n+cs.length<=nm.length->ZJ nm (cs.foldl (Jp nm) w) (n+cs.length)
 | [],w,n,h,_=>h
 |c::cs,w,n,h,hl=>by
  rw[lCq]at hl;have l:=h.step (by have:=h.us;lia) c;have:=words_ok cs l ∅;simp only[gi,lCq,show n+(cs.length+1)=n+1+cs.length by rfl'];show this
def UD(z:cs.length<=63)(hn:nm.length=66):∃t l n s,vw 6 vS (cs.map D.int) (st (bj<|.sh<|dI cs) (bj<|.sh<|dI nm) w0 v6 v7 v8 v9)=bj (.nx<|st (bj<|.sh<|dI cs) (bj<|.sh<|dI nm) (cs.foldl (Jp nm) w0) t l n s):=by
 have key:=Ai (x:=6) (body:=vS) (λi S=>∃v6 v7 v8 v9,S=st (bj<|.sh<|dI cs) (bj<|.sh<|dI nm) ((cs.take i).foldl (Jp nm) w0) v6 v7 v8 v9) (ds:=cs.map D.int) (S:=st (bj<|.sh<|dI cs) (bj<|.sh<|dI nm) w0 v6 v7 v8 v9) (v6,v7,v8,v9,rfl) (by
  rintro i d S hd ⟨v6,v7,v8,v9,rfl⟩;rw[gMq]at hd;have(c,u,rfl):=oMq.mp hd;have hi:i<cs.length:=(gSq.mp u).1;have ok:=words_ok (nm:=nm) (cs.take i) (ahm nm)<|by rw[lTq];lia
  rw[lTq]at ok;have(l,n,s,e):=Yq (c:=c) (v0:=bj<|.sh<|dI cs) (v7:=v7) (v8:=v8) (v9:=v9) ok ∅<|by have:=ok.us;lia
  show(_,e,i3 c,l,n,s,?_);rw[YC u]);have(B,e,t,l,n,s,rfl):=key;rw[lMq,bw]at e;show(t,l,n,s,e)
def Xs(B:cs.length<=63)(hn:nm.length=66):∃(P:List Λ) (used:Nat),BS [dI cs,dI nm]=bj (.ow<|P.map aP)/\P.flatten.flatten.Perm (Gg nm used)/\used<=cs.length/\P.flatten.length<=cs.length+1/\P.length<=cs.length+1:=by
 have(E,G,H,I,e):=UD (v6:=n_) (v7:=n_) (v8:=n_) (v9:=n_) B hn;have ok:=words_ok (nm:=nm) cs (ahm nm) ∅;rw[cO]at ok;generalize cs.foldl (Jp nm) w0=w at e ok;have l:=ok.len<|by have:=ok.us;lia
 have t:=ok.perm;have(P0,last,t0,hd,left,used):=w;have(hh,ht,us,lP,lt,tl,cnt):=ok;simp only at hh ht us lP lt tl cnt l t;have hr:last[hd]?=bj (last.getD hd []):=by rw[gDq,gEg hh];rfl
 have u:=VT hr;generalize last.getD hd []=r at hr u;have J:=GZ (P0:=P0) hr;have L:=ZZ (P0:=P0) (last:=last);have s:(P0++[last]).length=P0.length+1:=by simp
 have M:=KW P0.length;have O:Ql last.length (hd:Int)=bj hd:=Ve hh;have x:atI ((cN<|t0++[hd]).map D.int) (-1)=bj (.int (hd:Int)):=by unfold cN;rw[mBq,mBq];show G4 _ _
 have st3:=rG<|cN<|t0++[hd];have Q:=abA (P0:=P0) (r':=r++left) hr;have R:=U7 r left;have z:(r.map λn=>AV.sh<|.int n)++(left.map λn=>AV.sh<|.int n)=(r++left).map λn=>.sh<|.int n:=mBq.symm;have l1:r.length+left.length<=tL:=by change _<=16777216;lia
 have S:vw 6 vS (cs.map D.int) [bj<|.sh<|dI cs,bj<|.sh<|dI nm,bj<|.ow [.ow [.ow []]],bj<|.ow [.sh<|.int 0],bj<|.ow [],i3 0,n_,n_,n_,n_]=bj (.nx [bj<|.sh<|dI cs,bj<|.sh<|dI nm,bj<|.ow<|(P0++[last]).map aP,bj<|aI<|cN<|t0++[hd],bj<|aI left,i3 (used:Int),E,G,H,I]):=e;show(P0++[last.set hd<|r++left],used,?_,?_,by rfl',?_,?_);.simp! [BS,Le,S,s,M,L,J,O,st3,dI,x,l1,R,z,Q]
 .rw[jg];intro a;simp only[fAq,fAq,aK,cAq,EV a hr,←cnt a];rfl'
 .rw[fAq,aK,lAq,lZq];rfl'
 .rw[lAq,lSq];rfl'
noncomputable def nmk(st sh a b k:Int):Int:=st*((a*k+b) % 67+1)+sh
def nms(st sh a b:Int):Ϝ:=(bQ 66).map λk:Nat=>nmk st sh a b k
def KQ{st}(t:1<=a)(u:a<=66):ui uS (kSc<|qE yf (qE MM (oE 2)<|qE yf (qE xh (qE yf (qE MM (oE 4)<|oE 0)<|oE 3)<|rC<|.int 67)<|rC<|.int 1)<|oE 1) [i3 sh,i3 st,i3 b,i3 a] (sV 0 66)=bj ((nms st sh a b).map λz=>.sh<|.int z):=by
 have key:=ye (te:=kSc<|qE yf (qE MM (oE 2)<|qE yf (qE xh (qE yf (qE MM (oE 4)<|oE 0)<|oE 3)<|rC<|.int 67)<|rC<|.int 1)<|oE 1) (cap:=[i3 sh,i3 st,i3 b,i3 a])
  (λd=>match d with|.int k=>.sh<|.int<|nmk st sh a b k|_=>.sh .non) (ds:=sV 0 66) (by
  intro d hd;rw[DR]at hd;have(k,_,rfl):=mMq.mp hd;have b1:0<=(a*(k:Int)+b) % 67:=bB _ ⋯;have b2:(a*(k:Int)+b) % 67<67:=bz _ ⋯;have n:=amt (i:=a) (j:=(k:Int)) ∅ ∅;have s:=ahn (i:=st) (j:=(a*(k:Int)+b) % 67+1) (by omega)<|by omega
  have l:=λi:Int=>uW (i:=i) (j:=67) ⋯;show([i3 (k:Int),i3 sh,i3 st,i3 b,i3 a],?_);simp! [n,s,l,nmk]);rw[key,DR,mPq];unfold nms;rw[mPq];rfl
def aaQ ns:∃st sh a b:Int,1<=st/\st<=10 ^ 58/\0<=sh/\sh<10 ^ 58/\1<=a/\a<=66/\Ab [.scr ns]=bj (aI<|nms st sh a b):=by
 have L:0<=cell ns 0 / 3 % 66:=bB _ ⋯;have M:cell ns 0 / 3 % 66<66:=bz _ ⋯;have s1:0<=cell ns 1 % 10 ^ 58:=bB _ ⋯;have s2:cell ns 1 % 10 ^ 58<10 ^ 58:=bz _ ⋯;have I:0<=cell ns 2 % 10 ^ 58:=bB _ ⋯;have J:cell ns 2 % 10 ^ 58<10 ^ 58:=bz _ ⋯;have E:=λi:Int=>uW (i:=i) (j:=3) ⋯;have s:=λi:Int=>uW (i:=i) (j:=66) ⋯;have t:=λi:Int=>uW (i:=i) (j:=67) ⋯;have z:=λi:Int=>uW (i:=i) (j:=10 ^ 58) ⋯;have G:=λi:Int=>Cz (i:=i) (j:=3) ⋯ ⋯;have l:=λi:Int=>Cz (i:=i) (j:=198) ⋯ ⋯;have u:J9 [.int 66]=bj (sV 0 66):=zT (n:=66) ⋯;have x:(sV 0 66).length<=tL:=by rw[uJ];change 66<=16777216;decide
 by_cases H:0<cell ns 0 % 3
 .show(1+cell ns 1 % 10 ^ 58,cell ns 2 % 10 ^ 58,1+cell ns 0 / 3 % 66,cell ns 0 / 198 % 67,by lia,by lia,I,J,by lia,by lia,?_);have B:=KQ (st:=1+cell ns 1 % 10 ^ 58) (sh:=cell ns 2 % 10 ^ 58) (a:=1+cell ns 0 / 3 % 66) (b:=cell ns 0 / 198 % 67) ∅ ∅;simp! [Ab,Ge,aha,alo,alB,H,E,s,t,z,G,l,p58,u,x,B]
 .show(1,0,1+cell ns 0 / 3 % 66,cell ns 0 / 198 % 67,by decide,by decide,by decide,by decide,by lia,by lia,?_);have B:=KQ (st:=1) (sh:=0) (a:=1+cell ns 0 / 3 % 66) (b:=cell ns 0 / 198 % 67) ∅ ∅;simp! [Ab,Ge,aha,H,E,s,t,G,l,u,x,B]
def aeu{st}(x:1<=st)(z:1<=a)(B:a<=66){j k:Nat}(E:j<67)(hk:k<67)(h:nmk st sh a b j=nmk st sh a b k):j=k:=by
 unfold nmk at h;have e1:st*((a*j+b) % 67+1)=st*((a*k+b) % 67+1):=by lia
 have e2:=Int.eq_of_mul_eq_mul_left ∅ e1;have n:((a*j+b)-(a*k+b)) % 67=0:=Int.emod_eq_emod_iff_emod_sub_eq_zero.mp ∅;have s:(a*((j:Int)-k)) % 67=0:=by rw[←n];congr 1;rw[Int.mul_sub];ac_nf
 obtain⟨l,rfl⟩:∃l:Nat,a=(l:Int)+1:=((a-1).toNat,by lia);rcases jr j k with q|q|q
 .exfalso;show Mr.VM (l,by lia) (k-j,by lia) (by change 0<k-j;rfl') ?_;change(l+1)*(k-j) % 67=0;have t:(((l:Int)+1)*((k:Int)-j)) % 67=0:=by
   have:((l:Int)+1)*((k:Int)-j) = -(((l:Int)+1)*((j:Int)-k)):=by rw[←Int.mul_neg];congr 1;ac_nf
   rw[this];lia
  have u:(((l+1)*(k-j) % 67:Nat):Int)=0:=by rw[←t];push_cast [bZ q];rfl
  lia
 .show q
 .exfalso;show Mr.VM (l,by lia) (j-k,by lia) (by change 0<j-k;rfl') ?_;change(l+1)*(j-k) % 67=0;have u:(((l+1)*(j-k) % 67:Nat):Int)=0:=by rw[←s];push_cast [bZ q];rfl
  lia
structure Nm (nm:Ϝ):Prop where
 len:nm.length=66
 nd:nm.Nodup
 lo:∀x∈nm,1<=x
 hi:∀x∈nm,x<10 ^ 60
def aio{st}(n:1<=st)(l:st<=10 ^ 58)(z:0<=sh)(s:sh<10 ^ 58)(t:1<=a)(u:a<=66):Nm<|nms st sh a b:=by
 have key:∀x∈nms st sh a b,1<=x/\x<10 ^ 60:=λx h=>by
  have(k,_,rfl):=mMq.mp h;have b1:0<=(a*(k:Int)+b) % 67:=bB _ ⋯;have b2:(a*(k:Int)+b) % 67<67:=bz _ ⋯;have l1:1*1<=st*((a*(k:Int)+b) % 67+1):=jK n ∅ ⋯<|by rfl'
  have l2:st*((a*(k:Int)+b) % 67+1)<=10 ^ 58*67:=jK l (by rfl') ∅ ⋯;change 1<=st*((a*(k:Int)+b) % 67+1)+sh/\st*((a*(k:Int)+b) % 67+1)+sh<10 ^ 60;omega
 show(by unfold nms;rw[lMq,bo],?_,λx h=>(key x h).1,λx h=>(key x h).2);unfold nms;rw[ba,bM];show bD.imp_of_mem (λ{x y} hx hy hne e=>hne<|aeu n t u (by have:=fu.mp hx;lia) (by have:=fu.mp hy;lia) e)<|ba.mp List.nodup_range
def GN:z∈Gg nm k↔∃x∈nm.take k,z=x∨z = -x:=by unfold Gg;rw[fV];simp
theorem Kq:∀{l:Ϝ},l.Nodup->(∀x∈l,1<=x)->(l.flatMap λx=>[x, -x]).Nodup
 | [],_,_=>aW
 |x::l,hn,hp=>by
  have n:=aJ.mp hn;have t:=hp x<|bf ..;rw[jv,nAq];show(?_,Kq n.2 λy s=>hp y<|mCo _ s,λa ha b hb e=>?_)
  .rw[aJ];show(?_,by simp);rw[mSq];lia
  .have(y,s,q):=fV.mp hb;have py:=hp y<|mCo _ s;simp at ha q;have:y=x:=by lia
   show n.1<|this ▸ s
def S7(h:Nm nm)k:(Gg nm k).Nodup:=Kq (h.nd.sublist<|bq ..) λx l=>h.lo x<|bg l
def acm(h:z∈Gg nm k):-z∈Gg nm k:=by have(x,l,q):=GN.mp h;show GN.mpr (x,l,?_);lia
end K12
namespace K51
open PySem L2 Mr Z Xe Zl
def Og(hl:rs.length<=500000):Ar [dM rs]=bj (.ow<|rs.map aI):=by
 have key:=ye (te:=Dk<|vq 0) (cap:=[]) (λd=>match d with|.list l=>.ow<|l.map .sh|_=>.sh .non) (ds:=rs.map dI) (by
  intro d hd;have(r,_,rfl):=mMq.mp hd;show([bj<|.sh<|dI r],?_);simp! [dI]);have n:rs.length<=tL:=by lia
 have e:(rs.map dI).map (λd=>match d with|D.list l=>AV.ow<|l.map .sh|_=>.sh .non)=rs.map aI:=by
  rw[mPq];show mCq λr Q=>?_;change AV.ow ((r.map D.int).map .sh)=aI r;rw[mPq];rfl
 rw[e]at key;simp! [Ar,NG,dM,key,n]
end K51
namespace K12
open PySem L2 Mr Z Xe Zl
structure Pt (P:List Λ):Prop where
 nd:P.flatten.flatten.Nodup
 ng:∀z∈P.flatten.flatten, -z∈P.flatten.flatten
 nz:∀z∈P.flatten.flatten,z≠0/\-(10 ^ 60)<z/\z<10 ^ 60
 le:P.flatten.flatten.length<=126
 lt:P.flatten.length<=64
 lp:P.length<=64
def ala(hm:Nm nm)(n:P.flatten.flatten.Perm<|Gg nm u)(G:u<=63)(B:P.flatten.length<=64)(E:P.length<=64):Pt P:=by
 show(n.symm.nodup<|S7 hm u,λz s=>n.mem_iff.mpr<|acm<|n.mem_iff.mp s,λz s=>?_,?_,B,E);.have(x,t,q):=GN.mp<|n.mem_iff.mp s;have l:=hm.lo x<|bg t;have h:=hm.hi x<|bg t;lia
 .rw[n.length_eq,GK<|by rw[hm.len];lia];lia
def RM(xs:List α)(i:Nat):wW xs (bj (i:Int)) n_=xs.drop i:=by
 unfold wW;rw[HT.A4,HT.Lu,bJ<|by rw[au];show ae _];by_cases h:i<=xs.length;.rw[eF h]
 .rw[fR ∅,dB<|ae _,dB ∅]
def ZY(xs:List α)(i:Nat):wW xs n_ (bj (i:Int))=xs.take i:=by
 by_cases h:i<=xs.length;.show ES xs i h
 .unfold wW;rw[HT.A4,HT.Lu,fR ∅,fA,jQ,bJ<|ae _,bJ ∅]
def tl:MS:=(oZ (pU 5<|wH (Bu<|oR 3) [] uS<|wH (Bu<|oR 0) [] uS<|Dk<|vq 0)
 (oZ (pU 6<|pd (okX K13.KH)<|oz (oR 5) oS)
 (oZ (wm (L8 (uK<|tG<|rK K13.qb<|oC (oE 6)<|oC (oE 2) oW)<|uK<|tG<|rK K13.qb<|oC (oE 5)<|oC (oE 3) oW) (ql<|kSc<|rC<|.bl f_) pZ)
 (oZ (ahF 6 7<|.int 7)
 (oZ (zJ 6<|rV<|oz (kSc<|rC<|.int 8) oS)
 (oZ (wm (L8 (uK<|tG<|rK K13.qb<|oC (oE 5)<|oC (oE 3) oW)<|uK<|tG<|rK K13.qb<|oC (rOf<|pd (okX K13.KH)<|oz (oR 5) oS)<|oC (oE 2) oW) (ql<|kSc<|rC<|.bl f_) pZ)
 (ql<|kSc<|rK K13.qb<|oC (rOf<|pd (okX K13.KH)<|oz (pd K51.Z9<|oz (wH (Bu<|oR 2) [] uS<|Dk<|vq 0) oS) oS)<|oC (oE 2) oW)))))))
end K12
namespace K23
open PySem L2 Mr Z Xe Zl
def uns:under "NotThere" "TooMany" = f_/\under "NotThere" "Taken" = f_/\under "NotThere" "NoPlace" = f_/\under "TooMany" "NotThere" = f_/\under "TooMany" "Taken" = f_/\under "TooMany" "NoPlace" = f_:=by trivial
def Av z:vG [.exc "NotThere" [%["end"|z]]]=bj (.ow [.sh<|.tup [.str "there", .int z]]):=by
 have l:0<tL:=by decide
 simp! [vG,Fc,uns,gZ,l]
def WY:vG [.exc "TooMany" []]=bj (.ow [.sh<|.tup [.str "many", .int 0]]):=by
 have l:0<tL:=by decide
 simp! [vG,Fc,uns,gZ,l]
noncomputable abbrev cz(z:Int):D:=.ins "Cut" [%["road"|.int z]]
def ah3 z:tU "Cut" "road" (cz z)=bj (.int z):=by rfl
def in1 z:AN "Cut" "done" (.sh<|cz z)=bj (cz z):=by rfl
def in2 z:AN "Cut" "back" (.sh<|cz z)=bj (cz z):=by rfl
noncomputable def BE(z:Int)(t:Ϝ):Ϝ:=t.filter λe=>!decide (e∈[z, -z])
def inT i z:HA t_ (.int i) (.tup [.int z,.int<|-z])=bj (.bl<|!decide (i∈[z, -z])):=Oz t_ i [z, -z]
def Qa(t:Ϝ)p:((t.map D.int).filter λd=>match d with|.int e=>p e|_=>f_).map (λd=>AV.sh d)=(t.filter p).map λn=>.sh<|.int n:=by rw[gn,mPq];rfl
def aeh(z)t:ui (tG<|qE (HA t_) (oE 0)<|oE 1) (oR 0) [bj<|.sh<|.tup [.int z,.int<|-z]] (t.map D.int)=bj ((BE z t).map λn=>.sh<|.int n):=by
 rw[Z.wN (λd=>match d with|.int e=>!decide (e∈[z, -z])|_=>f_)<|λd=>.sh d];.rw[Qa];rfl
 .intro d hd;have(e,_,rfl):=mMq.mp hd;have h:=inT e z;show([i3 e,bj<|.sh<|.tup [.int z,.int<|-z]],?_,λQ=>([i3 e,bj<|.sh<|.tup [.int z,.int<|-z]],?_));.simp! [h]
  .simp! []
def aej(z)t(ht:t.length<=1000):xO [dI t,.tup [.int z,.int<|-z]]=bj (aI<|BE z t):=by
 have h:=aeh z t;have l:t.length<=tL:=tY ∅;simp! [xO,FX,dI,h,l]
def Td z{rs:Λ}(hr:∀r∈rs,r.length<=1000):ui uS (pd xO<|oz (oR 0)<|oz (xq<|oz (oR 1)<|oz (kSc<|vX yy<|oE 1) oS) oS) [i3 z] (rs.map dI)=bj ((rs.map<|BE z).map aI):=by
 rw[Z.ye λd=>aI<|BE z<|Fg d]
 .rw[GP λr=>aI<|BE z r,mPq];rfl
 .intro d hd;have(r,l,rfl):=D9 hd;show([bj<|.sh<|dI r,i3 z],?_);simp! [aej z r<|hr r l,yg]
def C(z:Int)(rs:Λ):Λ:=rs.map<|BE z
noncomputable def xo(w:Str)(z:Int):AV:=.ow [.sh<|.str "refused",.ow [.sh<|.tup [.str w,.int z]]]
def FJ(G:Λ):AV:=.ow [.sh<|.str "map",.ow<|G.map aI]
def Ux:(C z rs).flatten=BE z rs.flatten:=by unfold C BE;rw[List.filter_flatten]
def anc(h:rs.flatten.length<=128):(C z rs).flatten.length<=128:=by rw[Ux];show bh (dG _ _) h
def UR(n:rs.flatten.length<=128)(hl:rs.length<=1000):f_settled [dM rs]=bj (if bare rs<=128 then .ok (.ow<|(AO<|rs.map good).map aI)else .ex "TooMany" []):=by
 have l:=Tr (rs:=rs) ∅;have s:=vK (rs:=rs) (λr hr=>by have:=Ck hr;lia)<|tY ∅;by_cases c:bare rs<=128
 .rw[qF (n,c)]at l;rw[qF c];simp! [f_settled,mf_settled,l,s]
 .rw[qL λq=>c q.2]at l;rw[qL c];simp! [f_settled,mf_settled,l]
def QU(n:rs.flatten.length<=128)(h:z∉rs.flatten):rW [dM rs,.int z]=bj (.ex "NotThere" [%["end"|z]]):=by
 have ht:=C4 (rs:=rs) ∅;have l:decide (z∈rs.flatten)=f_:=d4 h;simp! [rW,xB,ht,l]
def agj(t:rs.flatten.length<=128)(hl:rs.length<=1000)(h:z∈rs.flatten):rW [dM rs,.int z]=bj (if bare (C z rs)<=128 then .ok (.ow<|(AO<|(C z rs).map good).map aI)else .ex "TooMany" []):=by
 have ht:=C4 (rs:=rs) ∅;have n:=d0 h;have l:=UR (rs:=C z rs) (anc t)<|by unfold C;rw[lMq];show hl
 have s:=Td z (rs:=rs) λr hr=>by have:=Ck hr;lia
 have sc:((rs.map<|BE z).map aI).map pA=(C z rs).map dI:=by rw[mPq];show mCq λr Q=>rG r
 have l1:rs.length<=tL:=tY ∅;by_cases c:bare (C z rs)<=128
 .rw[qF c]at l ⊢;simp! [rW,xB,ht,n,s,sc,l,l1]
 .rw[qL c]at l ⊢;simp! [rW,xB,ht,n,s,sc,l,l1]
def done_eq d:qM [cz z,d]=rW [d,.int z]:=by have h:=ah3 z;cases e:rW [d,.int z]with
 |none=>simp! [qM,DW,h,e]
 |some r=>cases r <;> simp! [qM,DW,h,e]
def ref_ex(h:rW [d,.int z]=bj (.ex c fs)):uA [cz z,d]=bj (.ex c fs):=by
 have l:=done_eq (z:=z) d;rw[h]at l;have n:=in1 z;simp! [uA,xZ,vv,l,n]
end K23
namespace K21
open PySem L2 Mr Z Xe Zl
open K23 (xo FJ)
def plain:Nat->D->Prop
 |0,_=>False
 |_+1,.int _=>True
 |_+1,.str _=>True
 |_+1,.non=>True
 |n+1,.list ds=>ds.length<1000000/\∀d∈ds,plain n d
 |n+1,.tup ds=>ds.length<1000000/\∀d∈ds,plain n d
 |_+1,_=>False
theorem alike_refl:∀n d,plain n d->K13.xW n [d,d]=i6 t_
 |0,_,h=>h.elim
 |n+1,d,h=>by change K13.sj (K13.xW n) [d,d]=_;cases d with
  |int i=>simp! [K13.sj,K13.vo,eq_self,Ky]
  |str x=>simp! [K13.sj,K13.vo,eq_self,KC]
  |non=>simp! [K13.sj,K13.vo,eq_self,Q0]
  |list s=>
   have(v,e):=K13.Cn (fm:=K13.xW n) (x:=.list s) (.inl rfl) λd hd=>alike_refl n d<|h.2 d hd;have l:=zT (n:=s.length) h.1;simp! [K13.sj,K13.vo,eq_self,K13.Wu,decide_true,fS,l,e]
  |tup s=>
   have(v,e):=K13.Cn (fm:=K13.xW n) (x:=.tup s) (.inr rfl) λd hd=>alike_refl n d<|h.2 d hd;have l:=zT (n:=s.length) h.1;simp! [K13.sj,K13.vo,eq_self,K13.Wu,decide_true,fS,l,e]
  |_=>show h.elim
noncomputable def sp(n s:Int)(t:Ϝ):Ϝ:=if s∈t then t.take (t.idxOf s+1)++n::t.drop (t.idxOf s+1)else t
def spA(n s:Int)(t:Ϝ):AV:=if s∈t then aI (sp n s t)else .sh<|dI t
def aiv(n s)t:pA (spA n s t)=dI (sp n s t):=by
 unfold spA sp;split;.rw[rG]
 .rw[xk]
def RQ{r:Ϝ}(l:e∈r):C1 (.list<|r.map D.int) [.int e]=bj (.int (r.idxOf e:Nat)):=by
 change(vt<|r.map D.int).bind _=_;rw[vV];change(if _ then _ else _)=_;rw[qF l]
def YU(ht:t.length<=1000)n s:B2 [dI t,.int n,.int s]=bj (spA n s t):=by
 by_cases h:s∈t
 .have l:decide (s∈t)=t_:=d0 h;have u:=RQ h;have x:wW t n_ (bj<|(t.idxOf s:Int)+1)=t.take (t.idxOf s+1):=K12.ZY t<|t.idxOf s+1;have z:wW t (bj<|(t.idxOf s:Int)+1) n_=t.drop (t.idxOf s+1):=K12.RM t<|t.idxOf s+1;have l1:(t.take<|t.idxOf s+1).length+1<=tL:=tY<|by rw[lTq];lia
  have l2:(t.take (t.idxOf s+1)++[n]).length+(t.drop<|t.idxOf s+1).length<=tL:=tY<|by simp only[lAq,lTq,au,lSq];omega
  have q1:(t.take<|t.idxOf s+1).map D.int++[D.int n]=(t.take (t.idxOf s+1)++[n]).map D.int:=by rw[mBq];rfl
  have B:(t.take (t.idxOf s+1)++[n])++t.drop (t.idxOf s+1)=sp n s t:=by unfold sp;rw[qF h,ak];rfl
  unfold spA;rw[qF h];simp! [B2,Ic,dI,l,u,zp,x,z,l1,q1,l2,←mBq,B,Hv]
 .have l:decide (s∈t)=f_:=d4 h;unfold spA;rw[qL h];simp! [B2,Ic,dI,l]
def Sb{rs:Λ}(hr:∀r∈rs,r.length<=1000)n s:ui uS (pd B2<|oz (oR 0)<|oz (oR 1)<|oz (oR 2) oS) [i3 n,i3 s] (rs.map dI)=bj (rs.map<|spA n s):=by
 rw[Z.ye λd=>spA n s<|Fg d];.rw[GP λr=>spA n s r]
 .intro d hd;have(r,l,rfl):=D9 hd;show([bj<|.sh<|dI r,i3 n,i3 s],?_);simp! [YU<|hr r l,yg]
def My(u:rs.flatten.length<=1000)(hl:rs.length<=1000)s:yC [dM rs,.int n,.int s]=bj (if s∈rs.flatten then .ok (.ow<|rs.map<|spA n s)else .ex "NotThere" [%["end"|s]]):=by
 have ht:=C4 (rs:=rs) ∅;by_cases h:s∈rs.flatten
 .have l:decide (s∈rs.flatten)=t_:=d0 h;have t:=Sb (rs:=rs) (λr hr=>by have:=Ck hr;lia) n s;have l1:rs.length<=tL:=tY ∅;rw[qF h];simp! [yC,Bk,ht,l,t,l1]
 .have l:decide (s∈rs.flatten)=f_:=d4 h;rw[qL h];simp! [yC,Bk,ht,l]
def P8(hl:rs.length<=1000):zw [dM rs,.int n]=bj (if []∈rs then .ok (.ow<|(rs.set (rs.idxOf []) [n]).map λr=>.sh<|dI r)else .ex "NoPlace" []):=by
 by_cases h:([]:Ϝ)∈rs
 .have l:decide (([]:Ϝ)∈rs)=t_:=d0 h;have hk:=dc.mpr h;have s:wW rs n_ (bj (rs.idxOf []:Int))=rs.take (rs.idxOf []):=K12.ZY rs<|rs.idxOf [];have t:wW rs (bj<|(rs.idxOf []:Int)+1) n_=rs.drop (rs.idxOf []+1):=K12.RM rs<|rs.idxOf []+1;have l1:(rs.take<|rs.idxOf []).length+1<=tL:=tY<|by rw[lTq];lia
  have l2:(rs.take (rs.idxOf [])++[[n]]).length+(rs.drop<|rs.idxOf []+1).length<=tL:=tY<|by simp only[lAq,lTq,au,lSq];lia
  have q1:(rs.take<|rs.idxOf []).map dI++[D.list [D.int n]]=(rs.take (rs.idxOf [])++[[n]]).map dI:=by rw[mBq];rfl
  have u:(rs.take (rs.idxOf [])++[[n]])++rs.drop (rs.idxOf []+1)=rs.set (rs.idxOf []) [n]:=by rw[List.set_eq_take_append_cons_drop,qF hk,ak];rfl
  rw[qF h];simp! [zw,CC,VI,l,Zb,h,zp,s,t,l1,q1,l2,←mBq,u]
 .have l:decide (([]:Ϝ)∈rs)=f_:=d4 h;rw[qL h];simp! [zw,CC,VI,l]
noncomputable def pr:D->Ϝ->Bool
 | .non,r=>decide<|r=[]
 | .int s,r=>decide<|s∈r
 |_,_=>f_
def inr(n:Int):D->Ϝ->Ϝ
 | .int s,r=>sp n s r
 |_,r=>n::r
def GG(rs:Λ)(n:Int)(d:D):Option Λ:=if rs.any (pr d)=t_ then bj<|rs.set (rs.findIdx<|pr d)<|inr n d<|rs.getD (rs.findIdx<|pr d) []else n_
noncomputable def Xo:D->XW
 | .int s=>.ex "NotThere" [%["end"|s]]
 |_=>.ex "NoPlace" []
def rn(d:D):Prop:=d = .non∨∃s,d = .int s
section
variable {rs:Λ}
def Wi{p:Ϝ->Bool}{f:Ϝ->Ϝ}(t:∀r,p r=f_->f r=r)(hn:rs.Pairwise λa b=>¬ (p a=t_/\p b=t_))(l:rs.any p=t_):rs.map f=rs.set (rs.findIdx p) (f<|rs.getD (rs.findIdx p) []):=by induction rs with
 |nil=>cases l
 |cons r rs u=>have(x,z):=bV.mp hn;cases c:p r with
  |true=>
   rw[fF,c];change f r::rs.map f=f r::rs;congr 1;show(mCq λs B=>t s ?_).trans<|cW _;cases d:p s with
   |true=>show absurd (c,d)<|x s B
   |false=>rfl
  |false=>rw[dQ,c,jM]at l;rw[fF,c];change f r::rs.map f=r::_;rw[t r c,u z l];rfl
def afd(hn:rs.flatten.Nodup)s:rs.Pairwise λa b=>¬ (decide (s∈a)=t_/\decide (s∈b)=t_):=by induction rs with
 |nil=>show .nil
 |cons r rs l=>
  rw[fCq,nAq]at hn;show bV.mpr (λa ha q=>?_,l hn.2.1);show hn.2.2 s (of_decide_eq_true q.1) s (mFq.mpr (a,ha,of_decide_eq_true q.2)) rfl
def HK s:rs.any (pr<|.int s)=decide (s∈rs.flatten):=by rw[dh,cX,decide_eq_true_eq,mFq];show(λ⟨r,h,q⟩=>(r,h,of_decide_eq_true q),λ⟨r,h,q⟩=>(r,h,d0 q))
def Pl:rs.any (pr .non)=decide ([]∈rs):=by rw[dh,cX,decide_eq_true_eq];show(λ⟨r,h,q⟩=>of_decide_eq_true q ▸ h,λh=>([],h,rfl))
def aeS:rs.findIdx (pr .non)=rs.idxOf []:=by unfold List.idxOf;congr 1;funext r;cases r <;> rfl
def K9(hn:rs.flatten.Nodup)(B:rs.flatten.length<=1000)(hl:rs.length<=1000)(hd:rn d):(∃l z,GG rs n d=bj l/\pA z=dM l/\wR [dM rs,.int n,d]=bj (.ok z))∨(GG rs n d=n_/\wR [dM rs,.int n,d]=bj (Xo d)):=by
 rcases hd with rfl|⟨s,rfl⟩
 .have u:=P8 (rs:=rs) (n:=n) hl;have t:Hu .non .non=bj (.bl t_):=rfl;by_cases h:([]:Ϝ)∈rs
  .rw[qF h]at u;show .inl (rs.set (rs.idxOf []) [n],.ow<|(rs.set (rs.idxOf []) [n]).map λr=>.sh<|dI r,?_,by rw[vY,Ot],?_)
   .unfold GG;rw[Pl,aeS,qF<|d0 h];have hk:=dc.mpr h;have:rs.getD (rs.idxOf []) []=[]:=by rw[gDq,gEg hk,ff hk];rfl
    rw[this];rfl
   .simp! [wR,Am,t,u]
  .rw[qL h]at u;show .inr (?_,?_);.unfold GG;rw[Pl,qL<|by simp[h]]
   .simp! [wR,Am,t,u,Xo]
 .have x:=My (rs:=rs) (n:=n) B hl s;have t:Hu (.int s) .non=bj (.bl f_):=rfl;by_cases h:s∈rs.flatten
  .rw[qF h]at x;show .inl (rs.map<|sp n s,.ow<|rs.map<|spA n s,?_,?_,?_);.unfold GG;rw[HK,qF<|d0 h];congr 1;show(Wi (p:=pr<|.int s) (f:=sp n s) (λr q=>by unfold sp;rw[qL<|of_decide_eq_false q]) (afd hn s)<|by rw[HK];show d0 h).symm
   .rw[vY,mPq];change D.list _=D.list _;rw[mPq];congr 1;show mCq λr Q=>aiv n s r
   .simp! [wR,Am,t,x]
  .rw[qL h]at x;show .inr (?_,?_);.unfold GG;rw[HK,qL<|by simp[h]]
   .simp! [wR,Am,t,x,Xo]
def acs{r r':Ϝ}(hk:rs[k]?=bj r)(h:r'.Perm<|n::r):(rs.set k r').flatten.Perm<|n::rs.flatten:=by induction rs generalizing k with
 |nil=>cases hk
 |cons a rs l=>cases k with
  |zero=>cases hk;show(h.append_right _)
  |succ k=>have:=l (k:=k) hk;change(a++(rs.set k r').flatten).Perm (n::(a++rs.flatten));show(this.append_left a).trans ij
def afW(h:s∈t):(sp n s t).Perm<|n::t:=by unfold sp;rw[qF h];show ij.trans<|by rw[aZ]
def GO(hd:rn d)(h:GG rs n d=bj l):l.flatten.Perm (n::rs.flatten)/\l.length=rs.length:=by
 unfold GG at h;split at h
 .rename_i t;cases h;show(?_,lZq);have(x,u,z):=cX.mp t;have hk:rs.findIdx (pr d)<rs.length:=List.findIdx_lt_length_of_exists (x,u,z);have B:=List.findIdx_getElem (xs:=rs) (p:=pr d) (w:=hk);have e:rs.getD (rs.findIdx<|pr d) []=rs[rs.findIdx (pr d)]:=by rw[gDq,gEg hk];rfl
  rw[e];show acs (gEg hk) ?_;rcases hd with rfl|⟨s,rfl⟩;.show .refl _
  .show afW<|of_decide_eq_true B
 .cases h
def WZ(t:rs.flatten.length<=1000)(hl:rs.length<=1000):K23.f_settled [dM rs]=bj (if rs.flatten.length<=128/\bare rs<=128 then .ok (.ow<|(AO<|rs.map good).map aI)else .ex "TooMany" []):=by
 have l:=Tr (rs:=rs) ∅;have s:=vK (rs:=rs) (λr hr=>by have:=Ck hr;lia)<|tY ∅;by_cases c:rs.flatten.length<=128/\bare rs<=128
 .rw[qF c]at l ⊢;simp! [K23.f_settled,K23.mf_settled,l,s]
 .rw[qL c]at l ⊢;simp! [K23.f_settled,K23.mf_settled,l]
end
end K21
namespace K51
open PySem L2 Mr Z Xe Zl
noncomputable def rot(r:Ϝ):Ϝ:=r.drop 1++r.take 1
def uZ(r:Ϝ):List<|rD×Int:=(r.zip<|rot r).map λp=>%[.inl p.1|p.2]
def su(rs:Λ):List<|rD×Int:=(rs.map uZ).flatten
noncomputable def A5(ps:List<|rD×Int):List<|rD×D:=ps.map λp=>%[p.1|D.int p.2]
def Hb r:(rot r).length=r.length:=by unfold rot;rw[lAq,au,lTq];lia
def rot_perm r:(rot r).Perm r:=by show cu.trans ?_;rw[aZ]
def Ba r:(uZ r).length=r.length:=by unfold uZ;rw[lMq,List.length_zip,Hb,Nat.min_self]
def Hs r:(uZ r).map (·.1)=r.map bH:=by
 unfold uZ;rw[mPq];have:r.map bH=((r.zip<|rot r).map Prod.fst).map (bH:Int->rD):=by rw[hZ<|by rw[Hb];show ae _]
 rw[this,mPq];rfl
def Pc r:(uZ r).map (·.2)=rot r:=by
 unfold uZ;rw[mPq];have:rot r=(r.zip<|rot r).map Prod.snd:=by rw[List.map_snd_zip<|by rw[Hb];show ae _]
 show this.symm
theorem yT:∀rs,(su rs).map (·.1)=rs.flatten.map bH
 | []=>rfl
 |r::rs=>by change(uZ r++su rs).map (·.1)=_;simp only[mBq,Hs,yT rs,fCq,mBq]
theorem FT:∀rs,((su rs).map (·.2)).Perm rs.flatten
 | []=>.nil
 |r::rs=>by change((uZ r++su rs).map (·.2)).Perm _;rw[mBq,Pc];show(rot_perm r).append<|FT rs
def W2 rs:(su rs).length=rs.flatten.length:=by
 have:=congrArg cH<|yT rs;rwa [lMq,lMq]at this
def LC(rs)r:su (rs++[r])=su rs++uZ r:=by unfold su;simp
def afv ps:(A5 ps).length=ps.length:=lMq _
def aeR a b:A5 (a++b)=A5 a++A5 b:=mBq
def Z6 ps:(A5 ps).map (·.1)=ps.map (·.1):=by unfold A5;rw[mPq];rfl
def Kf{j:Nat}(h:r[j]?=bj z)(l:(rot r)[j]?=bj y):(uZ r)[j]?=bj %[.inl z|y]:=by unfold uZ;rw[gMq,dU (z:=%[z|y]).mpr (h,l)];rfl
def Sv{rs:Λ}{r:Ϝ}(hn:rs.flatten.Nodup)(hr:rs[i]?=bj r)(n:r[j]?=bj z)(u:(rot r)[j]?=bj y) :
  IM (A5<|su (rs.take i)++(uZ r).take j) (.inl z) (.int y)=A5 (su (rs.take i)++(uZ r).take (j+1)):=by
 have s:=wB hr;have l:((rs.take i).flatten++r).Nodup:=by
  rw[←s];have B:rs.flatten=(rs.take<|i+1).flatten++(rs.drop<|i+1).flatten:=by rw[←fAq,aZ]
  rw[B]at hn;show(nAq.mp hn).1
 rw[Kc];.rw[tX<|Kf n u,←ak,aeR (_++_) [_]];rfl
 .rw[Z6,mBq,yT,jd,Hs,←jd];intro m;rcases mAq.mp m with m|m;.have(x,t,e2):=mMq.mp m;cases e2;show(nAq.mp l).2.2 _ t _ (mGq n) rfl
  .have(x,t,e2):=mMq.mp m;cases e2;have:=bD.sublist (bq (j+1) r) (nAq.mp l).2.1;rw[tX n]at this;show(nAq.mp this).2.2 _ t _ ⋯ rfl
def Ny{rs:Λ}{r:Ϝ}(hl:rs.flatten.length<=1000)(hr:rs[i]?=bj r):(A5<|su (rs.take i)++(uZ r).take j).length<tL:=by have l:=zC rs<|i+1;rw[wB hr,lAq]at l;simp only[afv,lAq,W2,lTq,Ba];lia
def anS(r:Ϝ):wW (r.map D.int) (bj 1) n_=(r.drop 1).map D.int:=by rw[zp];cases r with
 |nil=>rfl
 |cons x r=>rw[show(bj 1)=bj ((1:Nat):Int)from rfl,yO _ _ ⋯]
def anG(r:Ϝ):wW (r.map D.int) n_ (bj 1)=(r.take 1).map D.int:=by rw[zp];cases r with
 |nil=>rfl
 |cons x r=>rw[show(bj 1)=bj ((1:Nat):Int)from rfl,ES _ _ ⋯]
def ZE(hn:rs.flatten.Nodup)(hl:rs.flatten.length<=1000):J2 [dM rs]=bj (.owd<|A5<|su rs):=by
 have key:=Ai (x:=2) (body:=FD) (λi S=>∃E l n,S=[bj<|.sh<|dM rs,bj<|.owd<|A5<|su<|rs.take i,E,l,n]) (ds:=rs.map dI) (S:=[bj<|.sh<|dM rs,bj<|.owd [],n_,n_,n_]) (n_,n_,n_,rfl) (by
  rintro i d S hd ⟨E,l,n,rfl⟩;have(r,hr,rfl):=P9 hd;have H:r.length<=1000:=by have I:=zC rs<|i+1;rw[wB hr,lAq]at I;lia
  have t:(r.map D.int).length=((rot r).map D.int).length:=by rw[lMq,lMq,Hb]
  have J:=ahq (x:=3) (y:=4) (k:=0) (body:=FZ) (λj S=>∃l n,S=[bj<|.sh<|dM rs,bj<|.owd<|A5<|su (rs.take i)++(uZ r).take j,bj<|.sh<|dI r,l,n]) (S:=[bj<|.sh<|dM rs,bj<|.owd<|A5<|su<|rs.take i,bj<|.sh<|dI r,l,n]) t (l,n,by simp) (by
   rintro j d e S hd L ⟨l,n,rfl⟩;have(z,M,rfl):=V5 hd;have(y,O,rfl):=V5 L;have P:=Ny (j:=j) hl hr;have u:=Sv hn hr M O;show(_,?_,i3 z,i3 y,rfl);simp! [FZ,P,u]);have(T,e2,Q,R,rfl):=J;rw[cO,lMq,←Ba,bw]at e2;show(_,?_,bj<|.sh<|dI r,Q,R,rfl);rw[tX hr,LC];have G:(r.drop 1).length+(r.take 1).length<=tL:=tY<|by rw[au,lTq];lia
  have B:(r.drop 1).map D.int++(r.take 1).map D.int=(rot r).map D.int:=by unfold rot;rw[mBq]
  have s:=(Hb r).symm;simp! [FD,anS,anG,G,B,s,e2]);have(U,e,E,l,n,rfl):=key;rw[lMq,bw]at e;simp! [J2,SB,e]
end K51
namespace K15
open PySem L2 Mr Z Xe Zl
def D4(hn:(ps.map (·.1)).Nodup)(h:%[k|n]∈ps):Z.getD (K51.A5 ps) k=bj (.int n):=by induction ps with
 |nil=>cases h
 |cons p ps l=>
  rw[aq,aJ]at hn;change((%[p.1|D.int p.2]::K51.A5 ps).find? _).map _=_;rcases ag.mp h with e|e
  .rw[←e,fG ⋯];rfl
  .rw[fJ (by
    intro z;have s:=by simpa using z
    show hn.1<|by rw[s];show mMq.mpr (_,e,rfl))];show l hn.2 e
def Zv{ps:List<|rD×Int}(hn:(ps.map (·.2)).Nodup)(h:%[k|n]∈ps)(h':%[s|n]∈ps):k=s:=by induction ps with
 |nil=>cases h
 |cons p ps t=>
  rw[aq,aJ]at hn;rcases ag.mp h with e|e
  .rcases ag.mp h' with l|l;.rw[←e]at l;show(congrArg Prod.fst l).symm
   .show absurd (mMq.mpr (_,l,by rw[←e])) hn.1
  .rcases ag.mp h' with l|l;.show absurd (mMq.mpr (_,e,by rw[←l])) hn.1
   .show t hn.2 e l
def nx(rs:Λ)(e:Int):Int:=match Z.getD (K51.A5<|K51.su rs) (.inl e)with
 |bj (.int n)=>n
 |_=>0
def fw(rs:Λ)(e:Int):Int:=nx rs<|-e
def Pw(hn:rs.flatten.Nodup):((K51.su rs).map (·.1)).Nodup:=by rw[K51.yT,ba,bM];show bD.imp (λh e=>h<|bH.inj e)<|ba.mp hn
def JW(hn:rs.flatten.Nodup)(s:e∈rs.flatten):%[bH e|nx rs e]∈K51.su rs:=by
 have hk:(bH e)∈(K51.su rs).map (·.1):=by rw[K51.yT];show mMq.mpr (e,s,rfl)
 have((k,n),l,rfl):=mMq.mp hk;have:=D4 (Pw hn) l;unfold nx;rw[this];show l
def aas(hn:rs.flatten.Nodup)(l:e∈rs.flatten):Z.getD (K51.A5<|K51.su rs) (.inl e)=bj (.int<|nx rs e):=D4 (Pw hn)<|JW hn l
def ZU(hn:rs.flatten.Nodup)(l:e∈rs.flatten):nx rs e∈rs.flatten:=(K51.FT rs).mem_iff.mp<|mMq.mpr (_,JW hn l,rfl)
def ZI(hn:rs.flatten.Nodup)(ha:a∈rs.flatten)(hb:b∈rs.flatten)(h:nx rs a=nx rs b):a=b:=by have l:=JW hn ha;have n:=JW hn hb;rw[h]at l;show bH.inj<|Zv ((K51.FT rs).symm.nodup hn) l n
def FQ(hm:Mp rs):SG (fw rs) rs.flatten:=(hm.hn,λe l=>ZU hm.hn<|hm.hneg e l,λa ha b hb h=>by have:=ZI hm.hn (hm.hneg a ha) (hm.hneg b hb) h;lia)
def stp(rs:Λ)(E:Ϝ):List<|rD×D:=E.map λe=>%[bH e|.int<|fw rs e]
def adi(hn:rs.flatten.Nodup)(l:e∈rs.flatten):Z.getD (stp rs rs.flatten) (.inl e)=bj (.int<|fw rs e):=by
 have h:=D4 (ps:=rs.flatten.map λe=>%[bH e|fw rs e]) (by rw[mPq,ba,bM];show bD.imp (λh e=>h<|bH.inj e)<|ba.mp hn)<|mMq.mpr (e,l,rfl);unfold K51.A5 at h;rw[mPq]at h;show h
def ag7 rs:(K51.A5<|K51.su rs).map (λp=>kD p.1)=rs.flatten.map D.int:=by
 have:(K51.A5<|K51.su rs).map (λp=>kD p.1)=((K51.su rs).map (·.1)).map kD:=by unfold K51.A5;rw[mPq,mPq];rfl
 rw[this,K51.yT,mPq];rfl
def Tq(hm:Mp rs):ET [dM rs]=bj (.owd<|stp rs rs.flatten):=by
 have z:=K51.ZE hm.hn hm.hl;have hl:=hm.hl;have key:=Ai (x:=3) (body:=CG) (λi S=>∃l,S=[bj<|.sh<|dM rs,bj<|.sh<|.fd<|K51.A5<|K51.su rs,bj<|.owd<|stp rs<|rs.flatten.take i,l]) (ds:=rs.flatten.map D.int) (S:=[bj<|.sh<|dM rs,bj<|.sh<|.fd<|K51.A5<|K51.su rs,bj<|.owd [],n_]) (n_,rfl) (by
  rintro i d S hd ⟨l,rfl⟩;rw[gMq]at hd;have(e,n,rfl):=oMq.mp hd;have s:=mGq n;have B:=aas hm.hn<|hm.hneg e s;have l1:(stp rs<|rs.flatten.take i).length<tL:=by unfold stp;rw[lMq,lTq];change _<16777216;lia
  have t:IM (stp rs<|rs.flatten.take i) (.inl e) (.int<|nx rs<|-e)=stp rs (rs.flatten.take<|i+1):=by
   rw[Kc];.unfold stp;rw[tX n,mBq];rfl
   .intro m;have(p,t,e1):=mMq.mp m;have(x,E,rfl):=mMq.mp t;have e2:=bH.inj e1;subst e2;have:=bD.sublist (bq (i+1) rs.flatten) hm.hn;rw[tX n]at this;show(nAq.mp this).2.2 x E x ⋯ rfl
  show(_,?_,i3 e,rfl);simp! [CG,B,l1,t]);have(H,e,l,rfl):=key;rw[lMq,bw]at e;have G:=ag7 rs;have u:((3)≠1)=True:=by simp
 simp! [ET,KJ,z,u,G,e]
noncomputable def mu(N:Nat):AS->Nat
 | [_,_,bj (.ow l),_]=>N+1-l.length
 |_=>0
def ado(f)e n:((bQ n).map λk=>itr f k e)++[itr f n e]=(bQ<|n+1).map λk=>itr f k e:=by rw[List.range_succ,mBq];rfl
def agp(hm:Mp rs)(B:e∈rs.flatten):∃l,Cy (fw rs) e l/\l.length<=rs.flatten.length/\zS [.dict<|stp rs rs.flatten,.int e]=bj (aI l):=by
 have one:=FQ hm;have(l,cy,u,s):=one.cy B;have hl:=hm.hl;show(l,cy,u,?_);have t:∀n,Z.getD (stp rs rs.flatten) (.inl<|itr (fw rs) n e)=bj (.int<|itr (fw rs) (n+1) e):=λn=>adi hm.hn<|one.itr_mem B n;have key:=DM (c:=tG<|qE dNe (oE 3)<|oE 1) (body:=zI) (λS=>∃n,1<=n/\n<=l.length/\S=[bj<|.sh<|.dict<|stp rs rs.flatten,i3 e,bj<|aI<|(bQ n).map λk=>itr (fw rs) k e,i3<|itr (fw rs) n e]) (mu l.length) (λS=>∃E,S=[bj<|.sh<|.dict<|stp rs rs.flatten,i3 e,bj<|aI l,E]) (by
  rintro S ⟨n,O,P,rfl⟩;by_cases hn:n<l.length
  .have x:¬ itr (fw rs) n e=e:=s n (by rfl') hn;have G:=t n;have l1:n<tL:=by change _<16777216;lia
   have H:((bQ n).map λk=>itr (fw rs) k e).map (λn=>AV.sh<|.int n)++[.sh<|.int<|itr (fw rs) n e]=((bQ<|n+1).map λk=>itr (fw rs) k e).map λn=>.sh<|.int n:=by rw[←ado,mBq];rfl
   show(t_,[bj<|.sh<|.dict<|stp rs rs.flatten,i3 e,bj<|aI<|(bQ n).map λk=>itr (fw rs) k e,i3<|itr (fw rs) n e],?_,λW=>([bj<|.sh<|.dict<|stp rs rs.flatten,i3 e,bj<|aI<|(bQ<|n+1).map λk=>itr (fw rs) k e,i3<|itr (fw rs) (n+1) e],?_,(n+1,by rfl',by rfl',rfl),?_),λq=>(nomatch q));.simp! [x]
   .simp! [zI,bo,l1,H,G]
   .change l.length+1-_<l.length+1-_;simp only[lMq,bo];lia
  .have I:n=l.length:=by rfl'
   subst I;have hb:=cy.back;have J:=cy.get;show(f_,[bj<|.sh<|.dict<|stp rs rs.flatten,i3 e,bj<|aI<|(bQ l.length).map λk=>itr (fw rs) k e,i3<|itr (fw rs) l.length e],?_,λq=>(nomatch q),λW=>(i3<|itr (fw rs) l.length e,by rw[←J]));simp! [hb]);have L:=t 0;have(Q,M,E,rfl):=key 100000 [bj<|.sh<|.dict<|stp rs rs.flatten,i3 e,bj<|.ow [.sh<|.int e],i3<|itr (fw rs) (0+1) e] (1,ae _,cy.len,rfl) (by change l.length+1-1<100000;lia);have z:Z.getD (stp rs rs.flatten) (.inl e)=bj (.int<|itr (fw rs) (0+1) e):=L;simp! [zS,Fl,z,M]
noncomputable def kI(l:Ϝ):List<|rD×D:=l.map λk=>%[(bH k:rD)|D.bl t_]
def abZ(l)t:(kI l).any (λs=>decide<|s.1=(bH t:rD))=decide (t∈l):=by induction l with
 |nil=>rfl
 |cons k l n=>
  unfold kI at n ⊢;simp only[aq,dQ,n];by_cases h:t=k;.subst h;simp
  .have u:¬ (bH k:rD)=bH t:=λq=>h (bH.inj q).symm;simp[u,h]
def Km(l)t:(Z.getD (kI l)<|bH t).isSome=decide (t∈l):=by unfold Z.getD;rw[gT,←abZ,dh,List.find?_isSome,cX]
def Ul(h:t∉l):IM (kI l) (bH t) (.bl t_)=kI (l++[t]):=by unfold IM;rw[abZ,d4 h];simp[kI]
def Uc l:(kI l).length=l.length:=by unfold kI;rw[lMq]
structure Rd (f:Int->Int)(E:Ϝ)(kn:Ϝ)(L:Λ):Prop where
 cy:∀l∈L,∃e,Cy f e l
 fl:L.flatten=kn
 nd:kn.Nodup
 sub:∀x∈kn,x∈E
 cl:∀x∈kn,f x∈kn
theorem Rd.itr(h:Rd f E kn L)(l:x∈kn):∀n,itr f n x∈kn
 |0=>l
 |n+1=>h.cl _<|h.itr l n
def Rd.out(h:Rd f E kn L)(c:Cy f e l)(t:e∉kn):∀x∈l,x∉kn:=by
 intro x u hk;have(j,n):=cw.mp u;have s:=(gSq.mp n).1;rw[c.at s]at n;have e1:=bj.inj n;subst e1;have:=h.itr hk<|l.length-j;rw[←Cw,show l.length-j+j=l.length by lia,c.back]at this;show t this
def Rd.add(G:SG f E)(h:Rd f E kn L)(c:Cy f e l)(s:e∈E)(H:e∉kn):Rd f E (kn++l)<|L++[l]:=by
 have I:=h.out c H;show(λm hm=>?_,by rw[fAq,h.fl,aK],?_,λx t=>?_,λx t=>?_)
 .rcases mAq.mp hm with q|q;.show h.cy m q
  .rw[mSq.mp q];show(e,c)
 .rw[nAq];show(h.nd,c.nd,λa ha b hb q=>I b hb<|q ▸ ha)
 .rcases mAq.mp t with q|q;.show h.sub x q
  .rw[c.get]at q;have(n,_,rfl):=mMq.mp q;show G.itr_mem s n
 .rcases mAq.mp t with q|q;.show mAq.mpr<|.inl<|h.cl x q
  .show mAq.mpr<|.inr ?_;have(j,u):=cw.mp q;have z:=(gSq.mp u).1;rw[c.at z]at u;rw[←bj.inj u];change Zl.itr f (j+1) e∈l;by_cases B:j+1<l.length;.show mGq<|c.at B
   .rw[show j+1=l.length by rfl',c.back];show c.self
def Rd.orb(h:Rd f E kn L)(l:∀x∈E,x∈kn):Qk f E L:=(h.cy,by rw[h.fl];show h.nd,λx=>by rw[h.fl];show(h.sub x,l x))
noncomputable def yF(rs:Λ):Λ:=(rs.filter λr=>decide<|r=[]).map λQ=>[]
def ZS rs:ui (tG<|qE Ep (yK vJ<|oC (oE 0) oW)<|rC<|.int 0) (rV oS) [] (rs.map dI)=bj ((yF rs).map aI):=by
 rw[Z.wN (λd=>decide<|Fg d=[])<|λQ=>.ow []]
 .unfold yF;rw[gn,mPq,mPq];have:(λd=>decide<|Fg d=[])∘dI=λr=>decide<|r=[]:=by funext r;change decide (Fg (dI r)=[])=_;rw[yg]
  rw[this];rfl
 .intro d hd;have(r,hr,rfl):=D9 hd;rw[yg];show([bj<|.sh<|dI r],?_,λQ=>([bj<|.sh<|dI r],?_))
  .by_cases h:r=[]
   .subst h;have z:((0:Nat):Int)=0:=rfl;simp! [dI,z]
   .have l:¬ ((r.length):Int)=0:=λq=>h<|bG.mp ∅;simp! [dI,l,h]
  .simp! []
def YS(hn:(kn++l).Nodup)(hl:kn.length+l.length<500000):∃n,vw 6 CH (l.map D.int) [v0,v1,bj<|.owd<|kI kn,v3,v4,v5,v6]=bj (.nx [v0,v1,bj<|.owd<|kI<|kn++l,v3,v4,v5,n]):=by
 have key:=Ai (x:=6) (body:=CH) (λi S=>∃n,S=[v0,v1,bj<|.owd<|kI<|kn++l.take i,v3,v4,v5,n]) (ds:=l.map D.int) (S:=[v0,v1,bj<|.owd<|kI kn,v3,v4,v5,v6]) (v6,by simp) (by
  rintro i d S hd ⟨n,rfl⟩;rw[gMq]at hd;have(e,t,rfl):=oMq.mp hd;have s:=λm=>by have u:=bD.sublist (eR.append (eR.refl kn)<|bq (i+1) l) hn;rw[tX t,←ak]at u;show(nAq.mp u).2.2 e m e ⋯ rfl
  have z:=Ul s;rw[ak,←tX t]at z;have l1:(kI<|kn++l.take i).length<tL:=by rw[Uc,lAq,lTq];change _<16777216;lia
  show(_,?_,i3 e,rfl);simp! [CH,l1,z]);have(B,e,n,rfl):=key;rw[lMq,bw]at e;show(n,e)
def fnd(B L:Λ):AV:=.ow<|B.map aI++L.map λl=>.sh<|dI l
def Tw(hm:Mp rs):∃v1 v2 v4 v5 v6 L,vw 4 Aj ((Ga rs.flatten).map D.int) [bj<|.sh<|dM rs,bj<|.owd<|stp rs rs.flatten,bj<|.owd [],bj<|fnd (yF rs) [],n_,n_,n_]=bj (.nx [bj<|.sh<|dM rs,v1,v2,bj<|fnd (yF rs) L,v4,v5,v6])/\Qk (fw rs) rs.flatten L:=by
 have one:=FQ hm;have hl:=hm.hl;have J:=hm.hr;have M:=Il rs.flatten;have key:=Ai (x:=4) (body:=Aj) (λi S=>∃s L v1 v4 v5 v6,S=[bj<|.sh<|dM rs,bj v1,bj<|.owd<|kI s,bj<|fnd (yF rs) L,v4,v5,v6]/\pA v1 = .dict (stp rs rs.flatten)/\(∀x,v1=x->(x = .owd (stp rs rs.flatten)∨x = .sh (.dict<|stp rs rs.flatten)))/\Rd (fw rs) rs.flatten s L/\L.length<=i/\∀j x,j<i->(Ga rs.flatten)[j]?=bj x->x∈s) (ds:=(Ga rs.flatten).map D.int) (S:=[bj<|.sh<|dM rs,bj<|.owd<|stp rs rs.flatten,bj<|.owd [],bj<|fnd (yF rs) [],n_,n_,n_]) ([],[],.owd<|stp rs rs.flatten,n_,n_,n_,rfl,rfl,λx h=>.inl h.symm,(by simp,rfl,aW,by simp,by simp),ae _,λj x h=>absurd h<|dN _) (by
  rintro i d S hd ⟨s,L,v1,v4,v5,v6,rfl,z,B,hr,R,n⟩;rw[gMq]at hd;have(e,H,rfl):=oMq.mp hd;have O:=(gSq.mp H).1;rw[M.length_eq]at O;have E:e∈rs.flatten:=M.mem_iff.mp<|mGq H;have I:=Km s e;by_cases c:e∈s
  .rw[d0 c]at I;show([bj<|.sh<|dM rs,bj v1,bj<|.owd<|kI s,bj<|fnd (yF rs) L,i3 e,v5,v6],?_,s,L,v1,_,_,_,rfl,z,B,hr,by rfl',λj x u t=>?_);.simp! [Aj,I]
   .rcases dY.mp u with q|rfl;.show n j x q t
    .rw[H]at t;cases t;show c
  .rw[d4 c]at I;have(l,cy,T,U):=agp hm E;have G:=hr.add one cy E c;have X:=T1 _ _ hr.nd hr.sub;have(P,Q):=YS (kn:=s) (l:=l) (v0:=bj<|.sh<|dM rs) (v1:=bj<|.sh<|.dict<|stp rs rs.flatten) (v3:=bj<|fnd (yF rs) L) (v4:=i3 e) (v5:=bj<|.sh<|dI l) (v6:=v6) G.nd ∅;have Y:=rG l;have lb:(yF rs).length<=rs.length:=by unfold yF;rw[lMq];show dG _ _
   have l1:((yF rs).map aI++L.map λl=>AV.sh<|dI l).length<tL:=by rw[lAq,lMq,lMq];change _<16777216;lia
   have ea:((yF rs).map aI++L.map λl=>AV.sh<|dI l)++[.sh<|dI l]=(yF rs).map aI++(L++[l]).map λl=>.sh<|dI l:=by rw[ak,mBq];rfl
   show([bj<|.sh<|dM rs,bj<|.sh<|.dict<|stp rs rs.flatten,bj<|.owd<|kI<|s++l,bj<|fnd (yF rs)<|L++[l],i3 e,bj<|.sh<|dI l,P],?_,s++l,L++[l],.sh<|.dict<|stp rs rs.flatten,_,_,_,rfl,rfl,λx h=>.inr h.symm,G,by rw[lAq,lSq];rfl',λj x u t=>?_)
   .unfold fnd at Q ⊢;simp! [Aj,I,z,U,Y,Q,l1,ea]
   .rcases dY.mp u with q|rfl;.show mAq.mpr<|.inl<|n j x q t
    .rw[H]at t;cases t;show mAq.mpr<|.inr cy.self);have(S',e,s,L,v1,v4,v5,v6,rfl,_,_,hr,_,n):=key;show(_,_,_,_,_,L,e,hr.orb λx t=>?_);have(j,u):=cw.mp<|M.mem_iff.mpr t;show n j x (by rw[lMq];show(gSq.mp u).1) u
def Lf rs:(yF rs).length<=rs.length:=by unfold yF;rw[lMq];show dG _ _
def NC B L:pA (fnd B L)=dM (B++L):=by
 unfold fnd;rw[vY,mBq,mPq,mPq];change D.list _=D.list ((B++L).map dI);rw[mBq];congr 2;.show mCq λr Q=>rG r
def O5(hm:Mp rs)(h:Qk (fw rs) rs.flatten L):(∀l∈L,l.length<=1000)/\L.length<=1000:=by
 have p:=(cK h.dj hm.hn).mpr h.all;have hl:=hm.hl;show(λl n=>?_,?_);.have:=eR.length_le<|aN n;rw[p.length_eq]at this;lia
 .have:∀{L:Λ},(∀l∈L,1<=l.length)->L.length<=L.flatten.length:=λ{L} h=>by induction L with
   |nil=>show ae _
   |cons a L s=>
    have t:=h a<|bf ..;have u:=s λl hl=>h l<|mCo _ hl;simp only[lCq,fCq,lAq];lia
  have:=this λl hl=>by have(e,c):=h.cy l hl;show c.len
  rw[p.length_eq]at this;lia
def DU(hm:Mp rs):∃L,Qk (fw rs) rs.flatten L/\rJ [dM rs]=bj (.ow<|(AO<|(yF rs++L).map good).map aI):=by
 have(H,I,J,M,O,L,e,n):=Tw hm;have hl:=hm.hl;have l:=hm.hr;have ow:=Tq hm;have s:=ZS rs;have t:=aeI (rs:=rs) ∅;have u:rs.length<=tL:=by change _<=16777216;lia
 have z:AV.ow ((yF rs).map aI)=fnd (yF rs) []:=by unfold fnd;rw[cL,aNq]
 have st:=NC (yF rs) L;have(B,P):=O5 hm n;have bl:=Lf rs;have E:=vK (rs:=yF rs++L) (λr hr=>by
  rcases mAq.mp hr with q|q;.have(x,_,rfl):=mMq.mp q;show aY _
  .have:=B r q;lia)<|by rw[lAq];change _<=16777216;lia
 show(L,n,?_);have G:=rG<|Ga rs.flatten;simp! [rJ,Qn,ow,dM,s,u,z,t,G,dI,e,st,E]
def abI(l:j<r.length):(K51.rot r)[j]?=r[(j+1) % r.length]?:=by
 unfold K51.rot;by_cases h:j+1<r.length;.rw[ik h,gZq<|by rw[au];omega,dF,gw]
 .have e:j+1=r.length:=by rfl'
  rw[e,jo,gYq<|by rw[au];omega,au,cZ<|by omega];congr 1;lia
def Yw(hm:Mp rs):E6 [dM rs]=bj (.owd<|K51.A5<|K51.su rs):=by
 have hn:=hm.hn;have hl:=hm.hl;have key:=Ai (x:=2) (body:=Cp) (λi S=>∃t l,S=[bj<|.sh<|dM rs,bj<|.owd<|K51.A5<|K51.su<|rs.take i,t,l]) (ds:=rs.map dI) (S:=[bj<|.sh<|dM rs,bj<|.owd [],n_,n_]) (n_,n_,rfl) (by
  rintro i d S hd ⟨t,l,rfl⟩;have(r,hr,rfl):=P9 hd;have E:=hm.row hr;have G:=Ai (x:=3) (body:=CN) (λj S=>∃l,S=[bj<|.sh<|dM rs,bj<|.owd<|K51.A5<|K51.su (rs.take i)++(K51.uZ r).take j,bj<|.sh<|dI r,l]) (ds:=sV 0 r.length) (S:=[bj<|.sh<|dM rs,bj<|.owd<|K51.A5<|K51.su<|rs.take i,bj<|.sh<|dI r,l]) (l,by simp) (by
   rintro j d S hd ⟨l,rfl⟩;have u:j<r.length:=by
    have:=(gSq.mp hd).1;rwa [uJ]at this
   rw[Gf u,jR]at hd;cases hd;have z:r[j]?=bj r[j]:=gEg u;have n:(j+1) % r.length<r.length:=Nat.mod_lt _ ∅;have H:(K51.rot r)[j]?=bj r[(j+1) % r.length]:=by rw[abI u];show gEg n
   have I:=K51.Ny (j:=j) hl hr;have s:=K51.Sv hn hr z H;have J:atI (r.map D.int) (j:Int)=bj (.int r[j]):=zZ<|by rw[gMq,z];rfl
   have B:=uW (i:=(j)+1) (j:=(r.length)) ∅;have L:((j:Int)+1) % (r.length)=(((j+1) % r.length:Nat)):=by rfl
   rw[L]at B;have M:atI (r.map D.int) (((j+1) % r.length:Nat))=bj (.int r[(j+1) % r.length]):=zZ<|by rw[gMq,gEg n];rfl
   show(_,?_,i3<|j,rfl);simp! [CN,dI,J,B,M,I,s]);have(Q,e2,O,rfl):=G;rw[uJ,←K51.Ba,bw]at e2;have P:J9 [.int<|r.length]=bj (sV 0 r.length):=zT ∅;rw[K51.Ba]at e2;show(_,?_,bj<|.sh<|dI r,O,rfl);rw[tX hr,K51.LC];simp! [Cp,dI,P,e2]);have(R,e,t,l,rfl):=key;rw[lMq,bw]at e;simp! [E6,K2,e]
def X1 rs:ui (uK<|R5<|oE 0) (rV oS) [] (rs.map dI)=bj ((yF rs).map aI):=by
 rw[Z.wN (λd=>decide<|Fg d=[])<|λQ=>.ow []]
 .unfold yF;rw[gn,mPq,mPq];have:(λd=>decide<|Fg d=[])∘dI=λr=>decide<|r=[]:=by funext r;change decide (Fg (dI r)=[])=_;rw[yg]
  rw[this];rfl
 .intro d hd;have(r,hr,rfl):=D9 hd;rw[yg];show([bj<|.sh<|dI r],?_,λQ=>([bj<|.sh<|dI r],?_));.cases r with
   |nil=>
    have t0:Mz (dI [])=bj f_:=rfl;simp! [t0]
   |cons x r=>
    have l:Mz (dI<|x::r)=bj t_:=rfl;simp! [l]
  .simp! []
noncomputable def mu2(N:Nat):AS->Nat
 | [_,_,_,_,_,bj (.ow l),_]=>N+1-l.length
 |_=>0
def acw(hm:Mp rs)(hr:Rd (fw rs) rs.flatten s H)(x:e∈rs.flatten)(I:e∉s):∃l v6,Cy (fw rs) e l/\wO (tG<|wC (oE 6)<|oE 2) zP 100000 [v0,bj<|.sh<|.fd<|K51.A5<|K51.su rs,bj<|.owd<|kI s,v3,i3 e,bj<|.ow [],i3 e]=bj (.nx [v0,bj<|.sh<|.fd<|K51.A5<|K51.su rs,bj<|.owd<|kI<|s++l,v3,i3 e,bj<|aI l,v6]):=by
 have one:=FQ hm;have(l,cy,J,E):=one.cy x;have hl:=hm.hl;have L:=T1 _ _ hr.nd hr.sub;have M:=hr.out cy I;have B:∀n,Z.getD (K51.A5<|K51.su rs) (.inl<|-(itr (fw rs) n e))=bj (.int<|itr (fw rs) (n+1) e):=λn=>aas hm.hn<|hm.hneg _<|one.itr_mem x n;have key:=DM (c:=tG<|wC (oE 6)<|oE 2) (body:=zP) (λS=>∃n,n<=l.length/\S=[v0,bj<|.sh<|.fd<|K51.A5<|K51.su rs,bj<|.owd<|kI<|s++l.take n,v3,i3 e,bj<|aI<|l.take n,i3<|itr (fw rs) n e]) (mu2 l.length) (λS=>∃v6,S=[v0,bj<|.sh<|.fd<|K51.A5<|K51.su rs,bj<|.owd<|kI<|s++l,v3,i3 e,bj<|aI l,v6]) (by
  rintro S ⟨n,T,rfl⟩;have z:=Km (s++l.take n)<|itr (fw rs) n e;by_cases hn:n<l.length
  .have t:=cy.at hn;have u:itr (fw rs) n e∉s++l.take n:=λm=>by
    rcases mAq.mp m with q|q;.show M _ (mGq t) q
    .have:=bD.sublist (bq (n+1) l) cy.nd;rw[tX t]at this;show(nAq.mp this).2.2 _ q _ ⋯ rfl
   rw[d4 u]at z;have G:=Ul u;rw[ak,←tX t]at G;have O:=B n;have l1:(kI<|s++l.take n).length<tL:=by rw[Uc,lAq,lTq];change _<16777216;lia
   have l2:(l.take n).length<tL:=by rw[lTq];change _<16777216;lia
   have P:(l.take n).map (λn=>AV.sh<|.int n)++[.sh<|.int<|itr (fw rs) n e]=(l.take<|n+1).map λn=>.sh<|.int n:=by rw[tX t,mBq];rfl
   show(t_,[v0,bj<|.sh<|.fd<|K51.A5<|K51.su rs,bj<|.owd<|kI<|s++l.take n,v3,i3 e,bj<|aI<|l.take n,i3<|itr (fw rs) n e],?_,λW=>([v0,bj<|.sh<|.fd<|K51.A5<|K51.su rs,bj<|.owd<|kI<|s++l.take (n+1),v3,i3 e,bj<|aI<|l.take<|n+1,i3<|itr (fw rs) (n+1) e],?_,(n+1,by rfl',rfl),?_),λq=>(nomatch q));.simp! [z]
   .simp! [zP,l1,G,l2,P,O]
   .change l.length+1-_<l.length+1-_;simp only[lMq,lTq];lia
  .have Q:n=l.length:=by rfl'
   subst Q;have hb:=cy.back;rw[hb,bw]at z ⊢;rw[d0<|mAq.mpr<|.inr cy.self]at z;show(f_,[v0,bj<|.sh<|.fd<|K51.A5<|K51.su rs,bj<|.owd<|kI<|s++l,v3,i3 e,bj<|aI l,i3 e],?_,λq=>(nomatch q),λW=>(_,rfl));simp! [z]);have(U,R,v6,rfl):=key 100000 [v0,bj<|.sh<|.fd<|K51.A5<|K51.su rs,bj<|.owd<|kI s,v3,i3 e,bj<|.ow [],i3 e] (0,aY _,by simp[itr]) (by change l.length+1-0<100000;lia);show(l,v6,cy,R)
def Q4(hm:Mp rs):∃v2 v4 v5 v6 L,vw 4 yz (rs.flatten.map D.int) [bj<|.sh<|dM rs,bj<|.sh<|.fd<|K51.A5<|K51.su rs,bj<|.owd [],bj<|fnd (yF rs) [],n_,n_,n_]=bj (.nx [bj<|.sh<|dM rs,bj<|.sh<|.fd<|K51.A5<|K51.su rs,v2,bj<|fnd (yF rs) L,v4,v5,v6])/\Qk (fw rs) rs.flatten L:=by
 have one:=FQ hm;have hl:=hm.hl;have G:=hm.hr;have key:=Ai (x:=4) (body:=yz) (λi S=>∃s L v4 v5 v6,S=[bj<|.sh<|dM rs,bj<|.sh<|.fd<|K51.A5<|K51.su rs,bj<|.owd<|kI s,bj<|fnd (yF rs) L,v4,v5,v6]/\Rd (fw rs) rs.flatten s L/\L.length<=i/\∀j x,j<i->rs.flatten[j]?=bj x->x∈s) (ds:=rs.flatten.map D.int) (S:=[bj<|.sh<|dM rs,bj<|.sh<|.fd<|K51.A5<|K51.su rs,bj<|.owd [],bj<|fnd (yF rs) [],n_,n_,n_]) ([],[],n_,n_,n_,rfl,(by simp,rfl,aW,by simp,by simp),ae _,λj x h=>absurd h<|dN _) (by
  rintro i d S hd ⟨s,L,v4,v5,v6,rfl,hr,M,n⟩;rw[gMq]at hd;have(e,B,rfl):=oMq.mp hd;have hi:=(gSq.mp B).1;have z:e∈rs.flatten:=mGq B;have E:=Km s e;by_cases c:e∈s
  .rw[d0 c]at E;show([bj<|.sh<|dM rs,bj<|.sh<|.fd<|K51.A5<|K51.su rs,bj<|.owd<|kI s,bj<|fnd (yF rs) L,i3 e,v5,v6],?_,s,L,_,_,_,rfl,hr,by rfl',λj x u t=>?_);.simp! [yz,E]
   .rcases dY.mp u with q|rfl;.show n j x q t
    .rw[B]at t;cases t;show c
  .rw[d4 c]at E;have(l,H,cy,J):=acw hm hr z c (v0:=bj<|.sh<|dM rs) (v3:=bj<|fnd (yF rs) L);have I:=hr.add one cy z c;have O:=rG l;have lb:=Lf rs;have l1:((yF rs).map aI++L.map λl=>AV.sh<|dI l).length<tL:=by rw[lAq,lMq,lMq];change _<16777216;lia
   have P:((yF rs).map aI++L.map λl=>AV.sh<|dI l)++[.sh<|dI l]=(yF rs).map aI++(L++[l]).map λl=>.sh<|dI l:=by rw[ak,mBq];rfl
   show([bj<|.sh<|dM rs,bj<|.sh<|.fd<|K51.A5<|K51.su rs,bj<|.owd<|kI<|s++l,bj<|fnd (yF rs)<|L++[l],i3 e,bj<|.sh<|dI l,H],?_,s++l,L++[l],_,_,_,rfl,I,by rw[lAq,lSq];rfl',λj x u t=>?_)
   .unfold fnd at J ⊢;simp! [yz,E,J,O,l1,P]
   .rcases dY.mp u with q|rfl;.show mAq.mpr<|.inl<|n j x q t
    .rw[B]at t;cases t;show mAq.mpr<|.inr cy.self);have(Q,e,s,L,v4,v5,v6,rfl,hr,_,n):=key;show(_,_,_,_,L,e,hr.orb λx t=>?_);have(j,u):=cw.mp t;show n j x (by rw[lMq];show(gSq.mp u).1) u
def XX(hm:Mp rs):∃L,Qk (fw rs) rs.flatten L/\rR [dM rs]=bj (.ow<|(AO<|(yF rs++L).map good).map aI):=by
 have(I,J,M,O,L,e,s):=Q4 hm;have l:=hm.hr;have t:=Yw hm;have u:=ag7 rs;have z:=X1 rs;have B:rs.length<=tL:=by change _<=16777216;lia
 have E:AV.ow ((yF rs).map aI)=fnd (yF rs) []:=by unfold fnd;rw[cL,aNq]
 have st:=NC (yF rs) L;have(G,P):=O5 hm s;have bl:=Lf rs;have H:=K13.UF (rs:=yF rs++L) (λr hr=>by
  rcases mAq.mp hr with q|q;.have(x,_,rfl):=mMq.mp q;show aY _
  .have:=G r q;lia)<|by rw[lAq];change _<=16777216;lia
 show(L,s,?_);have n:((4)≠1)=True:=by simp
 simp! [rR,Ko,t,dM,z,B,E,n,u,e,st,H]
def SV(hm:Mp rs):∃G:Λ,rJ [dM rs]=bj (.ow<|G.map aI)/\rR [dM rs]=bj (.ow<|G.map aI)/\G.flatten.Perm rs.flatten/\G.length<=1000+rs.length:=by
 have(L,n,e1):=DU hm;have(M,s,e2):=XX hm;have t:((yF rs++L).map good).Perm<|(yF rs++M).map good:=by rw[mBq,mBq];show bS.append_left _<|n.perm (FQ hm) s
 show(AO<|(yF rs++L).map good,e1,by rw[e2,Nh t],?_,?_)
 .show(HP<|vF _).trans<|(yR BC _).trans ?_;have u:=(cK n.dj hm.hn).mpr n.all;have hb:(yF rs).flatten=[]:=by
   show iw.mpr λl hl=>?_;have(x,_,rfl):=mMq.mp hl;rfl
  rw[fAq,hb];show u
 .have:=(O5 hm n).2;have:=Lf rs;rw[Al,lMq,lAq];lia
end K15
namespace K16
open PySem L2 Mr Z Xe Zl
def afG(h:0<j)(l:j.natAbs.log2<9000):acP (.int i) (.int j)=bj (.int<|i / j):=xx (h,l) _
def alR:Jy (.int 10) (.int 57)=bj (.int<|10 ^ 57):=by simp! []
def ame:Jy (.int 10) (.int 59)=bj (.int<|10 ^ 59):=by simp! []
noncomputable def pm(l:Ϝ):Ϝ:=l.flatMap λx=>[x, -x]
def af4(l)x:pm (l++[x])=pm l++[x, -x]:=by unfold pm;rw[jf];rfl
def aaP l:(pm l).length=2*l.length:=by
 unfold pm;induction l with
 |nil=>rfl
 |cons a l n=>rw[jv,lAq,n,lCq (as:=l)];change 2+_=_;rfl'
def ahQ(h:z∈pm l):-z∈pm l:=by
 unfold pm at h ⊢;rw[fV]at h ⊢;have(x,n,s):=h;show(x,n,?_);rcases ag.mp s with e|e;.rw[e];simp
 .rw[mSq.mp e,iN];simp
def an4(hn:n<=30):∃s l last v5,vw 5 C5 (sV 0 n) [s0,s1,i3 0,i3 c,bj<|.ow [],n_,n_,n_,n_,n_,n_,n_,n_]=bj (.nx [s0,s1,i3 last,i3 s,bj<|aI<|pm l,v5,n_,n_,n_,n_,n_,n_,n_])/\l.length=n/\l.Nodup/\(∀z∈l,1<=z):=by
 have key:=Ai (x:=5) (body:=C5) (λi S=>∃s l last v5,S=[s0,s1,i3 last,i3 s,bj<|aI<|pm l,v5,n_,n_,n_,n_,n_,n_,n_]/\l.length=i/\l.Nodup/\(∀z∈l,1<=z/\z<=last)/\0<=last) (ds:=sV 0 n) (S:=[s0,s1,i3 0,i3 c,bj<|.ow [],n_,n_,n_,n_,n_,n_,n_,n_])
  (c,[],0,n_,rfl,rfl,aW,λz t=>(by cases t),by decide) (by
  rintro i d S hd ⟨s,l,last,v5,rfl,hl,u,hr,B⟩;have hi:i<n:=by
   have:=(gSq.mp hd).1;rwa [uJ]at this
  have E:=uW (i:=s) (j:=10 ^ 57) ⋯;have M:=bB s (b:=10 ^ 57) ⋯;have G:=afG (i:=s) (j:=10 ^ 57) ⋯<|by trivial
  have H:=alR;have l3:(pm l).length+2<=tL:=by rw[aaP];change _<=16777216;lia
  generalize I:last+1+s % 10 ^ 57=x;have J:last+1<=x:=by lia
  have L:(pm l).map (λn=>AV.sh<|.int n)++[.sh<|.int x,.sh<|.int<|-x]=(pm<|l++[x]).map λn=>.sh<|.int n:=by rw[af4,mBq];rfl
  show([s0,s1,i3 x,i3<|s / 10 ^ 57,bj<|aI<|pm<|l++[x],bj<|.sh d,n_,n_,n_,n_,n_,n_,n_],?_,s / 10 ^ 57,l++[x],x,bj<|.sh d,rfl,by rw[lAq,hl];rfl,?_,?_,by lia);.simp! [C5,H,E,I,G,l3,L]
  .rw[nAq];show(u,by simp,λa ha b hb e=>?_);rw[mSq.mp hb]at e;have:=hr a ha;lia
  .intro z t;rcases mAq.mp t with t|t;.have:=hr z t;show(this.1,by lia)
   .rw[mSq.mp t];show(by lia,gO _));have(O,e,s,l,last,v5,rfl,hl,u,hr,B):=key;rw[uJ]at hl;show(s,l,last,v5,e,hl,u,λz t=>(hr z t).1)
noncomputable def Jb(M:List<|Int×Int):List<|rD×D:=M.map λp=>%[.inl p.1|.int p.2]
def adb M:(Jb M).length=M.length:=lMq _
def afD M:Jb M=K51.A5 (M.map λp=>%[(bH p.1:rD)|p.2]):=by unfold Jb K51.A5;rw[mPq];rfl
def ZX(h:z∉M.map (·.1)):IM (Jb M) (.inl z) (.int x)=Jb (M++[%[z|x]]):=by
 rw[Kc];.unfold Jb;rw[mBq];rfl
 .intro m;have(p,l,e1):=mMq.mp m;have(q,n,rfl):=mMq.mp l;show h<|mMq.mpr (q,n,bH.inj e1)
theorem M5{α β:Type}(f:α->β):∀(l:List α) k,(l.map f).eraseIdx k=(l.eraseIdx k).map f
 | [],_=>rfl
 |a::l,0=>rfl
 |a::l,k+1=>by simp only[aq,bU,bU,aq,M5 f l k]
def an2(R:E.Nodup)(hl:E.length<=60):∃v6 v3 M v8,vw 8 CV (E.map D.int) [s0,s1,s2,i3 cl,bj<|.sh<|dI E,s5,bj<|aI E,bj<|.owd [],n_,n_,n_,n_,n_]=bj (.nx [s0,s1,s2,v3,bj<|.sh<|dI E,s5,v6,bj<|.owd<|Jb M,v8,n_,n_,n_,n_])/\M.map (·.1)=E/\∀p∈M,p.2∈E:=by
 have key:=Ai (x:=8) (body:=CV) (λi S=>∃left cell M v8,S=[s0,s1,s2,i3 cell,bj<|.sh<|dI E,s5,bj<|aI left,bj<|.owd<|Jb M,v8,n_,n_,n_,n_]/\left.length+i=E.length/\(∀x∈left,x∈E)/\M.map (·.1)=E.take i/\∀p∈M,p.2∈E) (ds:=E.map D.int) (S:=[s0,s1,s2,i3 cl,bj<|.sh<|dI E,s5,bj<|aI E,bj<|.owd [],n_,n_,n_,n_,n_])
  (E,cl,[],n_,rfl,rfl,λZ h=>h,rfl,λp B=>(by cases B)) (by
  rintro i d S hd ⟨l2,cell,M,v8,rfl,T,G,s,H⟩;rw[gMq]at hd;have(z,I,rfl):=oMq.mp hd;have hi:i<E.length:=(gSq.mp I).1;have l:(0:Int)<((l2.length:Nat):Int):=by lia
  have U:=uW (i:=cell) (j:=((l2.length:Nat):Int)) l;have b0:=bB cell (b:=((l2.length:Nat):Int))<|by omega
  have b1:=bz cell l;obtain⟨k,hk⟩:∃k:Nat,cell % ((l2.length:Nat):Int)=(k:Int):=((cell % ((l2.length:Nat):Int)).toNat,by lia);have P:k<l2.length:=by lia
  obtain⟨x,Q⟩:∃x,l2[k]?=bj x:=(_,gEg P);have J:(l2.map λn=>AV.sh<|D.int n)[k]?=i3 x:=by rw[gMq,Q];rfl
  have X:(0:Int)<=(k:Int):=by rfl'
  have Y:(k:Int)<((l2.length:Nat):Int):=by omega
  have c3:l2.length<=tL:=by change _<=16777216;lia
  have he:=M5 (λn=>AV.sh<|D.int n) l2 k;have t:(l2.eraseIdx k).length=l2.length-1:=List.length_eraseIdx_of_lt P;have d1:=Cz (i:=cell) (j:=((l2.eraseIdx k).length:Int)+1) (by omega)<|by rw[t];lia
  have tn:=eI k;have L:z∉M.map (·.1):=by rw[s];intro m;have:=bD.sublist (bq (i+1) E) R;rw[tX I]at this;show(nAq.mp this).2.2 z m z ⋯ rfl
  have u:=ZX (x:=x) L;have O:(Jb M).length<tL:=by rw[adb];have:=congrArg cH s;rw[lMq,lTq]at this;change _<16777216;lia
  show([s0,s1,s2,i3<|cell / (((l2.eraseIdx k).length:Int)+1),bj<|.sh<|dI E,s5,bj<|aI<|l2.eraseIdx k,bj<|.owd<|Jb<|M++[%[z|x]],i3 z,n_,n_,n_,n_],?_,_,_,_,_,rfl,by rw[t];lia,λy hy=>G y<|List.mem_of_mem_eraseIdx hy,?_,?_);.simp! [CV,aI,U,hk,X,Y,c3,and_self,tn,J,he,O,u,d1]
  .rw[tX I,←s,mBq];rfl
  .intro p B;rcases mAq.mp B with q|q;.show H p q
   .rw[mSq.mp q];show G x<|mGq Q);have(S',e,left,cell,M,v8,rfl,T,G,s,H):=key;rw[lMq,bw]at s;show(_,_,M,v8,e,s,H)
def kv_get{E:Ϝ}(t:E.Nodup)(l:M.map (·.1)=E)(u:∀p∈M,p.2∈E)(n:z∈E):∃y,y∈E/\Z.getD (Jb M) (.inl z)=bj (.int y):=by rw[←l]at n;have(p,s,rfl):=mMq.mp n;show(p.2,u p s,?_);rw[afD];show K15.D4 ?_<|mMq.mpr (p,s,rfl);rw[mPq,ba,bM];have:=ba.mp<|l ▸ t;rw[bM]at this;show this.imp λh e=>h<|bH.inj e
noncomputable def mu3(N:Nat):AS->Nat
 | [_,_,_,_,_,_,_,_,_,_,_,bj (.ow l),_]=>N+1-l.length
 |_=>0
def aof{E:Ϝ}(P:E.Nodup)(hl:E.length<=60)(Q:M.map (·.1)=E)(R:∀p∈M,p.2∈E)(hk:kn.Nodup)(T:∀x∈kn,x∈E)(U:e∈E):∃t z,wO (tG<|wC (oE 8)<|oE 10) CM 100000 [s0,s1,s2,s3,s4,s5,s6,bj<|.owd<|Jb M,i3 e,s9,bj<|.owd<|K15.kI kn,bj<|.ow [],n_]=bj (.nx [s0,s1,s2,s3,s4,s5,s6,bj<|.owd<|Jb M,i3 z,s9,bj<|.owd<|K15.kI<|kn++t,bj<|aI t,n_])/\(kn++t).Nodup/\(∀x∈kn++t,x∈E)/\e∈kn++t:=by
 have key:=DM (c:=tG<|wC (oE 8)<|oE 10) (body:=CM) (λS=>∃t z,S=[s0,s1,s2,s3,s4,s5,s6,bj<|.owd<|Jb M,i3 z,s9,bj<|.owd<|K15.kI<|kn++t,bj<|aI t,n_]/\z∈E/\(kn++t).Nodup/\(∀x∈kn++t,x∈E)/\(z=e∨e∈kn++t)) (mu3 60) (λS=>∃t z,S=[s0,s1,s2,s3,s4,s5,s6,bj<|.owd<|Jb M,i3 z,s9,bj<|.owd<|K15.kI<|kn++t,bj<|aI t,n_]/\(kn++t).Nodup/\(∀x∈kn++t,x∈E)/\e∈kn++t) (by
  rintro S ⟨t,z,rfl,J,hn,l,s⟩;have H:=K15.Km (kn++t) z;have I:=T1 _ _ hn l;rw[lAq]at I;by_cases c:z∈kn++t
  .rw[d0 c]at H;show(f_,[s0,s1,s2,s3,s4,s5,s6,bj<|.owd<|Jb M,i3 z,s9,bj<|.owd<|K15.kI<|kn++t,bj<|aI t,n_],?_,λq=>(nomatch q),λZ=>(t,z,rfl,hn,l,?_));.simp! [H]
   .rcases s with q|q;.rw[←q];show c
    .show q
  .rw[d4 c]at H;have L:=K15.Ul c;rw[ak]at L;have(y,X,Y):=kv_get P Q R J;have u:(kn++(t++[z])).Nodup:=by rw[←ak,nAq];show(hn,by simp,λa ha b hb q=>c<|by rw[mSq.mp hb]at q;show q ▸ ha)
   have B:∀x∈kn++(t++[z]),x∈E:=λx O=>by
    rw[←ak]at O;rcases mAq.mp O with q|q;.show l x q
    .rw[mSq.mp q];show J
   have G:=T1 _ _ u B;simp only[lAq,lAq,lSq]at G;have l1:(K15.kI<|kn++t).length<tL:=by rw[K15.Uc,lAq];change _<16777216;lia
   have l2:t.length<tL:=by change _<16777216;lia
   have ap:t.map (λn=>AV.sh<|.int n)++[.sh<|.int z]=(t++[z]).map λn=>.sh<|.int n:=by rw[mBq];rfl
   show(t_,[s0,s1,s2,s3,s4,s5,s6,bj<|.owd<|Jb M,i3 z,s9,bj<|.owd<|K15.kI<|kn++t,bj<|aI t,n_],?_,λZ=>([s0,s1,s2,s3,s4,s5,s6,bj<|.owd<|Jb M,i3 y,s9,bj<|.owd<|K15.kI<|kn++(t++[z]),bj<|aI<|t++[z],n_],?_,(t++[z],y,rfl,X,u,B,?_),?_),λq=>(nomatch q));.simp! [H]
   .simp! [CM,l1,L,l2,ap,Y]
   .show .inr ?_;rcases s with q|q;.rw[←q];simp
    .rw[←ak];show mAq.mpr<|.inl q
   .change 60+1-_<60+1-_;simp only[lMq,lAq,lSq];lia);have(S',ew,t,z,rfl,h1,h2,h3):=key 100000 [s0,s1,s2,s3,s4,s5,s6,bj<|.owd<|Jb M,i3 e,s9,bj<|.owd<|K15.kI kn,bj<|.ow [],n_] ([],e,by simp,U,by simpa using hk,by simpa using T,.inl rfl) (by change 60+1-0<100000;rfl');show(t,z,ew,h1,h2,h3)
def aop(J:E.Nodup)(hl:E.length<=60)(R:M.map (·.1)=E)(T:∀p∈M,p.2∈E):∃TT kn u v11,vw 8 AE (E.map D.int) [s0,s1,s2,s3,bj<|.sh<|dI E,s5,s6,bj<|.owd<|Jb M,v8,bj<|.ow [],bj<|.owd [],n_,n_]=bj (.nx [s0,s1,s2,s3,bj<|.sh<|dI E,s5,s6,bj<|.owd<|Jb M,u,bj<|K13.oM TT,bj<|.owd<|K15.kI kn,v11,n_])/\TT.flatten=kn/\kn.Perm E/\TT.length<=60/\∀r∈TT,r≠[]:=by
 have key:=Ai (x:=8) (body:=AE) (λi S=>∃TT kn v8 v11,S=[s0,s1,s2,s3,bj<|.sh<|dI E,s5,s6,bj<|.owd<|Jb M,v8,bj<|K13.oM TT,bj<|.owd<|K15.kI kn,v11,n_]/\TT.flatten=kn/\kn.Nodup/\(∀x∈kn,x∈E)/\(∀x∈E.take i,x∈kn)/\TT.length<=i/\∀r∈TT,r≠[]) (ds:=E.map D.int) (S:=[s0,s1,s2,s3,bj<|.sh<|dI E,s5,s6,bj<|.owd<|Jb M,v8,bj<|.ow [],bj<|.owd [],n_,n_])
  ([],[],v8,n_,rfl,rfl,aW,λZ h=>(by cases h),λZ h=>(by cases h),ae _,λZ h=>(by cases h)) (by
  rintro i d S hd ⟨TT,kn,v8,v11,rfl,n,hk,B,ha,L,s⟩;rw[gMq]at hd;have(e,G,rfl):=oMq.mp hd;have hi:i<E.length:=(gSq.mp G).1;have H:=mGq G;have(t,z,I,O,P,U):=aof (s0:=s0) (s1:=s1) (s2:=s2) (s3:=s3) (s4:=bj<|.sh<|dI E) (s5:=s5) (s6:=s6) (s9:=bj<|K13.oM TT) J hl R T hk B H;have l:∀x∈E.take (i+1),x∈kn++t:=λx Q=>by
   rw[tX G]at Q;rcases mAq.mp Q with q|q;.show mAq.mpr<|.inl<|ha x q
   .rw[mSq.mp q];show U
  unfold K13.oM at I ⊢;by_cases c:t=[]
  .subst c;have t0:Mz (dI [])=bj f_:=rfl;show([s0,s1,s2,s3,bj<|.sh<|dI E,s5,s6,bj<|.owd<|Jb M,i3 z,bj<|.ow<|TT.map λr=>.sh<|dI r,bj<|.owd<|K15.kI<|kn++[],bj<|aI [],n_],?_,TT,kn++[],_,_,rfl,by rw[aNq];show n,O,P,l,by rfl',s);have s0:=rG [];have X:aI [] = .ow []:=rfl;simp! [AE,I,s0,t0]
  .have Y:=K12.agQ c;have st:=rG t;have l1:TT.length<tL:=by change _<16777216;lia
   have ap:(TT.map λr=>AV.sh<|dI r)++[.sh<|dI t]=(TT++[t]).map λr=>.sh<|dI r:=by rw[mBq];rfl
   show([s0,s1,s2,s3,bj<|.sh<|dI E,s5,s6,bj<|.owd<|Jb M,i3 z,bj<|.ow<|(TT++[t]).map λr=>.sh<|dI r,bj<|.owd<|K15.kI<|kn++t,bj<|.sh<|dI t,n_],?_,TT++[t],kn++t,_,_,rfl,by rw[fAq,n,aK],O,P,l,by rw[lAq,lSq];rfl',λr hr=>(mAq.mp hr).elim (s r) λq=>(mSq.mp q) ▸ c);simp! [AE,I,st,Y,l1,ap]);have(S',e,TT,kn,v8,v11,rfl,n,hk,B,ha,L,s):=key;rw[lMq]at L ha;rw[bw]at ha;show(TT,kn,v8,v11,e,n,(cK hk J).mpr λx=>(B x,ha x),by lia,s)
noncomputable def above(kn:Ϝ)(n:Int):Nat:=kn.countP λk=>decide<|n<=k
def Zw(kn)n:above kn n<=kn.length:=eP
theorem QT:∀{kn}{n},n∈kn->above kn (n+1)<above kn n
 |a::kn,n,h=>by
  have mono:∀l:Ϝ,above l (n+1)<=above l n:=λl=>iO λx Q s=>by have:=of_decide_eq_true s;show d0<|by rfl'
  unfold above;rw[dE,dE];have m:=mono kn;unfold above at m;rcases ag.mp h with e|e
  .subst e;have q1:decide (n+1<=n)=f_:=d4<|by ac_nf
   have t:decide (n<=n)=t_:=d0<|by ac_nf
   rw[q1,t];simp only[if_true,bW,if_false];rfl'
  .have u:=QT e;unfold above at u;have:(if decide (n+1<=a)=t_ then 1 else 0)<=(if decide (n<=a)=t_ then 1 else 0):=by
    by_cases c:n+1<=a;.rw[d0 c,d0<|show n<=a by rfl'];show ae _
    .rw[d4 c];show aY _
   omega
def SY(kn)n:above kn (n+1)<=above kn n:=iO λx Q l=>by have:=of_decide_eq_true l;show d0<|by rfl'
def mu4(kn:Ϝ):AS->Nat
 | [_,_,bj (.sh (.int n)),_,_,_,_,_,_,_,_,_,bj (.ow l)]=>66-l.length+above kn n
 |_=>0
def anZ(hl:kn.length<=60):∃nm v2,wO (tG<|qE XF (yK vJ<|oC (oE 12) oW)<|rC<|.int 66) Aw 100000 [s0,s1,i3 n,s3,s4,s5,s6,s7,s8,s9,bj<|.owd<|K15.kI kn,s11,bj<|.ow []]=bj (.nx [s0,s1,v2,s3,s4,s5,s6,s7,s8,s9,bj<|.owd<|K15.kI kn,s11,bj<|aI nm])/\nm.length=66/\nm.Nodup/\∀x∈nm,n<=x/\x∉kn:=by
 have key:=DM (c:=tG<|qE XF (yK vJ<|oC (oE 12) oW)<|rC<|.int 66) (body:=Aw) (λS=>∃nm m,S=[s0,s1,i3 m,s3,s4,s5,s6,s7,s8,s9,bj<|.owd<|K15.kI kn,s11,bj<|aI nm]/\n<=m/\nm.length<=66/\(nm.Nodup/\∀x∈nm,x<m)/\∀x∈nm,n<=x/\x∉kn) (mu4 kn) (λS=>∃nm v2,S=[s0,s1,v2,s3,s4,s5,s6,s7,s8,s9,bj<|.owd<|K15.kI kn,s11,bj<|aI nm]/\nm.length=66/\nm.Nodup/\∀x∈nm,n<=x/\x∉kn) (by
  rintro S ⟨nm,m,rfl,hm,z,⟨nd,lt⟩,l⟩;by_cases c:nm.length<66
  .have s:((nm.length:Nat):Int)<66:=by lia
   have t:=K15.Km kn m;by_cases u:m∈kn
   .rw[d0 u]at t;show(t_,[s0,s1,i3 m,s3,s4,s5,s6,s7,s8,s9,bj<|.owd<|K15.kI kn,s11,bj<|aI nm],?_,λQ=>([s0,s1,i3<|m+1,s3,s4,s5,s6,s7,s8,s9,bj<|.owd<|K15.kI kn,s11,bj<|aI nm],?_,(nm,m+1,rfl,by lia,z,(nd,λx h=>by have:=lt x h;lia),l),?_),λq=>(nomatch q));.simp! [s]
    .simp! [Aw,t]
    .change 66-_+above kn (m+1)<66-_+above kn m;have:=QT u;ac_nf
   .rw[d4 u]at t;have l2:nm.length<tL:=by change _<16777216;lia
    have E:nm.map (λn=>AV.sh<|.int n)++[.sh<|.int m]=(nm++[m]).map λn=>.sh<|.int n:=by rw[mBq];rfl
    show(t_,[s0,s1,i3 m,s3,s4,s5,s6,s7,s8,s9,bj<|.owd<|K15.kI kn,s11,bj<|aI nm],?_,λQ=>([s0,s1,i3<|m+1,s3,s4,s5,s6,s7,s8,s9,bj<|.owd<|K15.kI kn,s11,bj<|aI<|nm++[m]],?_,(nm++[m],m+1,rfl,by lia,by rw[lAq,lSq];rfl',(nAq.mpr (nd,by simp,λa h b G e=>by have:=lt a h;rw[e,mSq.mp G]at this;lia),λx h=>by
     rcases mAq.mp h with h|h;.have:=lt x h;lia
     .rw[mSq.mp h];ac_nf),λx B=>?_),?_),λq=>(nomatch q));.simp! [s]
    .simp! [Aw,t,l2,E]
    .rcases mAq.mp B with q|q;.show l x q
     .rw[mSq.mp q];show(hm,u)
    .change 66-((nm++[m]).map λn=>AV.sh<|.int n).length+above kn (m+1)<66-(nm.map λn=>AV.sh<|.int n).length+above kn m;have:=SY kn m;simp only[lMq,lMq,lAq,lSq];lia
  .have s:¬ ((nm.length:Nat):Int)<66:=by lia
   show(f_,[s0,s1,i3 m,s3,s4,s5,s6,s7,s8,s9,bj<|.owd<|K15.kI kn,s11,bj<|aI nm],?_,λq=>(nomatch q),λQ=>(nm,_,rfl,by rfl',nd,l));simp! [s]);have(M,H,nm,v2,rfl,I,J,L):=key 100000 [s0,s1,i3 n,s3,s4,s5,s6,s7,s8,s9,bj<|.owd<|K15.kI kn,s11,bj<|.ow []] ([],n,rfl,gO _,aY _,(aW,λx l=>(by cases l)),λx l=>(by cases l)) (by change 66-0+above kn n<100000;have:=Zw kn n;lia);show(nm,v2,H,I,J,L)
def agF(k)b S:adU k b S=(k S).bind λx=>(b x.2).bind λy=>match x.1,y.1 with
 | .sh (.tup l),.int i=>(L2.atI l i).map λd=>%[.sh d|y.2]
 |_,_=>n_:=rfl
structure Tn (T:Λ):Prop where
 nd:T.flatten.Nodup
 neg:∀z∈T.flatten, -z∈T.flatten
 le:T.flatten.length<=60
 len:T.length<=63
 br:T.countP (λr=>decide<|r=([]:Ϝ))<=3
 nz:∀z∈T.flatten,z≠0
def J3 ns{k:Nat}(hk:k<1000):∃c:Int,ph [.scr ns,.int (k:Int)]=i3 c:=(_,EJ ns<|by rfl')
def ai6 ns:∃T nm,G6 [.scr ns]=bj (.sh<|.tup [dM T,dI nm])/\Tn T/\nm.length=66/\(∀x∈nm,1<=x/\x∉T.flatten)/\nm.Nodup:=by
 have(t,e1):=J3 ns (k:=1)<|by rfl'
 have(c2,e2):=J3 ns (k:=2)<|by rfl'
 have(c3,O):=J3 ns (k:=3)<|by rfl'
 have(I,P):=J3 ns (k:=4)<|by rfl'
 have e1:ph [.scr ns,.int 1]=i3 t:=e1;have e2:ph [.scr ns,.int 2]=i3 c2:=e2;have O:ph [.scr ns,.int 3]=i3 c3:=O;have P:ph [.scr ns,.int 4]=i3 I:=P;have m1:=uW (i:=t) (j:=31) ⋯;have b0:=bB t (b:=31) ⋯;have b1:=bz t (b:=31) ⋯;obtain⟨n,hn⟩:∃n:Nat,t % 31=(n:Int):=((t % 31).toNat,by lia);have(c',l,last,Q,a0,ll,ln,lp):=an4 (s0:=bj<|.sh<|.scr ns) (s1:=i3 (n:Int)) (c:=c2) (n:=n) ∅;have R:=zT (n:=n) ∅;have J:(pm l).Nodup:=K12.Kq ln lp;have gE:∀z∈pm l, -z∈pm l:=λz u=>ahQ u;have L:(pm l).length<=60:=by rw[aaP];lia
 have zE:∀z∈pm l,z≠0:=λz u q=>by have(y,hy,c):=fV.mp u;have:=lp y hy;simp at c;lia
 generalize pm l=E at a0 J gE L zE;have(v6,v3,M,v8,a1,hM,hv):=an2 (s0:=bj<|.sh<|.scr ns) (s1:=i3 (n:Int)) (s2:=i3 last) (s5:=Q) (cl:=c3) J L;have(TT,kn,S,U,a3,G,B,hT,hN):=aop (s0:=bj<|.sh<|.scr ns) (s1:=i3 (n:Int)) (s2:=i3 last) (s3:=v3) (s5:=Q) (s6:=v6) (v8:=v8) J L hM hv;have p59:=ame;have m4:=uW (i:=I) (j:=10 ^ 59) ⋯;have m40:=bB I (b:=10 ^ 59) ⋯;have(nm,v2,a4,X,Y,hx):=anZ (kn:=kn) (s0:=bj<|.sh<|.scr ns) (s1:=i3 (n:Int)) (s3:=v3) (s4:=bj<|.sh<|dI E) (s5:=Q) (s6:=v6) (s7:=bj<|.owd<|Jb M) (s8:=S) (s9:=bj<|K13.oM TT) (s11:=U) (by rw[B.length_eq];show L) (n:=1+I % 10 ^ 59);have d1:=Cz (i:=t) (j:=31) ⋯ ⋯;have m2:=uW (i:=t / 31) (j:=4) ⋯;have b2:=bB (t / 31) (b:=4) ⋯;have b3:=bz (t / 31) (b:=4) ⋯;obtain⟨b,hb⟩:∃b:Nat,t / 31 % 4=(b:Int):=((t / 31 % 4).toNat,by lia);have hrb:=zT (n:=b) ∅;have lb:=uJ 0 b;have lb2:b<=tL:=by change _<=16777216;lia
 have H:=Y7 b;have s:(TT++aC b []).flatten=TT.flatten:=by
  rw[fAq];have:(aC b ([]:Ϝ)).flatten=[]:=by simp
  rw[this,aNq]
 show(TT++aC b [],nm,?_,(?_,?_,?_,?_,?_,?_),X,λx h=>?_,Y)
 .have lT:TT.length+b<=tL:=by change _<=16777216;lia
  have sE:=rG E;have snm:=rG nm;have sR:(aC b<|AV.ow []).map pA=(aC b ([]:Ϝ)).map dI:=by rw[gH,gH];rfl
  have sT:((TT.map dI++(aC b ([]:Ϝ)).map dI).map AV.sh).map pA=(TT++aC b []).map dI:=by rw[←mBq,mPq];show(mCq (g:=id) λZ Z=>rfl).trans<|cW _
  unfold K13.oM at a3 a4;simp! -implicitDefEqProofs [G6,Rm,e1,e2,O,P,m1,hn,R,a0,sE,a1,a3,p59,m4,a4,d1,m2,hb,hrb,lb,lb2,H,bA,lT,sR,snm,sT]
 .rw[s,G,B.nodup_iff];show J
 .rw[s,G];show λz u=>B.mem_iff.mpr<|gE z<|B.mem_iff.mp u
 .rw[s,G,B.length_eq];rfl'
 .rw[lAq,bA];lia
 .rw[gI,List.countP_eq_zero.mpr λr hr=>by simpa using hN r hr];have:(aC b ([]:Ϝ)).countP (λr=>decide<|r=[])<=b:=by
   have:=eP (p:=λr=>decide<|r=([]:Ϝ)) (l:=aC b []);rwa [bA]at this
  lia
 .rw[s,G];show λz u=>zE z<|B.mem_iff.mp u
 .have:=hx x h;rw[s,G];show(by lia,this.2)
end K16
namespace K16
open PySem L2 Mr Z Xe Zl K15
def agL(hn:rs.flatten.Nodup){r:Ϝ}(hr:r∈rs)(l:r[j]?=bj z)(n:r[(j+1) % r.length]?=bj y):nx rs z=y:=by
 have s:=(gSq.mp l).1;have t:=K51.Kf l<|(abI s).trans n;have u:%[bH z|y]∈K51.su rs:=by unfold K51.su;show mFq.mpr (_,mMq.mpr (r,hr,rfl),mGq t)
 have x:=D4 (Pw hn) u;unfold nx;rw[x]
theorem V4(hn:rs.flatten.Nodup){r:Ϝ}(hr:r∈rs)(l:r[0]?=bj e):∀n,r[n % r.length]?=bj (itr (nx rs) n e)
 |0=>by show l
 |n+1=>by
  have u:=(gSq.mp l).1;have x:=V4 hn hr l n;have hm:(n+1) % r.length<r.length:=Nat.mod_lt _ u;have s:(n % r.length+1) % r.length=(n+1) % r.length:=by rw[Nat.mod_add_mod]
  obtain⟨y,t⟩:∃y,r[(n+1) % r.length]?=bj y:=(_,gEg hm);have:=agL hn hr x<|s ▸ t;rw[t,←this];rfl
def ah5(hn:rs.flatten.Nodup){r:Ϝ}(hr:r∈rs)(l:r[0]?=bj e):Cy (nx rs) e r:=by
 have s:=(gSq.mp l).1;have n:=V4 hn hr l;show(s,?_,?_,bD.sublist (aN hr) hn)
 .show eM λi=>?_;rw[gMq];by_cases hi:i<r.length;.rw[eX hi,bK,←n i,ik hi]
  .rw[bF ∅,bF<|by rw[bo];lia];rfl
 .have:=n r.length;rw[jo,l]at this;show(bj.inj this).symm
noncomputable def ne(rs:Λ):Λ:=rs.filter λr=>!decide (r=[])
theorem JR:∀rs:Λ,(ne rs).flatten=rs.flatten
 | []=>rfl
 | []::rs=>JR rs
 | (x::r)::rs=>by change((x::r)::ne rs).flatten=_;simp only[fCq,fCq,JR rs]
theorem PU:∀rs:Λ,(yF rs++ne rs).Perm rs
 | []=>.nil
 | []::rs=>(PU rs).cons []
 | (x::r)::rs=>ij.trans<|(PU rs).cons<|x::r
def aky{r:Ϝ}:r∈ne rs↔r∈rs/\r≠[]:=by unfold ne;simp
def Z8(hn:rs.flatten.Nodup):Qk (nx rs) rs.flatten<|ne rs:=by
 show(λl hl=>?_,by rw[JR];show hn,λx=>by rw[JR]);have(n,s):=aky.mp hl;cases l with
 |nil=>show absurd rfl s
 |cons x l=>show(x,ah5 hn n rfl)
def ajE(hn:rs.flatten.Nodup):SG (nx rs) rs.flatten:=(hn,λe l=>ZU hn l,λa ha b hb h=>ZI hn ha hb h)
def amc(hn:rs.flatten.Nodup)(h:∀l∈rs,l=[]∨∃e,Cy f e l)(u:x∈rs.flatten):nx rs x=f x:=by
 have(l,hl,n):=mFq.mp u;rcases h l hl with rfl|⟨e,c⟩;.cases n
 .have(j,s):=cw.mp n;have t:=(gSq.mp s).1;have e1:=c.at t;rw[s]at e1;have e2:=bj.inj e1;show agL hn hl s ?_;rw[e2];change _=bj (itr f (j+1) e);by_cases q:j+1<l.length;.rw[ik q];show c.at q
  .have z:j+1=l.length:=by rfl'
   rw[z,jo,c.back];show c.at ∅
theorem NM(l:SG f E)(h:∀x∈E,f x=g x)(s:e∈E):∀n,itr f n e=itr g n e
 |0=>rfl
 |n+1=>by change f (itr f n e)=g (itr g n e);rw[h _<|l.itr_mem s n,NM l h s n]
def aaN(t:SG f E)(h:∀x∈E,f x=g x)(u:e∈E)(c:Cy f e l):Cy g e l:=by
 have s:=NM t h u;show(c.len,?_,by rw[←s];show c.back,c.nd);rw[←mCq λn Q=>s n];show c.get
def W6(s:SG f E)(h:∀x∈E,f x=g x)(t:∀x,x∈E↔x∈n)(o:Qk f E L):Qk g n L:=by
 show(λl hl=>?_,o.dj,λx=>(o.all x).trans<|t x);have(e,c):=o.cy l hl;show(e,aaN s h ((o.all e).mp<|mFq.mpr (l,hl,c.self)) c)
def ad1(c:Cy f e l):∃n,Cy f n<|good l:=by
 unfold good;by_cases h:sD l l.length<l.length;.show(_,c.rot h)
 .show(e,?_);unfold Mr.rot;rw[cJ ∅,bJ ∅];show c
theorem Hk:∀rs:Λ,yF rs=aC (rs.count []) []
 | []=>rfl
 | []::rs=>by rw[List.count_cons_self,jc,←Hk rs];rfl
 | (x::r)::rs=>by
  rw[iQ ⋯,←Hk rs];rfl
theorem Rf:∀{L:Λ},(∀l∈L,1<=l.length)->L.length<=L.flatten.length
 | [],_=>ae _
 |a::L,h=>by
  have n:=h a<|bf ..;have s:=Rf λl hl=>h l<|mCo _ hl;simp only[lCq,fCq,lAq];lia
theorem Ro:∀{L:Λ},(∀l∈L,1<=l.length)->(L.map good).count []=0
 | [],_=>rfl
 |a::L,h=>by
  have s:=h a<|bf ..;have n:good a≠[]:=λq=>by have:=congrArg cH q;rw[IT,dJ]at this;lia
  rw[aq,iQ n];show Ro λl hl=>h l<|mCo _ hl
def abY(hm:Mp rs)(P:rs.length+rs.flatten.length<=1000):∃M:Λ,rJ [dM rs]=bj (.ow<|M.map aI)/\Mp M/\rJ [dM M]=bj (.ow<|(AO<|rs.map good).map aI)/\M.flatten.Perm rs.flatten/\AO (M.map good)=M/\M.count []=rs.count []/\M.length<=rs.length+rs.flatten.length:=by
 have(L,z,e1):=DU hm;have Q:=(cK z.dj hm.hn).mpr z.all;have B:∀l∈L,1<=l.length:=λl hl=>by have(e,c):=z.cy l hl;show c.len
 have H:=Rf B;rw[Q.length_eq]at H;have hb:(yF rs).flatten=[]:=by
  show iw.mpr λl hl=>?_;have(x,_,rfl):=mMq.mp hl;rfl
 have E:(yF rs++L).flatten=L.flatten:=by rw[fAq,hb,gj]
 have u:(AO<|(yF rs++L).map good).flatten.Perm rs.flatten:=by show(HP<|vF _).trans<|(yR BC _).trans ?_;rw[E];show Q
 have R:=wM<|by rw[E];show z.dj
 have n:(AO<|(yF rs++L).map good).count []=rs.count []:=by simp only[(vF _).count_eq,mBq,cAq,Ro B,Hk,gH,good_nil,List.count_replicate_self];rfl
 have G:(AO<|(yF rs++L).map good).length<=rs.length+rs.flatten.length:=by have:=Lf rs;rw[Al,lMq,lAq];lia
 have t:∀l∈AO ((yF rs++L).map good),l=[]∨∃e,Cy (fw rs) e l:=λl hl=>by
  have(m,I,rfl):=mMq.mp<|(vF _).mem_iff.mp hl;rcases mAq.mp I with q|q;.left;have(x,_,rfl):=mMq.mp q;rfl
  .right;have(e,c):=z.cy m q;show ad1 c
 generalize AO ((yF rs++L).map good)=M at e1 u R n G t;have S:=u.nodup_iff.mpr hm.hn;have s:Mp M:=(S,by rw[u.length_eq];show hm.hl,by lia,λe T=>u.mem_iff.mpr<|hm.hneg e<|u.mem_iff.mp T);have(L2,U,e2):=DU s;have J:∀x∈M.flatten,fw M x=nx rs x:=λx X=>by change nx M (-x)=_;rw[amc S t<|s.hneg x X];change nx rs (- -x)=_;rw[iN]
 have O:=W6 (FQ s) J (λx=>u.mem_iff) U;have Y:=O.perm (ajE hm.hn)<|Z8 hm.hn;show(M,e1,s,?_,u,R,n,G);rw[e2];have hq:((yF M++L2).map good).Perm<|rs.map good:=by rw[mBq,Hk M,n,←Hk rs];show(bS.append_left _ Y).trans ?_;rw[←mBq];show(PU rs).map good
 rw[Nh hq]
end K16
namespace K25
open PySem L2 Mr Z Xe Zl K15 K16
def Rt(rs:Λ)(x:Int)(w:Ϝ):Prop:=∃u v,u++x::v∈rs/\w=v++u
def Rt.of(h:x∈rs.flatten):∃w,Rt rs x w:=by have(r,hr,l):=mFq.mp h;have(u,v,rfl):=gJ l;show(v++u,u,v,hr,rfl)
noncomputable def pz(z e:Int):Bool:=!decide (e∈[z, -z])
def Iq:pz z e=t_↔e≠z/\e ≠ -z:=by unfold pz;simp
def Nj(h:¬ pz z e=t_):e=z∨e = -z:=by rw[Iq]at h;lia
def ad9 z:¬ pz z z=t_:=by rw[Iq];ac_nf
def aaR z:¬ pz z (-z)=t_:=by rw[Iq];ac_nf
theorem aaz{r:Ϝ}(ha:a∈r):∀rs:Λ,rs.count r<=rs.flatten.count a
 | []=>ae _
 |s::rs=>by
  have l:=aaz ha rs;simp only[dO,fCq,cAq];by_cases h:s=r;.subst h;have:=gK.mpr ha;simp;lia
  .simp[h];lia
theorem Vm{r:Ϝ}(l:r≠r')(ha:a∈r)(n:a∈r'):∀rs:Λ,rs.count r+rs.count r'<=rs.flatten.count a
 | []=>ae _
 |s::rs=>by
  have u:=Vm l ha n rs;simp only[dO,dO,fCq,cAq];by_cases h:s=r;.subst h;have:=gK.mpr ha;simp[l];lia
  .by_cases t:s=r';.subst t;have:=gK.mpr n;simp[h];lia
   .simp[h,t];lia
def af1(t:z ≠ -z){r:Ϝ}(hn:r.Nodup):(if r.filter (pz z)=[]then 1 else 0)=(if r=[]then 1 else 0)+(if r=[z]then 1 else 0)+(if r=[-z]then 1 else 0)+(if r=[z, -z]then 1 else 0)+(if r=[-z,z]then 1 else 0):=by
 have x:=ad9 z;have B:=aaR z;match r,hn with
 | [],_=>rfl
 | [a],_=>
  by_cases h:pz z a=t_;.have l:=Iq.mp h;rw[cB h];simp[l.1,l.2]
  .rw[eC h];rcases Nj h with rfl|rfl;.simp[t]
   .simp[t.symm]
 | [a,b],hn=>
  have n:a≠b:=by simpa using hn
  by_cases h:pz z a=t_;.have l:=Iq.mp h;rw[cB h];simp[l.1,l.2]
  .rw[eC h];by_cases s:pz z b=t_;.have u:=Iq.mp s;rw[cB s];simp[u.1,u.2]
   .rw[eC s];rcases Nj h with rfl|rfl <;> rcases Nj s with rfl|rfl;.show absurd rfl n
    .simp[t]
    .simp[t.symm]
    .show absurd rfl n
 |a::b::c::r,hn=>
  have:(a::b::c::r).filter (pz z)≠[]:=λq=>by
   rw[iF]at q;have E:=Nj<|q a ⋯;have l:=Nj<|q b ⋯;have s:=Nj<|q c ⋯;simp only[aJ,ag,not_or]at hn;lia
  rw[qL this];simp
theorem RF(l:z ≠ -z):∀{rs},(∀r∈rs,r.Nodup)->bare (rs.map λr=>r.filter<|pz z)=bare rs+rs.count [z]+rs.count [-z]+(rs.count [z, -z]+rs.count [-z,z])
 | [],_=>rfl
 |r::rs,h=>by
  have n:=RF l (rs:=rs) λr hr=>h r<|mCo _ hr;have s:=af1 l<|h r<|bf ..;unfold bare at n ⊢;simp only[aq,dE,dE,dO,dO,dO,dO,n];simp only[decide_eq_true_eq,beq_iff_eq]at s ⊢;lia
end K25
namespace K26
open PySem L2 Mr Z Xe Zl
open K25 (Rt)
open K21 (sp pr inr GG rn Wi)
open K23 (C BE)
abbrev gm(T:Λ):Λ:=AO<|T.map good
noncomputable def Nv(w:Ϝ):D:=match w.getLast? with
 |bj x=>.int x
 |n_=>.non
def NL(w:Ϝ)x:Nv (w++[x]) = .int x:=by unfold Nv;rw[List.getLast?_concat]
def Hz w:rn<|Nv w:=by
 rcases eN w with rfl|⟨v,x,rfl⟩;.show .inl rfl
 .rw[eO,NL];show .inr (x,rfl)
section
variable {T:Λ}
def alz{b:Ϝ}(h:s∉a):sp n s (a++s::b)=a++s::n::b:=by
 unfold sp;rw[gU,qL h,fZ,cO];have e:a++s::b=(a++[s])++b:=by simp
 have l:(a++[s]).length=a.length+1:=by simp
 rw[e,←l,jH];simp
def adA n(hn:T.flatten.Nodup)(u:s∈T.flatten):∃A a b B,T=A++(a++s::b)::B/\GG T n (.int s)=bj (A++(a++s::n::b)::B):=by
 have(r,hr,l):=mFq.mp u;have(A,B,rfl):=gJ hr;have(a,b,rfl,ha):=gR l;show(A,a,b,B,rfl,?_);rw[fAq,nAq]at hn;have x:∀t∈A,¬ pr (.int s) t=t_:=λt ht q=>hn.2.2 s (mFq.mpr (t,ht,of_decide_eq_true q)) s ⋯ rfl;have hi:(A++(a++s::b)::B).findIdx (pr<|.int s)=A.length:=by
  rw[jh,fW λt ht=>gY.mpr<|x t ht,fF,show pr (.int s) (a++s::b)=t_ from d0 l];simp
 unfold GG;rw[qF<|cX.mpr (_,hr,d0 l),hi];have g:(A++(a++s::b)::B).getD A.length []=a++s::b:=by simp
 rw[g,show inr n (.int s) (a++s::b)=a++s::n::b from alz ha];simp
def adB n(l:[]∈T):∃A B,T=A++[]::B/\GG T n .non=bj (A++[n]::B):=by
 have(A,B,rfl,u):=gR l;show(A,B,rfl,?_);have hi:(A++[]::B).findIdx (pr .non)=A.length:=by
  rw[jh,fW (p:=pr .non) λt ht=>d4 λq=>u<|q ▸ ht,fF,show pr .non []=t_ from rfl];simp
 unfold GG;rw[qF<|cX.mpr (_,l,rfl),hi];have g:(A++[]::B).getD A.length []=([]):=by simp
 rw[g];change bj ((A++[]::B).set A.length [n])=_;simp
def af2(h:gm T=gm U):(T.map good).Perm<|U.map good:=((vF _).symm.trans<|.of_eq h).trans<|vF _
def Ha(h:gm T=gm U):T.flatten.Perm U.flatten:=by
 have k:∀T:Λ,(T.map good).flatten.Perm T.flatten:=λT=>by induction T with
  |nil=>show .refl _
  |cons r T l=>show(BC r).append l
 show((k T).symm.trans (af2 h).flatten).trans<|k U
end
end K26
namespace K26
open PySem L2 Mr Z Xe Zl
open K25 (Rt)
open K21 (sp pr inr GG rn)
open K23 (C BE)
def amE(z)T:(C z T).flatten.Sublist T.flatten:=by induction T with
 |nil=>show .refl _
 |cons r T l=>show eR.append ji l
def Wj(hn:T.flatten.Nodup):(gm T).flatten.Nodup:=(Ha<|wM hn).nodup_iff.mpr hn
end K26
namespace K21
open PySem L2 Mr Z Xe Zl
open K23 (xo FJ)
def wr(rs:Λ)(z:Int)(d1 d2:D):XW:=if z∈rs.flatten then .ex "Taken" [%["road"|z]]else match GG rs z d1 with
 |n_=>Xo d1
 |bj r1=>match GG r1 (-z) d2 with
  |n_=>Xo d2
  |bj r2=>if r2.flatten.length<=128/\bare r2<=128 then .ok (.ow<|(AO<|r2.map good).map aI)else .ex "TooMany" []
def lEx:D->AV
 | .int s=>xo "there" s
 |_=>xo "place" 0
def HR(hn:rs.flatten.Nodup)(Q:rs.flatten.length<=900)(hl:rs.length<=900)(G:rn d1)(H:rn d2):rY [dM rs,.int z,d1,d2]=bj (wr rs z d1 d2):=by
 have ht:=C4 (rs:=rs) ∅;unfold wr;by_cases h:z∈rs.flatten
 .have l:decide (z∈rs.flatten)=t_:=d0 h;rw[qF h];simp! [rY,vh,ht,l]
 .have l:decide (z∈rs.flatten)=f_:=d4 h;rw[qL h];rcases K9 (n:=z) hn ∅ ∅ G with⟨r1,R,u,x,e1⟩|⟨u,e1⟩
  .have(pm,ln):=GO G u;have I:r1.flatten.Nodup:=pm.nodup_iff.mpr<|aJ.mpr (h,hn);have L:r1.flatten.length=rs.flatten.length+1:=by rw[pm.length_eq];rfl
   simp only[u];rcases K9 (rs:=r1) (n:=-z) I ∅ ∅ H with⟨r2,M,B,t,e2⟩|⟨B,e2⟩
   .have(J,O):=GO H B;have P:r2.flatten.length=r1.flatten.length+1:=by rw[J.length_eq];rfl
    simp only[B];have E:=WZ (rs:=r2) ∅ ∅;by_cases c:r2.flatten.length<=128/\bare r2<=128
    .rw[qF c]at E ⊢;simp! [rY,vh,ht,l,e1,x,OX,e2,t,E]
    .rw[qL c]at E ⊢;simp! [rY,vh,ht,l,e1,x,OX,e2,t,E]
   .simp only[B];rcases H with rfl|⟨s,rfl⟩
    .unfold Xo at e2 ⊢;simp! [rY,vh,ht,l,e1,x,OX,e2]
    .unfold Xo at e2 ⊢;simp! [rY,vh,ht,l,e1,x,OX,e2]
  .simp only[u];rcases G with rfl|⟨s,rfl⟩
   .unfold Xo at e1 ⊢;simp! [rY,vh,ht,l,e1]
   .unfold Xo at e1 ⊢;simp! [rY,vh,ht,l,e1]
noncomputable abbrev pz(z:Int)(d1 d2:D):D:=.ins "Put" [%["road"|.int z],%["first"|d1],%["second"|d2]]
def fl1:tU "Put" "road" (pz z d1 d2)=bj (.int z):=by rfl
def fl2:tU "Put" "first" (pz z d1 d2)=bj d1:=by rfl
def fl3:tU "Put" "second" (pz z d1 d2)=bj d2:=by rfl
def ip1:AN "Put" "done" (.sh<|pz z d1 d2)=bj (pz z d1 d2):=by rfl
def rn.sc(h:rn d):d.scal=t_:=by rcases h with rfl|⟨s,rfl⟩ <;> rfl
def N3(l:rn d1)(n:rn d2):uN [pz z d1 d2]=bj (.sh<|.tup [.str "put", .int z,d1,d2]):=by have a:=fl1 (z:=z) (d1:=d1) (d2:=d2);have b:=fl2 (z:=z) (d1:=d1) (d2:=d2);have c:=fl3 (z:=z) (d1:=d1) (d2:=d2);rcases l with rfl|⟨s,rfl⟩ <;> rcases n with rfl|⟨t,rfl⟩ <;> simp! [uN,Jd,a,b,c]
def done_eq(l:rn d1)(n:rn d2)x:pV [pz z d1 d2,x]=rY [x,.int z,d1,d2]:=by have a:=fl1 (z:=z) (d1:=d1) (d2:=d2);have b:=fl2 (z:=z) (d1:=d1) (d2:=d2);have c:=fl3 (z:=z) (d1:=d1) (d2:=d2);rcases l with rfl|⟨s,rfl⟩ <;> rcases n with rfl|⟨t,rfl⟩ <;> first
  | (cases e:rY [x,.int z,.non,.non]with
    |none=>simp! [pV,vf,a,b,c,e]
    |some r=>cases r <;> simp! [pV,vf,a,b,c,e];done)
  | (cases e:rY [x,.int z,.non,.int t]with
    |none=>simp! [pV,vf,a,b,c,e]
    |some r=>cases r <;> simp! [pV,vf,a,b,c,e];done)
  | (cases e:rY [x,.int z,.int s,.non]with
    |none=>simp! [pV,vf,a,b,c,e]
    |some r=>cases r <;> simp! [pV,vf,a,b,c,e];done)
  | (cases e:rY [x,.int z,.int s,.int t]with
    |none=>simp! [pV,vf,a,b,c,e]
    |some r=>cases r <;> simp! [pV,vf,a,b,c,e];done)
end K21
namespace K22
open PySem L2 Mr Z Xe Zl K21
open K23 (xo FJ cz)
def uns:under "Taken" "NotThere" = f_/\under "Taken" "TooMany" = f_/\under "Taken" "NoPlace" = f_/\under "NoPlace" "TooMany" = f_/\under "NoPlace" "Taken" = f_/\under "NoPlace" "NotThere" = f_:=by trivial
def Lx:K23.vG [.exc "NoPlace" []]=bj (.ow [.sh<|.tup [.str "place", .int 0]]):=by
 have l:0<tL:=by decide
 simp! [K23.vG,K23.Fc,uns,gZ,l]
noncomputable abbrev qz(z:Int)(d1 d2:D):D:=.ins "Part" [%["road"|.int z],%["first"|d1],%["second"|d2]]
structure Ref (c:Str)(fs:List<|Str×Int)(w:Str)(y:Int):Prop where
 un:under c "MapError" = t_
 kd:K23.vG [.exc c fs]=bj (.ow [.sh<|.tup [.str w,.int y]])
def ref_ex(h:rn d):∃c fs w y,Xo d = .ex c fs/\lEx d=xo w y/\Ref c fs w y:=by
 rcases h with rfl|⟨s,rfl⟩;.show(_,_,_,_,rfl,rfl,by trivial,Lx)
 .show(_,_,_,_,rfl,rfl,by trivial,K23.Av s)
def ip2:AN "Put" "back" (.sh<|pz z d1 d2)=bj (pz z d1 d2):=by rfl
def mkC(h:S[0]?.join=bj (.sh<|pz z d1 d2)):xI "Cut" ["road"] (oC (vX (tU "Put" "road")<|oE 0) oW) S=bj %[.sh<|cz z|S]:=by
 have f:=fl1 (z:=z) (d1:=d1) (d2:=d2);simp! [Z0,h,f];rfl
def KZ(r:Ref c fs w y)(h:pV [pz z d1 d2,x]=bj (.ex c fs)):qZ [pz z d1 d2,x]=bj (.ex c fs)/\GW [pz z d1 d2,x]=bj (xo w y)/\G0 [pz z d1 d2,x]=bj (xo w y):=by
 have i1:=ip1 (z:=z) (d1:=d1) (d2:=d2);have n:=ip2 (z:=z) (d1:=d1) (d2:=d2);have e1:tE [pz z d1 d2,x]=bj (.ex c fs):=by simp! [tE,wu,vv,i1,h]
 have e2:qZ [pz z d1 d2,x]=bj (.ex c fs):=by simp! [qZ,DH,e1]
 have l:=r.un;have hk:=r.kd;show(e2,?_,?_);.simp! [GW,Fq,vv,i1,h,l,hk,xo]
 .simp! [G0,Fo,vv,n,e2,l,hk,xo]
def iq4:AN "Part" "other" (.sh<|qz z d1 d2)=bj (qz z d1 d2):=by rfl
def gl1:tU "Part" "road" (qz z d1 d2)=bj (.int z):=by rfl
def gl2:tU "Part" "first" (qz z d1 d2)=bj d1:=by rfl
def gl3:tU "Part" "second" (qz z d1 d2)=bj d2:=by rfl
def mkQ(h:S[0]?.join=bj (.sh<|qz z d1 d2))(q1:rn d1)(l:rn d2):xI "Put" ["road","first","second"] (oC (vX (tU "Part" "road")<|oE 0)<|oC (vX (tU "Part" "first")<|oE 0)<|oC (vX (tU "Part" "second")<|oE 0) oW) S=bj %[.sh<|pz z d1 d2|S]:=by have a:=gl1 (z:=z) (d1:=d1) (d2:=d2);have b:=gl2 (z:=z) (d1:=d1) (d2:=d2);have c:=gl3 (z:=z) (d1:=d1) (d2:=d2);rcases q1 with rfl|⟨s,rfl⟩ <;> rcases l with rfl|⟨t,rfl⟩ <;> (simp! [Z0,h,a,b,c];rfl)
def BN(q1:rn d1)(l:rn d2):ti [qz z d1 d2]=bj (.sh<|pz z d1 d2):=by
 have h:=mkQ (S:=[bj<|.sh<|qz z d1 d2]) rfl q1 l;simp! [ti,Fx,h]
def Uh:uO [cz z]=bj (.sh<|.tup [.str "cut", .int z]):=by
 have h:=K23.ah3 z;simp! [uO,IZ,h]
end K22
namespace K26
open PySem L2 Mr Z Xe Zl
open K25 (Rt)
open K21 (GG rn)
open K23 (C BE)
def GE{a b:Ϝ}(ha:e∉a)(hl:(a++e::b).length<=1000):zr [dI<|a++e::b,.int e]=bj (.sh<|Nv<|b++a):=by
 have u:(a++e::b).idxOf e=a.length:=by rw[gU,qL ha,fZ,cO]
 have n:=K21.RQ (r:=a++e::b) (e:=e) ⋯;rw[u]at n;rcases eN (b++a)with h|⟨X,x,h⟩;.have(rfl,rfl):=List.append_eq_nil_iff.mp h;have s:decide (((1:Nat))=1)=t_:=rfl;rfl
 .rw[eO]at h;have z:((a++e::b).map D.int).length=X.length+1+1:=by have:=congrArg cH h;simp at this ⊢;lia
  have s:decide (((X.length+1+1:Nat):Int)=1)=f_:=d4<|by ac_nf
  have l:atI ((a++e::b).map D.int) ((a.length)-1)=bj (.int x):=by
   rcases eN a with q|⟨t,y,q⟩
   .subst q;rw[aNq]at h;subst h;have e1:(([])++e::(X++[x])).map D.int=(e::X).map D.int++[.int x]:=by simp
    rw[e1];show G4 _ _
   .rw[eO]at q;subst q;rw[←ak]at h;have hh:=(List.append_inj' h rfl).2;injection hh with q;subst q;rw[show(((t++[y]).length):Int)-1=(t.length) by simp];show zZ ⋯
  rw[h,NL];simp! [zr,Hx,dI,z,s,n,l]
def turn_comp{M:Λ}z:ui (tG<|qE (HA f_) (oE 1)<|oE 0) (oR 0) [i3 z] (M.map dI)=bj ((M.filter λr=>decide<|z∈r).map λr=>.sh<|dI r):=by
 rw[Z.wN (λd=>decide<|z∈Fg d)<|λd=>.sh d]
 .rw[gn,mPq];have:(λd=>decide<|z∈Fg d)∘dI=λr=>decide<|z∈r:=by funext r;change decide (z∈Fg (dI r))=_;rw[yg]
  rw[this];rfl
 .intro d hd;have(r,hr,rfl):=D9 hd;rw[yg];have h:=Oz f_ z r;show([bj<|.sh<|dI r,i3 z],?_,λQ=>([bj<|.sh<|dI r,i3 z],?_));.simp! [h]
  .simp! []
def TM{M:Λ}{r:Ϝ}(hn:M.flatten.Nodup)(hr:r∈M)(l:z∈r):(M.filter λr=>decide<|z∈r)=[r]:=by
 have(A,B,rfl):=gJ hr;rw[fAq,fCq,nAq,nAq]at hn;have no:∀X:Λ,z∉X.flatten->(X.filter λr=>decide<|z∈r)=[]:=λX n=>iF.mpr λr hr q=>n<|mFq.mpr (r,hr,of_decide_eq_true q);rw[gL,cB (p:=λr=>decide<|z∈r)<|d0 l,no A λq=>hn.2.2 z q z (cx _ l) rfl,no B λq=>hn.2.1.2.2 z l z q rfl];rfl
def G3{r:Ϝ}(hn:M.flatten.Nodup)(hl:M.length<=1000)(hr:r∈M)(l:z∈r):zq [dM M,.int z]=bj (.sh<|dI r):=by
 have c:=turn_comp (M:=M) z;rw[TM hn hr l]at c;have l1:M.length<=tL:=tY ∅;simp! [zq,HQ,dM,c,l1];rfl
def th1(z)t(ht:t.length<=1000):K23.xO [dI t,.tup [.int z]]=bj (aI<|t.filter λy=>decide<|y≠z):=by
 have h:ui (tG<|qE (HA t_) (oE 0)<|oE 1) (oR 0) [bj<|.sh<|.tup [.int z]] (t.map D.int)=bj ((t.filter λy=>decide<|y≠z).map λn=>.sh<|.int n):=by
  rw[Z.wN (λd=>match d with|.int e=>decide<|e≠z|_=>f_)<|λd=>.sh d];.show congrArg bj<|K23.Qa t λe=>decide<|e≠z
  .intro d hd;have(e,_,rfl):=mMq.mp hd;have h:HA t_ (.int e) (.tup [.int z])=bj (.bl<|decide<|e≠z):=by
    rw[show HA t_ (.int e) (.tup [.int z])=bj (.bl<|!decide (e∈[z]))from Oz t_ e [z]];by_cases q:e=z <;> simp[q]
   show([i3 e,bj<|.sh<|.tup [.int z]],?_,λQ=>([i3 e,bj<|.sh<|.tup [.int z]],?_));.simp! [h]
   .simp! []
 have l:t.length<=tL:=tY ∅;simp! [K23.xO,K23.FX,dI,h,l]
def abt(hn:M.flatten.Nodup)(x:M.flatten.length<=1000)(hl:M.length<=1000)(ne:z ≠ -z)(h:Rt M z w):wg [dM M,.int z]=bj (.sh<|Nv<|w.filter λy=>decide<|y ≠ -z):=by
 have(u,v,hr,rfl):=h;have l:=bh (aN hr).length_le x;have e1:=G3 hn hl hr (z:=z) ⋯;have e2:=th1 (-z) (u++z::v) l;have nd:=hn.sublist<|aN hr;have n:((u++z::v).filter λy=>decide<|y ≠ -z)=(u.filter λy=>decide<|y ≠ -z)++z::(v.filter λy=>decide<|y ≠ -z):=by rw[gL,cB (p:=λy=>decide<|y ≠ -z)<|d0 ne]
 have t:=GE (λq=>(nAq.mp nd).2.2 z (eD.mp q).1 z bf rfl)<|by rw[←n];show bh (dG _ _) l
 rw[←n,←gL]at t;have s:=rG<|(u++z::v).filter λy=>decide<|y ≠ -z;simp! [wg,DO,e1,e2,s,t]
def YB(hn:M.flatten.Nodup)(l:M.flatten.length<=1000)(hl:M.length<=1000)(h:Rt M (-z) u):vC [dM M,.int z]=bj (.sh<|Nv u):=by
 have(a,b,hr,rfl):=h;have n:=bh (aN hr).length_le l;have e1:=G3 hn hl hr (z:=-z) ⋯;have nd:=hn.sublist<|aN hr;have s:=GE (λq=>(nAq.mp nd).2.2 (-z) q (-z) bf rfl) n;simp! [vC,Dg,e1,s]
end K26
namespace K26
open PySem L2 Mr Z Xe Zl
open K22 (Ref)
open K23 (xo FJ)
inductive Of:Str->uU->uU->MF->Prop
 |put:Of "Put" K21.pV K22.qZ K21.uN
 |cut:Of "Cut" K23.qM rN K22.uO
 |part:Of "Part" K22.sq uy uj
 |draw:Of "Draw" K25.rZ uu K25.uf
 |found:Of "Found" ri va tM
 |raze:Of "Raze" qW uv ug
structure IB (c:Str)(fs:List<|Str×D)(fd fb:uU)(ft:MF):Prop where
 of:Of c fd fb ft
 l1:fs.lookup ("done" : Str)=n_
 l2:fs.lookup ("back" : Str)=n_
 l3:fs.lookup ("told" : Str)=n_
def DI(h:l≠c):AN c m (.sh<|.ins l fs)=n_:=by rw[RB,qL λq=>h q.1]
def zc(h:fs.lookup m=n_):AN c m (.sh<|.ins c fs)=bj (.ins c fs):=by rw[RB,qF (rfl,h)]
def alX{r:AS}(h:c≠l):tA m l f (bj (.sh<|.ins c fs)::r)=n_:=by
 have i:=DI (m:=m) (fs:=fs) h;simp! [tA,vv,i]
def ab1{r:AS}(o:Of c fd fb ft):dnA (bj (.sh<|.ins c fs)::r)=tA "done" c fd (bj (.sh<|.ins c fs)::r):=by unfold dnA;cases o <;> simp(disch:=decide) only[T6,alX,cg,cj]
def alx(hl:fs.lookup m=n_)(h:f [.ins c fs,x]=bj (.ok a)):tA m c f [bj<|.sh<|.ins c fs,bj<|.sh x,v2,v3,v4]=bj (.nx [bj<|.sh<|.ins c fs,bj<|.sh x,v2,bj a,v4]):=by
 have i:=zc (c:=c) hl;simp! [tA,vv,i,h]
def akV{f:uU}(hl:fs.lookup m=n_)(h:f [.ins c fs,x]=bj (.ex k l))(r:Ref k l w y):∃n,tA m c f [bj<|.sh<|.ins c fs,bj<|.sh x,v2,v3,v4]=bj (.nx [bj<|.sh<|.ins c fs,bj<|.sh x,bj<|.ow [.sh<|.tup [.str w,.int y]],v3,n]):=by
 have i:=zc (c:=c) hl;have s:=r.un;have hk:=r.kd;show(n_,?_);simp! [tA,vv,i,h,s,hk]
def V8(C:IB c fs fd fb ft)(h:fd [.ins c fs,x]=bj (.ok<|.ow<|G.map aI)):xu [.ins c fs,x]=bj (FJ G):=by
 have s:=λr=>ab1 (fs:=fs) (r:=r) C.of;have t:=λ{v2 v3 v4}=>alx (v2:=v2) (v3:=v3) (v4:=v4) C.l1 h;simp! [xu,IE,s,t,FJ]
def akp(o:Of c fd fb ft)(h:m S=bj %[.ins c fs|S']):isC m S=bj %[.bl t_|S']:=by
 have no:∀{l:Str},c≠l->Kj l t_ m S=n_:=λ{l} q=>by unfold Kj;rw[h];show qL q
 have yes:Kj c t_ m S=bj %[.bl t_|S']:=by unfold Kj;rw[h];show qF rfl
 unfold isC;cases o <;> simp(disch:=decide) only[yM,no,yes,cg,cj,cY]
def aic(C:IB c fs fd fb ft)(h:k S=bj %[.sh<|.ins c fs|S'])(ht:ft [.ins c fs]=bj (.sh d)):aeK k S=bj %[d|S']:=by
 have i:=zc (c:=c) C.l3;have no:∀{l:Str}{f:MF},c≠l->rOf (pd f<|rH l "told" k oS) S=n_:=λ{l f} q=>by
  have n:=DI (m:= "told") (fs:=fs) q;simp! [vv,h,n]
 have yes:rOf (pd ft<|rH c "told" k oS) S=bj %[d|S']:=by simp! [vv,h,i,ht]
 unfold aeK;have(o,_,_,_):=C;cases o <;> simp(disch:=decide) only[yM,no,yes,cg,cj,cY]
end K26
namespace K25
open PySem L2 Mr Z Xe Zl K15 K16
def HL rs:bare rs=rs.count []:=by unfold bare;congr 1;funext r;cases r <;> rfl
def PL:good r=[]↔r=[]:=by rw[←bG,IT,bG]
theorem Nw:∀rs:Λ,bare (rs.map good)=bare rs
 | []=>rfl
 |r::rs=>by have l:=Nw rs;unfold bare at l ⊢;simp only[aq,dE,dE,l];simp only[PL]
def Kg rs:bare (AO<|rs.map good)=bare rs:=by rw[HL,(vF _).count_eq,←HL,Nw]
end K25
namespace K26
open PySem L2 Mr Z Xe Zl
open K25 (Rt)
open K21 (GG rn pz wr)
open K22 (Ref qz)
open K23 (C BE cz xo FJ)
structure Gd (M:Λ):Prop where
 mp:Mp M
 go:gm M=M
 ln:M.length<=700
 br:bare M<=128
def IY(h:K21.pV [pz z d1 d2,x]=bj (.ok a)):K22.qZ [pz z d1 d2,x]=bj (.ok<|.sh<|cz z):=by
 have i1:=K21.ip1 (z:=z) (d1:=d1) (d2:=d2);have e1:∃a,K22.tE [pz z d1 d2,x]=bj (.ok a):=by
  show(.sh .non,?_);simp! [K22.tE,K22.wu,vv,i1,h]
 have(a,e1):=e1;have l:∀y,xI "Cut" ["road"] (oC (vX (tU "Put" "road")<|oE 0) oW) [bj<|.sh<|pz z d1 d2,y]=bj %[.sh<|cz z|[bj<|.sh<|pz z d1 d2,y]]:=λy=>K22.mkC rfl;simp! [K22.qZ,K22.DH,e1,l]
def mk3(q1:rn d1)(l:rn d2)(h:a S=bj %[[.int z,d1,d2]|S']):xI c ["road","first","second"] a S=bj %[.sh<|.ins c [%["road"|.int z],%["first"|d1],%["second"|d2]]|S']:=by rw[Z0,h];show qF (rfl,by unfold aac;simp only[eV,eV,eV,K21.rn.sc q1,K21.rn.sc l];rfl)
def RN(q1:rn d1)(l:rn d2)(h:K23.rW [dM W,.int z]=bj (.ok a))(n:wg [dM W,.int z]=bj (.sh d1))(s:vC [dM W,.int z]=bj (.sh d2)):rN [cz z,dM W]=bj (.ok<|.sh<|pz z d1 d2):=by
 have i1:=K23.in1 z;have t:=K23.ah3 z;have hd:=(K23.done_eq _).trans h;have e1:∃a,K23.uA [cz z,dM W]=bj (.ok a):=by
  show(.sh .non,?_);simp! [K23.uA,K23.xZ,vv,i1,hd]
 have(x,e1):=e1;have u:=mk3 (c:= "Put") (S:=[bj<|.sh<|cz z,bj<|.sh<|dM W]) (a:=oC (vX (tU "Cut" "road")<|oE 0)<|oC (rOf<|pd wg<|oz (oR 1)<|oz (kSc<|vX (tU "Cut" "road")<|oE 0) oS)<|oC (rOf<|pd vC<|oz (oR 1)<|oz (kSc<|vX (tU "Cut" "road")<|oE 0) oS) oW) q1 l<|by simp! [t,n,s];rfl
 simp! [rN,AU,e1,u]
def Sk(hd:rn d)(hn:T.flatten.Nodup)(e:GG T n d=bj x):bare x<=bare T:=by
 have k:∀A B r t,t≠[]->bare (A++t::B)<=bare (A++r::B):=λA B r t h=>by
  unfold bare;rw[gI,gI,iz<|by simpa using h];show iY (eR.countP_le<|List.sublist_cons_self ..) _
 rcases hd with rfl|⟨s,rfl⟩
 .by_cases l:[]∈T;.have(A,B,rfl,u):=K26.adB n l;rw[u]at e;cases e;show k _ _ _ _ ⋯
  .unfold GG at e;rw[K21.Pl,d4 l]at e;cases e
 .by_cases l:s∈T.flatten;.have(A,a,b,B,rfl,u):=K26.adA n hn l;rw[u]at e;cases e;show k _ _ _ _ ⋯
  .unfold GG at e;rw[K21.HK,d4 l]at e;cases e
end K26
namespace K26
open PySem L2 Mr Z Xe Zl
open K25 (Rt)
open K21 (GG rn pz wr Xo)
open K22 (Ref qz)
open K23 (C BE cz)
noncomputable abbrev dz(z:Int):D:=.ins "Draw" [%["road"|.int z]]
section
variable {X:Λ}
def B5:K25.tO [dz z]=bj (.sh<|cz z):=by rfl
def Kp:vd [cz z]=bj (.sh<|dz z):=by rfl
def Kd(q1:rn d1)(l:rn d2):ux [pz z d1 d2]=bj (.sh<|qz z d1 d2):=by
 have n:=mk3 (c:= "Part") (S:=[bj<|.sh<|pz z d1 d2]) (a:=oC (vX (tU "Put" "road")<|oE 0)<|oC (vX (tU "Put" "first")<|oE 0)<|oC (vX (tU "Put" "second")<|oE 0) oW) q1 l<|by rfl
 simp! [ux,GQ,n]
def U9(q1:rn d1)(l:rn d2)(n:K15.rJ [dM M]=bj (.ow<|L.map aI))(s:K21.pV [pz z d1 d2,dM L]=bj (.ok<|.ow<|W.map aI))(t:K15.rJ [dM W]=bj (.ow<|X.map aI)):K22.sq [qz z d1 d2,dM M]=bj (.ok<|.ow<|X.map aI):=by
 have i1:=K21.ip1 (z:=z) (d1:=d1) (d2:=d2);have u:=K22.iq4 (z:=z) (d1:=d1) (d2:=d2);have x:=K22.BN (z:=z) q1 l;have B:=tj L;have E:=tj W;have G:K22.uE [qz z d1 d2,dM M]=bj (.ok<|.ow<|X.map aI):=by simp! [K22.uE,K22.yw,vv,u,x,i1,n,B,s,E,t]
 simp! [K22.sq,K22.CK,G]
def Oa(q1:rn d1)(l:rn d2)(n:K15.rJ [dM M]=bj (.ow<|L.map aI))(s:K21.pV [pz z d1 d2,dM L]=bj (.ex k es)):K22.sq [qz z d1 d2,dM M]=bj (.ex k es):=by
 have i1:=K21.ip1 (z:=z) (d1:=d1) (d2:=d2);have t:=K22.iq4 (z:=z) (d1:=d1) (d2:=d2);have u:=K22.BN (z:=z) q1 l;have x:=tj L;have B:K22.uE [qz z d1 d2,dM M]=bj (.ex k es):=by simp! [K22.uE,K22.yw,vv,t,u,i1,n,x,s]
 simp! [K22.sq,K22.CK,B]
def abw(q1:rn d1)(l:rn d2)(n:K15.rJ [dM M]=bj (.ow<|L.map aI))(s:K22.qZ [pz z d1 d2,dM L]=bj (.ok<|.sh<|cz z)):uy [qz z d1 d2,dM M]=bj (.ok<|.sh<|dz z):=by
 have t:=K22.ip2 (z:=z) (d1:=d1) (d2:=d2);have u:=K22.iq4 (z:=z) (d1:=d1) (d2:=d2);have x:=K22.BN (z:=z) q1 l;have co:=Kp (z:=z);have i5:AN "Cut" "other" (.sh<|cz z)=bj (cz z):=by rfl
 have B:=tj L;have E:uC [qz z d1 d2,dM M]=bj (.ok<|.sh<|dz z):=by simp! [uC,yd,Pe,vv,u,x,t,n,B,s,i5,co]
 simp! [uy,C6,E]
def R7(q1:rn d1)(l:rn d2)(n:K15.rJ [dM M]=bj (.ow<|L.map aI))(s:K22.qZ [pz z d1 d2,dM L]=bj (.ex k es)):uy [qz z d1 d2,dM M]=bj (.ex k es):=by
 have t:=K22.ip2 (z:=z) (d1:=d1) (d2:=d2);have u:=K22.iq4 (z:=z) (d1:=d1) (d2:=d2);have x:=K22.BN (z:=z) q1 l;have B:=tj L;have E:uC [qz z d1 d2,dM M]=bj (.ex k es):=by simp! [uC,yd,Pe,vv,u,x,t,n,B,s]
 simp! [uy,C6,E]
def Vz(l:K15.rJ [dM M]=bj (.ow<|L.map aI))(n:K23.qM [cz z,dM L]=bj (.ok<|.ow<|W.map aI))(s:K15.rJ [dM W]=bj (.ow<|X.map aI)):K25.rZ [dz z,dM M]=bj (.ok<|.ow<|X.map aI):=by
 have i1:=K23.in1 z;have t:AN "Draw" "other" (.sh<|dz z)=bj (dz z):=by rfl
 have u:=B5 (z:=z);have x:=tj L;have B:=tj W;have E:K25.xS [dz z,dM M]=bj (.ok<|.ow<|X.map aI):=by simp! [K25.xS,K25.Cq,vv,t,u,i1,l,x,n,B,s]
 simp! [K25.rZ,K25.C9,E]
def Px(l:K15.rJ [dM M]=bj (.ow<|L.map aI))(n:K23.qM [cz z,dM L]=bj (.ex k es)):K25.rZ [dz z,dM M]=bj (.ex k es):=by
 have i1:=K23.in1 z;have s:AN "Draw" "other" (.sh<|dz z)=bj (dz z):=by rfl
 have t:=B5 (z:=z);have u:=tj L;have x:K25.xS [dz z,dM M]=bj (.ex k es):=by simp! [K25.xS,K25.Cq,vv,s,t,i1,l,u,n]
 simp! [K25.rZ,K25.C9,x]
def aaB(q1:rn d1)(l:rn d2)(n:K15.rJ [dM M]=bj (.ow<|L.map aI))(s:rN [cz z,dM L]=bj (.ok<|.sh<|pz z d1 d2)):uu [dz z,dM M]=bj (.ok<|.sh<|qz z d1 d2):=by
 have t:=K23.in2 z;have u:AN "Draw" "other" (.sh<|dz z)=bj (dz z):=by rfl
 have x:=B5 (z:=z);have po:=Kd (z:=z) q1 l;have i5:AN "Put" "other" (.sh<|pz z d1 d2)=bj (pz z d1 d2):=by rfl
 have B:=tj L;have E:uD [dz z,dM M]=bj (.ok<|.sh<|qz z d1 d2):=by simp! [uD,xY,Pe,vv,u,x,t,n,B,s,i5,po]
 simp! [uu,CI,E]
def Sx(l:K15.rJ [dM M]=bj (.ow<|L.map aI))(n:rN [cz z,dM L]=bj (.ex k es)):uu [dz z,dM M]=bj (.ex k es):=by
 have s:=K23.in2 z;have t:AN "Draw" "other" (.sh<|dz z)=bj (dz z):=by rfl
 have u:=B5 (z:=z);have x:=tj L;have B:uD [dz z,dM M]=bj (.ex k es):=by simp! [uD,xY,Pe,vv,t,u,s,l,x,n]
 simp! [uu,CI,B]
def dq a b(h:decide (a=b)=f_):Ep (.str a) (.str b)=bj (.bl f_):=by rw[Oy,h]
def dt a:Ep (.str a) (.str a)=bj (.bl t_):=by rw[Oy,d0 rfl]
def q0(a:D)l:atI (a::l) 0=bj a:=zZ rfl
def q1(a b:D)l:atI (a::b::l) 1=bj b:=zZ rfl
end
end K26
namespace K24
open PySem L2 Mr Z Xe
def mf_settled:MX:=(wk (zL Zl.rX<|oz (oR 0) oS)
 (B7<|ql<|pd Zl.sZ<|oz (oR 0) oS))
def f_settled:uU:=uT 1 1 mf_settled
def mf_with_place:MX:=(Fe K24.f_settled<|oz (Dq (lOf<|rV<|oz (rV oS) oS)<|Em 0) oS)
def f_with_place:uU:=uT 1 1 mf_with_place
def mf_without_place:MX:=(wk (Wf (tG<|acQ t_<|oE 0) (CF "NoPlace")<|B7 pZ)
 (wk (B7<|pU 1<|kSc<|Q8<|oE 0)
 (B7<|ql<|pd Zl.sZ<|oz (Dq (lOf<|JJ (vq 0) wA<|ud<|oE 1)<|lOf<|JJ (vq 0) (ud<|qE yf (oE 1)<|rC<|.int 1) wA) oS)))
def f_without_place:uU:=uT 1 2 mf_without_place
end K24
namespace K24
open PySem L2 Mr Z Xe Zl
abbrev fo:D:=.ins "Found" []
abbrev rz:D:=.ins "Raze" []
def i1:AN "Found" "done" (.sh fo)=bj fo:=by rfl
def i5:AN "Raze" "done" (.sh rz)=bj rz:=by rfl
def mkF S:xI "Found" [] oW S=bj %[.sh fo|S]:=by rfl
def mkR S:xI "Raze" [] oW S=bj %[.sh rz|S]:=by rfl
structure Go (M:Λ):Prop where
 gd:∀r∈M,good r=r
 so:M.Pairwise<|λx y=>HT.wa y x=f_
 fl:M.flatten.length<=128
 le:M.length<=500
theorem Go.map(h:Go M):M.map good=M:=(mCq h.gd).trans<|cW _
def good_nil:good []=[]:=by rfl
def JP r:HT.wa r []=f_:=by cases r <;> rfl
def Go.more(h:Go M):AO (([]::M).map good)=[]::M:=by rw[aq,h.map,good_nil];show(FM (.refl _)<|bV.mpr (λr Q=>JP r,h.so)).symm
def Go.less(h:Go M)(hm:[]∈M):∃N,M=[]::N/\AO (N.map good)=N:=by cases M with
 |nil=>cases hm
 |cons r N=>
  have(s1,s2):=bV.mp h.so;have hr:r=[]:=by
   rcases ag.mp hm with e|e;.show e.symm
   .have:=s1 _ e;cases r with
    |nil=>rfl
    |cons x l=>cases this
  subst hr;show(N,rfl,?_);have e:N.map good=N:=(mCq λr hr=>h.gd r<|mCo _ hr).trans<|cW _;rw[e];show(FM (.refl _) s2).symm
section
variable {M:Λ}
def Jf:bare ([]::M)=bare M+1:=by unfold bare;rw[dE];rfl
def adT(h:Go M):f_with_place [dM M]=bj (if bare M<=127 then .ok (.ow<|([]::M).map aI)else .ex "TooMany" []):=by
 have t:([]::M).flatten.length<=128:=by show h.fl
 have hl:=h.le;have n:=Tr (rs:=[]::M) ∅;have s:=vK (rs:=[]::M) (λr hr=>by have:=Ck hr;lia)<|tY<|by rw[lCq];lia
 rw[h.more]at s;have l1:1+M.length<=tL:=tY ∅;have q:D.list []::M.map dI=([]::M).map dI:=rfl;by_cases c:bare M<=127
 .rw[qF (t,by rw[Jf];rfl')]at n;rw[qF c];have l:f_settled [dM<|[]::M]=bj (.ok<|.ow<|([]::M).map aI):=by
   generalize []::M=W at *;simp! [f_settled,mf_settled,n,s]
  rw[dM,←q]at l;simp! [f_with_place,mf_with_place,l1,l]
 .rw[qL<|by rw[Jf];ac_nf]at n;rw[qL c];have l:f_settled [dM<|[]::M]=bj (.ex "TooMany" []):=by
   generalize []::M=W at *;simp! [f_settled,mf_settled,n]
  rw[dM,←q]at l;simp! [f_with_place,mf_with_place,l1,l]
def ajV(h:[]∉M):f_without_place [dM M]=bj (.ex "NoPlace" []):=by
 have l:decide (([]:Ϝ)∈M)=f_:=d4 h;simp! [f_without_place,mf_without_place,VI,l]
def ae0{N:Λ}(h:Go<|[]::N)(n:AO (N.map good)=N):f_without_place [dM<|[]::N]=bj (.ok<|.ow<|N.map aI):=by
 have s:decide (([]:Ϝ)∈[]::N)=t_:=by rfl
 have hm:([]:Ϝ)∈[]::N:=by simp
 have t:([]::N).idxOf ([]:Ϝ)=0:=by rfl
 have hl:=h.le;have z:N.flatten.length<=128:=h.fl;rw[lCq]at hl;have u:wW (([]::N).map dI) n_ (bj ((0:Nat):Int))=[]:=by rw[ES _ 0<|aY _];rfl
 have x:wW (([]::N).map dI) (bj<|((0:Nat):Int)+1) n_=N.map dI:=by
  have:=yO (([]::N).map dI) 1 ⋯;show this
 have l1:N.length<=tL:=tY ∅;have l:=vK (rs:=N) (λr hr=>by have:=Ck hr;lia) l1;rw[n]at l;generalize []::N=W at *;simp! [f_without_place,mf_without_place,VI,s,Zb,hm,t,u,x,l1,l]
end
end K24
namespace K26
open PySem L2 Mr Z Xe Zl
open K25 (Rt)
open K21 (GG rn pz wr Xo)
open K22 (Ref qz)
open K23 (C BE cz)
open K24 (fo rz Go)
def cP:IB "Put" [%["road"|.int z],%["first"|d1],%["second"|d2]] K21.pV K22.qZ K21.uN:=(.put,rfl,rfl,rfl)
def cC:IB "Cut" [%["road"|.int z]] K23.qM rN K22.uO:=(.cut,rfl,rfl,rfl)
def cQ:IB "Part" [%["road"|.int z],%["first"|d1],%["second"|d2]] K22.sq uy uj:=(.part,rfl,rfl,rfl)
def cD:IB "Draw" [%["road"|.int z]] K25.rZ uu K25.uf:=(.draw,rfl,rfl,rfl)
def cF:IB "Found" [] ri va tM:=(.found,rfl,rfl,rfl)
def cR:IB "Raze" [] qW uv ug:=(.raze,rfl,rfl,rfl)
def tQ(l:rn d1)(n:rn d2):uj [qz z d1 d2]=bj (.sh<|.tup [.str "part", .int z,d1,d2]):=by have a:=K22.gl1 (z:=z) (d1:=d1) (d2:=d2);have b:=K22.gl2 (z:=z) (d1:=d1) (d2:=d2);have c:=K22.gl3 (z:=z) (d1:=d1) (d2:=d2);rcases l with rfl|⟨s,rfl⟩ <;> rcases n with rfl|⟨t,rfl⟩ <;> simp! [uj,GA,a,b,c]
def tD:K25.uf [dz z]=bj (.sh<|.tup [.str "draw", .int z]):=by
 have a:tU "Draw" "road" (dz z)=bj (.int z):=by rfl
 simp! [K25.uf,K25.GF,a]
def tF:tM [fo]=bj (.sh<|.tup [.str "found"]):=by simp! [tM,Fy]
def tR:ug [rz]=bj (.sh<|.tup [.str "raze"]):=by simp! [ug,Ht]
def pl4(l:rn d1)(n:rn d2):K21.plain 4<|.tup [.str w,.int z,d1,d2]:=(by change 4<1000000;decide,λd hd=>by
 have k:∀{d:D},rn d->K21.plain 3 d:=λ{d} h=>by rcases h with rfl|⟨s,rfl⟩ <;> trivial
 simp only[ag,bL,or_false]at hd;rcases hd with rfl|rfl|rfl|rfl;.trivial
 .trivial
 .show k l
 .show k n)
def pl2:K21.plain 4<|.tup [.str w,.int z]:=(by change 2<1000000;decide,λd hd=>by simp only[ag,bL,or_false]at hd;rcases hd with rfl|rfl <;> trivial)
def pl1:K21.plain 4<|.tup [.str w]:=(by change 1<1000000;decide,λd hd=>by simp only[ag,bL,or_false]at hd;rcases hd with rfl;trivial)
def over(g:Gd M)(hl:M.length+M.flatten.length<=700):∃L,K15.rJ [dM M]=bj (.ow<|L.map aI)/\K15.rJ [dM L]=bj (.ow<|M.map aI)/\Gd L/\L.flatten.Perm M.flatten/\bare L=bare M/\K15.rR [dM M]=bj (.ow<|L.map aI)/\L.length<=M.length+M.flatten.length:=by
 have(L,e1,m,e2,p,s,c,l):=K16.abY g.mp ∅;have(G,n,B,_):=K15.SV g.mp;have t:=e2.trans<|congrArg (λx=>bj<|AV.ow<|x.map aI) g.go;have E:(L.map aI)=G.map aI:=by
  rw[e1]at n;injection n with n;injection n
 have u:bare L=bare M:=by rw[K25.HL,K25.HL,c]
 show(L,e1,t,(m,s,by lia,by rw[u];show g.br),p,u,by rw[B,E],l)
def ak5(hn:M.flatten.Nodup)(ne:z ≠ -z):bare (C z M)<=bare M+3:=by
 have l:∀{r:Ϝ}{a:Int},a∈r->M.count r<=1:=λ{r a} h=>bh (K25.aaz h M)<|iW.mp hn a;have n:M.count [z, -z]+M.count [-z,z]<=1:=bh (K25.Vm (λq=>ne<|by injection q) ⋯ ⋯ M)<|iW.mp hn z;have a:=l (r:=[z]) (a:=z) ⋯;have b:=l (r:=[-z]) (a:=-z) ⋯;have:=K25.RF ne λr hr=>hn.sublist<|aN hr;have e:bare (C z M)=_:=this;lia
def go_of(g:Gd M)(l:M.flatten.length<=128)(hl:M.length<=500):Go M:=by
 have so:=Aq<|M.map good;rw[show AO (M.map good)=M from g.go]at so;show(λr hr=>?_,so,l,hl);have:=(vF<|M.map good).mem_iff.mp<|by rw[show AO (M.map good)=M from g.go];show hr
 have(t,ht,rfl):=mMq.mp this;show NT t<|g.mp.hn.sublist<|aN ht
def alW:f_with_place=K24.f_with_place:=rfl
def op_eq:f_without_place=K24.f_without_place:=rfl
end K26
namespace K26
open PySem L2 Mr Z Xe Zl
open K22 (Ref)
open K24 (fo rz Go)
def ahf(h:f_with_place [x]=bj (.ok a)):ri [fo,x]=bj (.ok a)/\va [fo,x]=bj (.ok<|.sh rz):=by
 have i1:=K24.i1;have l:=K24.mkR;have e1:ri [fo,x]=bj (.ok a):=by simp! [ri,Fv,h]
 have e2:uq [fo,x]=bj (.ok<|.sh .non):=by simp! [uq,xR,vv,i1,e1]
 show(e1,?_);simp! [va,Fp,e2,l]
def ahe(h:f_without_place [x]=bj (.ok a)):qW [rz,x]=bj (.ok a)/\uv [rz,x]=bj (.ok<|.sh fo):=by
 have i5:=K24.i5;have l:=K24.mkF;have e1:qW [rz,x]=bj (.ok a):=by simp! [qW,C8,h]
 have e2:sU [rz,x]=bj (.ok<|.sh .non):=by simp! [sU,vP,vv,i5,e1]
 show(e1,?_);simp! [uv,CL,e2,l]
def ahb(h:f_without_place [x]=bj (.ex k es)):qW [rz,x]=bj (.ex k es)/\uv [rz,x]=bj (.ex k es):=by
 have i5:=K24.i5;have e1:qW [rz,x]=bj (.ex k es):=by simp! [qW,C8,h]
 have e2:sU [rz,x]=bj (.ex k es):=by simp! [sU,vP,vv,i5,e1]
 show(e1,?_);simp! [uv,CL,e2]
def Jk(g:Go M)(hb:bare M<=125)(l:gm M=M)(hl:M.length<=400):f_with_place [dM M]=bj (.ok<|.ow<|([]::M).map aI)/\f_without_place [dM<|[]::M]=bj (.ok<|.ow<|M.map aI):=by
 show(?_,?_);.rw[alW,K24.adT g,qF ∅]
 .have n:Go<|[]::M:=(λr hr=>by
   rcases ag.mp hr with rfl|hr;.rfl
   .show g.gd r hr,bV.mpr (λr Q=>K24.JP r,g.so),by show g.fl,by simp;lia);show K24.ae0 n l
end K26
namespace K26
open PySem L2 Mr Z Xe Zl
open K21 (rn pz)
open K22 (qz)
open K23 (cz)
open K24 (fo rz)
inductive Wd (z:Int):D->Prop
 |found:Wd z<|.tup [.str "found"]
 |raze:Wd z<|.tup [.str "raze"]
 |cut {y:Int}:0<y->Wd z (.tup [.str "cut", .int y])
 |draw {y:Int}:0<y->Wd z (.tup [.str "draw", .int y])
 |put {d1 d2:D}:rn d1->rn d2->Wd z (.tup [.str "put", .int z,d1,d2])
 |part {d1 d2:D}:rn d1->rn d2->Wd z (.tup [.str "part", .int z,d1,d2])
def aeg(E:Ϝ):ui (tG<|qE dGt (oE 0)<|rC<|.int 0) (oR 0) [] (E.map D.int)=bj ((E.filter λe=>decide<|0<e).map λn=>.sh<|.int n):=by
 rw[Z.wN (λd=>match d with|.int e=>decide<|0<e|_=>f_)<|λd=>.sh d];.show congrArg bj<|K23.Qa E λe=>decide<|0<e
 .intro d hd;have(e,_,rfl):=mMq.mp hd;show([i3 e],?_,λQ=>([i3 e],?_));.simp! []
  .simp! []
def SN{l:List α}(hl:l≠[])i:∃x∈l,atI l (i % (l.length:Int))=bj x:=by
 have n:0<(l.length:Int):=by have:=eW.mpr hl;omega
 have a:=bB i (by ac_nf:(l.length:Int)≠0);have b:=bz i n;have k:(i % (l.length)).toNat<l.length:=by ac_nf
 show(l[(i % (l.length)).toNat],gRq k,by rw[PQ a,gEg k])
def abQ(X:0<z)(hE:E.length<=1000):∃wd,Wd z wd/\wtl [i3 c,v1,i3 z,v3,bj<|aI E,i3 mx,i3 bd,n_,n_,n_,n_,n_]=bj (.rt<|.sh wd):=by
 have u:=uW (i:=c) (j:=8) ⋯;have t0:0<=c % 8:=bB _ ⋯;have Y:c % 8<8:=bz _ ⋯;generalize c % 8=t at u t0 Y;have J:=rG E;by_cases O:t=6
 .subst O;show(_,.found,?_);have s:decide ((6:Int)=6)=t_:=rfl;simp! [wtl,u,s]
 .have s:decide (t=6)=f_:=d4 O;by_cases P:t=7
  .subst P;show(_,.raze,?_);have s:decide ((7:Int)=6)=f_:=rfl;have B:decide ((7:Int)=7)=t_:=rfl;simp! [wtl,u,s,B]
  .have B:decide (t=7)=f_:=d4 P;by_cases Q:3<t
   .have H:decide (3<t)=t_:=d0 Q;have L:=aeg E;have(x,hx,ex):=SN (l:=(E.filter λe=>decide<|0<e).map D.int++[D.int z]) ⋯ mx;obtain⟨y,I,rfl⟩:∃y:Int,0<y/\x = .int y:=by
     rcases mAq.mp hx with q|q;.have(y,I,rfl):=mMq.mp q;show(y,of_decide_eq_true (eD.mp I).2,rfl)
     .show(z,X,mSq.mp q)
    have lR:(((E.filter λe=>decide<|0<e).map D.int++[D.int z]).length:Int)=(((E.filter λe=>decide<|0<e).length+1:Nat):Int):=by simp
    have M:=uW (i:=mx) (j:=(((E.filter λe=>decide<|0<e).map D.int++[D.int z]).length:Int)) ∅;have l1:E.length<=tL:=tY ∅;have l2:(E.filter λe=>decide<|0<e).length+1<=tL:=tY<|by have:=dG (λe=>decide<|0<e) E;lia
    generalize (E.filter λe=>decide<|0<e)=R at L ex M l2 lR;have S:(R.map λn=>AV.sh<|.int n).map pA=R.map D.int:=by rw[mPq];show mCq λn Z=>xk _
    by_cases a4:t=4
    .subst a4;show(_,.cut I,?_);have G:atI [D.str "cut", D.str "draw"] ((4:Int)-4)=bj (.str "cut"):=rfl;simp! [wtl,u,s,B,H,J,dI,L,l1,l2,S,M,ex,G]
    .have a5:t=5:=by lia
     subst a5;show(_,.draw I,?_);have G:atI [D.str "cut", D.str "draw"] ((5:Int)-4)=bj (.str "draw"):=rfl;simp! [wtl,u,s,B,H,J,dI,L,l1,l2,S,M,ex,G]
   .have H:decide (3<t)=f_:=d4 Q;obtain⟨w,hw,G⟩:∃w:Str,(w = "put" ∨ w = "part")/\atI [D.str "put", D.str "part", D.str "put", D.str "part"] t=bj (.str w):=by
     rcases(by lia:t=0∨t=1∨t=2∨t=3)with rfl|rfl|rfl|rfl;.show(_,.inl rfl,rfl)
     .show(_,.inr rfl,rfl)
     .show(_,.inl rfl,rfl)
     .show(_,.inr rfl,rfl)
    have(e1,h1,x1):=SN (l:=E.map D.int++[D.non]) ⋯ mx;have(e2,h2,x2):=SN (l:=(E.map D.int++[D.non])++[D.int z]) ⋯ bd;have q1:rn e1:=by
     rcases mAq.mp h1 with q|q;.have(y,_,rfl):=mMq.mp q;show .inr (y,rfl)
     .show .inl<|mSq.mp q
    have T:rn e2:=by
     rcases mAq.mp h2 with q|q
     .rcases mAq.mp q with q|q;.have(y,_,rfl):=mMq.mp q;show .inr (y,rfl)
      .show .inl<|mSq.mp q
     .show .inr (z,mSq.mp q)
    have L1:((E.map D.int++[D.non]).length:Int)=((E.length+1:Nat)):=by simp
    have L2:(((E.map D.int++[D.non])++[D.int z]).length:Int)=((E.length+1+1)):=by simp;lia
    have m1:=uW (i:=mx) (j:=((E.map D.int++[D.non]).length)) ∅;have m2:=uW (i:=bd) (j:=(((E.map D.int++[D.non])++[D.int z]).length)) ∅;have l1:E.length+1<=tL:=tY ∅;have l2:(E.map D.int++[D.non]).length<tL:=UI ∅;have aX:jE AV.sh (E.map D.int++[D.non])++[AV.sh<|D.int z]=jE AV.sh ((E.map D.int++[D.non])++[D.int z]):=by simp
    have U:wtl [i3 c,v1,i3 z,v3,bj<|aI E,i3 mx,i3 bd,n_,n_,n_,n_,n_]=bj (.rt<|.sh<|.tup [.str w,.int z,e1,e2]):=by simp! [wtl,u,s,B,H,J,dI,l1,l2,aX,m1,m2,x1,x2,G]
    rcases hw with rfl|rfl;.show(_,.put q1 T,U)
    .show(_,.part q1 T,U)
end K26
namespace K26
open PySem L2 Mr Z Xe Zl
open K21 (rn pz)
open K22 (qz)
open K23 (cz C)
open K24 (fo rz)
def words_ok(l:0<z)(B:M.flatten.length<=500):∃wd,Wd z wd/\BH [.int c,dM M,.int z,.bl b]=bj (.sh wd):=by
 have ht:=C4 (rs:=M) ∅;have mu:=ahn (i:=c) (j:=48271) ⋯ ⋯;have n:=uW (i:=c*48271) (j:=2147483647) ⋯;have s:=Cz (i:=c*48271 % 2147483647) (j:=7919) ⋯ ⋯;have t:=Cz (i:=c) (j:=8) ⋯ ⋯;have u:=Cz (i:=c / 8) (j:=(M.flatten.length)+1) ∅ ∅;have x:=rG M.flatten;cases b with
 |true=>
  have(wd,w,e):=abQ (c:=c) (mx:=c / 8) (bd:=c / 8 / ((M.flatten.length)+1)) (E:=M.flatten) (v1:=bj<|.sh<|dM M) (v3:=i6 t_) l ∅;show(wd,w,?_);simp! -implicitDefEqProofs [BH,FV,ht,mu,n,s,t,u,x,dI,lMq,e]
 |false=>
  have(wd,w,e):=abQ (c:=c) (mx:=c*48271 % 2147483647) (bd:=c*48271 % 2147483647 / 7919) (E:=M.flatten) (v1:=bj<|.sh<|dM M) (v3:=i6 f_) l ∅;show(wd,w,?_);simp! -implicitDefEqProofs [BH,FV,ht,mu,n,s,e]
end K26
namespace K29
open PySem L2 Mr Z Xe Zl
open K25 (Rt)
open K21 (GG rn pz wr)
open K22 (Ref qz)
open K23 (C BE cz)
open K24 (fo rz Go)
open K26 (Gd gm over dz Ha Wj)
structure Sz (n:Nat)(M:Λ):Prop where
 gd:Gd M
 fl:M.flatten.length<=128
 ps:4*bare M+3*M.flatten.length<=n
structure Dn (n:Nat)(z:Int)(M:Λ)(ch:D)(fd fb:uU)(W:Λ):Prop where
 dn:fd [ch,dM M]=bj (.ok<|.ow<|W.map aI)
 bk:∃b,fb [ch,dM M]=bj (.ok<|.sh b)
 sz:Sz (n+6) W
 sub:∀x∈W.flatten,x∈M.flatten∨x=z∨x = -z
theorem Ub:∀M:Λ,M.length<=bare M+M.flatten.length
 | []=>ae _
 | []::M=>by have:=Ub M;rw[K24.Jf];simp only[lCq,fCq,gj];lia
 | (x::r)::M=>by
  have:=Ub M;have e:bare ((x::r)::M)=bare M:=by unfold bare;rw[iz ⋯]
  simp only[e,fCq,lAq,lCq,lCq];lia
def Sz.ln(s:Sz n M)(hn:n<=504):bare M<=126/\M.length<=254:=by have:=s.ps;have:=s.fl;have:=Ub M;lia
def Sz.le(s:Sz n M)(h:n<=m):Sz m M:=(s.gd,s.fl,by have:=s.ps;lia)
theorem Sz.over(s:Sz n M)(hn:n<=504):∃L,K15.rJ [dM M]=bj (.ow<|L.map aI)/\K15.rJ [dM L]=bj (.ow<|M.map aI)/\Sz n L/\L.flatten.Perm M.flatten/\bare L=bare M/\K15.rR [dM M]=bj (.ow<|L.map aI)/\K15.rR [dM L]=bj (.ow<|M.map aI):=by
 have l:=s.ln hn;have f:=s.fl;have(L,a,b,g,p,c,d,_):=K26.over s.gd ∅;have B:=p.length_eq;have ps:=s.ps;have t:Sz n L:=(g,by lia,by lia);have E:=t.ln hn;have(N,u,_,_,_,_,x,_):=K26.over g ∅;rw[b]at u;rw[←u]at x;show(L,a,b,t,p,c,d,x)
def Zi(s:Sz n M)(hn:n<=498)(J:z∉M.flatten)(R:-z∉M.flatten)(ne:z ≠ -z)(q1:rn d1)(E:rn d2):(∃k t w y,K21.pV [pz z d1 d2,dM M]=bj (.ex k t)/\K22.qZ [pz z d1 d2,dM M]=bj (.ex k t)/\Ref k t w y)∨∃W,Dn n z M (pz z d1 d2) K21.pV K22.qZ W/\K22.qZ [pz z d1 d2,dM M]=bj (.ok<|.sh<|cz z):=by
 have ln:=s.ln ∅;have fl:=s.fl;have g:=s.gd;have hd:K21.pV [pz z d1 d2,dM M]=bj (wr M z d1 d2):=(K21.done_eq q1 E _).trans<|K21.HR g.mp.hn ∅ ∅ q1 E;have ex:∀{d:D},rn d->wr M z d1 d2=K21.Xo d->∃k t w y,K21.pV [pz z d1 d2,dM M]=bj (.ex k t)/\K22.qZ [pz z d1 d2,dM M]=bj (.ex k t)/\Ref k t w y:=λ{d} q h=>by have(c,fs,w,y,e1,_,r):=K22.ref_ex q;rw[h,e1]at hd;show(c,fs,w,y,hd,(K22.KZ r hd).1,r)
 cases G:GG M z d1 with
 |none=>show .inl<|ex q1<|by unfold wr;rw[qL J];simp only[G]
 |some Q=>cases O:GG Q (-z) d2 with
  |none=>show .inl<|ex E<|by unfold wr;rw[qL J];simp only[G,O]
  |some l=>
   have hw:wr M z d1 d2=if l.flatten.length<=128/\bare l<=128 then .ok (.ow<|(AO<|l.map good).map aI)else .ex "TooMany" []:=by unfold wr;rw[qL J];simp only[G,O]
   by_cases c:l.flatten.length<=128/\bare l<=128
   .rw[qF c]at hw;rw[hw]at hd;have(u,l1):=K21.GO q1 G;have(H,l2):=K21.GO E O;have pm:=H.trans<|u.cons _;have S:-z∉Q.flatten:=λq=>by
     rcases ag.mp (u.mem_iff.mp q)with q|q;.show ne q.symm
     .show R q
    have I:=u.nodup_iff.mpr<|aJ.mpr (J,g.mp.hn);have B:=H.nodup_iff.mpr<|aJ.mpr (S,I);have P:=(Ha<|wM B).trans pm;have Y:(gm l).flatten.length=M.flatten.length+2:=by rw[P.length_eq];rfl
    have gl:(gm l).length=M.length:=by rw[Al,lMq];ac_nf
    have bb:bare (gm l)<=bare M:=by rw[K25.Kg l];show bh (K26.Sk E I O)<|K26.Sk q1 g.mp.hn G
    have T:=pm.length_eq;simp only[lCq]at T;have ps:=s.ps;have c1:=c.1;show .inr (gm l,(hd,(_,K26.IY hd),(((Wj B,by lia,by lia,λe U=>P.mem_iff.mpr ?_),wM B,by lia,by lia),by lia,by lia),λx X=>?_),K26.IY hd)
    .have:=P.mem_iff.mp U;simp only[ag]at this ⊢;rcases this with q|q|q;.show .inr<|.inl<|by ac_nf
     .show .inl<|by ac_nf
     .show .inr<|.inr<|g.mp.hneg e q
    .have:=P.mem_iff.mp X;simp only[ag]at this;rcases this with q|q|q;.show .inr<|.inr q
     .show .inr<|.inl q
     .show .inl q
   .rw[qL c]at hw;rw[hw]at hd;have r:Ref "TooMany" [] "many" 0:=(by trivial,K23.WY);show .inl (_,_,_,_,hd,(K22.KZ r hd).1,r)
def aeW(hn:M.flatten.Nodup)(ne:z ≠ -z)(s:z∈M.flatten)(t:-z∈M.flatten):(C z M).flatten.length+2<=M.flatten.length:=by
 rw[K23.Ux];have nz:∀x∈BE z M.flatten,x∈M.flatten/\x≠z/\x ≠ -z:=λx l=>by unfold BE at l;simpa using eD.mp l
 have:=T1 (BE z M.flatten++[z, -z]) M.flatten (nAq.mpr (hn.sublist ji,by simpa using ne,λa ha b hb e=>by
  have:=nz a ha;rw[e]at this;simp only[ag,bL,or_false]at hb;rcases hb with rfl|rfl;.show this.2.1 rfl
  .show this.2.2 rfl)) λx l=>by
  rcases mAq.mp l with q|q;.show(nz x q).1
  .simp only[ag,bL,or_false]at q;rcases q with rfl|rfl;.show s
   .show t
 simpa using this
def aaG(s:Sz n M)(hn:n<=498)(ne:z ≠ -z):(z∉M.flatten/\K23.qM [cz z,dM M]=bj (.ex "NotThere" [%["end"|z]])/\K26.rN [cz z,dM M]=bj (.ex "NotThere" [%["end"|z]]))∨∃W d1 d2,rn d1/\rn d2/\Dn n y M (cz z) K23.qM K26.rN W/\K26.rN [cz z,dM M]=bj (.ok<|.sh<|pz z d1 d2):=by
 have ln:=s.ln ∅;have fl:=s.fl;have g:=s.gd;by_cases l:z∈M.flatten
 .have(w,r1):=Rt.of l;have(u,r2):=Rt.of<|g.mp.hneg z l;have B:=g.mp.hn.sublist<|K26.amE z M;have t:=Ha<|wM B;have cl:=aeW g.mp.hn ne l<|g.mp.hneg z l;have O:=K26.ak5 g.mp.hn ne;have ps:=s.ps;have P:(gm<|C z M).length=M.length:=by rw[Al,lMq];show lMq ..
  have mem:∀x,x∈(C z M).flatten↔x∈M.flatten/\x≠z/\x ≠ -z:=λx=>by rw[K23.Ux];unfold BE;rw[eD];simp
  have E:(gm<|C z M).flatten.length=(C z M).flatten.length:=t.length_eq;have hd:=K23.agj ∅ ∅ l;rw[qF ∅]at hd;have G:=K26.abt g.mp.hn ∅ ∅ ne r1;have H:=K26.YB g.mp.hn ∅ ∅ r2;have bk:=K26.RN (K26.Hz _) (K26.Hz _) hd G H;have bs:bare (gm<|C z M)=bare (C z M):=K25.Kg<|C z M;show .inr (gm<|C z M,_,_,K26.Hz _,K26.Hz _,((K23.done_eq _).trans hd,(_,bk),(((Wj B,by lia,by lia,λe I=>t.mem_iff.mpr ?_),wM B,by lia,?_),by lia,?_),λx J=>.inl ((mem x).mp<|t.mem_iff.mp J).1),bk);.have(a,b,c):=(mem e).mp<|t.mem_iff.mp I;show(mem _).mpr (g.mp.hneg e a,by lia,by ac_nf)
  .rw[bs];lia
  .rw[bs,E];lia
 .have h:=K23.QU ∅ l;have e:=K23.ref_ex h;show .inl (l,(K23.done_eq _).trans h,?_);simp! [K26.rN,K26.AU,e]
end K29
namespace K29
open PySem L2 Mr Z Xe Zl
open K26 (Of IB DI zc)
inductive Oo:Str->MF->Str->MF->Prop
 |put:Oo "Put" K26.ux "Part" K26.uj
 |cut:Oo "Cut" K26.vd "Draw" K25.uf
 |part:Oo "Part" K22.ti "Put" K21.uN
 |draw:Oo "Draw" K25.tO "Cut" K22.uO
 |found:Oo "Found" wj "Found" K26.tM
 |raze:Oo "Raze" wV "Raze" K26.ug
section
variable {c:Str}
def abP(o:Oo c fo c' ft')(hl:fs.lookup ("other" : Str)=n_)(h:k S=bj %[.sh<|.ins c fs|S'])(l:fo [.ins c fs]=bj (.sh d)):Qi k S=bj %[.sh d|S']:=by
 have i:=zc (c:=c) hl;have no:∀{e:Str}{f:MF},c≠e->pd f (rH e "other" k oS) S=n_:=λ{e f} q=>by
  have n:=DI (m:= "other") (fs:=fs) q;simp! [vv,h,n]
 have yes:pd fo (rH c "other" k oS) S=bj %[.sh d|S']:=by simp! [vv,h,i,l]
 unfold Qi;cases o <;> simp(disch:=decide) only[ID,no,yes,cg,cj,cY]
def ai7(o:Oo c fo c' ft')(hl:fs.lookup ("other" : Str)=n_)(l:fs'.lookup ("told" : Str)=n_)(h:k S=bj %[.sh<|.ins c fs|S'])(t:fo [.ins c fs]=bj (.sh<|.ins c' fs'))(ht:ft' [.ins c' fs']=bj (.sh d)):ad2 k S=bj %[d|S']:=by
 have i:=zc (c:=c) hl;have u:=zc (c:=c') l;have no:∀{e s:Str}{f g:MF},c≠e->rOf (pd g<|rH s "told" (pd f<|rH e "other" k oS) oS) S=n_:=λ{e s f g} q=>by
  have n:=DI (m:= "other") (fs:=fs) q;simp! [vv,h,n]
 have yes:rOf (pd ft'<|rH c' "told" (pd fo<|rH c "other" k oS) oS) S=bj %[d|S']:=by simp! [vv,h,i,t,u,ht]
 unfold ad2;cases o <;> simp(disch:=decide) only[yM,no,yes,cg,cj,cY]
def adj(C:IB c fs fd fb ft)(h:k S=bj %[.sh<|.ins c fs|S'])(ht:ft [.ins c fs]=bj (.sh d)):UP k S=bj %[.sh d|S']:=by
 have i:=zc (c:=c) C.l3;have no:∀{e:Str}{f:MF},c≠e->pd f (rH e "told" k oS) S=n_:=λ{e f} q=>by
  have n:=DI (m:= "told") (fs:=fs) q;simp! [vv,h,n]
 have yes:pd ft (rH c "told" k oS) S=bj %[.sh d|S']:=by simp! [vv,h,i,ht]
 unfold UP;have(o,_,_,_):=C;cases o <;> simp(disch:=decide) only[ID,no,yes,cg,cj,cY]
def UN(C:IB c fs fd fb ft)(hk:oR k S=bj %[.sh<|.ins c fs|S])(l:oR j S=bj %[.sh x|S'])(h:fd [.ins c fs,x]=bj r):dnX i k j S=wZ (λa=>bj<|.ok<|.nx<|S'.set i<|bj a) r:=by
 have s:=zc (c:=c) C.l1;have no:∀{e:Str}{f:uU},c≠e->Ii i f (rH e "done" (oR k)<|oz (oR j) oS) S=n_:=λ{e f} q=>by have n:=DI (m:= "done") (fs:=fs) q;simp only[Ii,rH,hk,n,bP,ie]
 have yes:Ii i fd (rH c "done" (oR k)<|oz (oR j) oS) S=wZ (λa=>bj<|.ok<|.nx<|S'.set i<|bj a) r:=by simp only[Ii,rH,hk,s,oz,oS,l,h,bP,bK,aq,cL,xk]
 unfold dnX;have(o,_,_,_):=C;cases o <;> simp(disch:=decide) only[HW,no,yes,cg,cj]
def acA(C:IB c fs fd fb ft)(l:tW S i=bj avs)(hk:oR k S=bj %[.sh<|.ins c fs|S])(s:oR j S=bj %[.sh x|S'])(h:fb [.ins c fs,x]=bj r):bkX i k j S=wZ (λa=>(tW S' i).bind λavs=>yP (avs.length<tL)<|bj<|.ok<|.nx<|S'.set i<|bj<|.ow<|avs++[a]) r:=by
 have t:=zc (c:=c) C.l2;have no:∀{e:Str}{f:uU},c≠e->K7 i f (rH e "back" (oR k)<|oz (oR j) oS) S=n_:=λ{e f} q=>by have n:=DI (m:= "back") (fs:=fs) q;simp only[K7,l,rH,hk,n,bP,ie]
 have yes:K7 i fb (rH c "back" (oR k)<|oz (oR j) oS) S=wZ (λa=>(tW S' i).bind λavs=>yP (avs.length<tL)<|bj<|.ok<|.nx<|S'.set i<|bj<|.ow<|avs++[a]) r:=by simp only[K7,l,rH,hk,t,oz,oS,s,h,bP,bK,aq,cL,xk]
 unfold bkX;have(o,_,_,_):=C;cases o <;> simp(disch:=decide) only[HW,no,yes,cg,cj]
def S0(h:c≠c'):tU c' f (.ins c fs)=n_:=by rw[RI,qL h]
def OO:tU c f (.ins c fs)=fs.lookup f:=by rw[RI,qF rfl]
def TX(h:m S=bj %[.ins c fs|S']):vX (tU e f) m S=(tU e f<|.ins c fs).map λd=>%[d|S']:=by rw[akX,h];rfl
def abS(l:c = "Put" ∨ c = "Cut" ∨ c = "Part" ∨ c = "Draw")(h:m S=bj %[.ins c fs|S'])(hl:fs.lookup ("road" : Str)=bj d):XM m S=bj %[d|S']:=by
 have u:=λf e=>TX (f:=f) (e:=e) h;unfold XM;rcases l with rfl|rfl|rfl|rfl <;> simp(disch:=decide) only[yM,u,S0,OO,hl,gk,bK,cg,cj,cY]
def aij(l:c = "Put" ∨ c = "Part")(h:m S=bj %[.ins c fs|S'])(hl:fs.lookup ("first" : Str)=bj d):ago m S=bj %[d|S']:=by
 have u:=λf e=>TX (f:=f) (e:=e) h;unfold ago;rcases l with rfl|rfl <;> simp(disch:=decide) only[yM,u,S0,OO,hl,gk,bK,cg,cj,cY]
def akk(l:c = "Put" ∨ c = "Part")(h:m S=bj %[.ins c fs|S'])(hl:fs.lookup ("second" : Str)=bj d):age m S=bj %[d|S']:=by
 have u:=λf e=>TX (f:=f) (e:=e) h;unfold age;rcases l with rfl|rfl <;> simp(disch:=decide) only[yM,u,S0,OO,hl,gk,bK,cg,cj,cY]
end
end K29
namespace K29
open PySem L2 Mr Z Xe Zl
open K21 (rn pz)
open K22 (Ref qz)
open K23 (C cz)
open K24 (fo rz Go)
open K26 (Gd gm dz IB cP cC cQ cD cF cR tQ tD tF tR pl1 pl2 pl4 Wd dt dq q0)
structure Ov (n:Nat)(M L:Λ):Prop where
 s1:Sz n M
 s2:Sz n L
 e1:K15.rJ [dM M]=bj (.ow<|L.map aI)
 e2:K15.rJ [dM L]=bj (.ow<|M.map aI)
 pm:L.flatten.Perm M.flatten
 br:bare L=bare M
def Ac(n:Nat)(z:Int)(M L:Λ)(ch:D)(fd u:uU)(l:D)(s:uU):Prop:=(∃k t w y,fd [ch,dM M]=bj (.ex k t)/\u [ch,dM M]=bj (.ex k t)/\Ref k t w y/\s [l,dM L]=bj (.ex k t)) ∨
 ∃W X,Dn n z M ch fd u W/\s [l,dM L]=bj (.ok<|.ow<|X.map aI)/\Ov (n+6) W X
section
variable {L:Λ}
theorem Ov.symm(o:Ov n M L):Ov n L M:=(o.s2,o.s1,o.e2,o.e1,o.pm.symm,o.br.symm)
theorem Ov.le(o:Ov n M L)(h:n<=l):Ov l M L:=(o.s1.le h,o.s2.le h,o.e1,o.e2,o.pm,o.br)
def Sz.ov(s:Sz n M)(hn:n<=504):∃L,Ov n M L:=by have(L,a,b,c,d,e,_):=s.over hn;show(L,s,c,a,b,d,e)
def ake(o:Ov n M L)(hn:n<=498)(t:z∉M.flatten)(u:-z∉M.flatten)(ne:z ≠ -z)(q1:rn d1)(l:rn d2):Ac n z M L (pz z d1 d2) K21.pV K22.qZ (qz z d1 d2) K22.sq:=by
 rcases Zi o.s1 hn t u ne q1 l with⟨k,x,w,y,s,B,r⟩|⟨W,dn,_⟩;.show .inl (k,x,w,y,s,B,r,K26.Oa q1 l o.e2 s)
 .have(X,v):=dn.sz.ov<|by ac_nf
  show .inr (W,X,dn,K26.U9 q1 l o.e2 dn.dn v.e1,v)
def afo(o:Ov n M L)(hn:n<=498)(t:z∉M.flatten)(u:-z∉M.flatten)(ne:z ≠ -z)(q1:rn d1)(l:rn d2):Ac n z M L (qz z d1 d2) K22.sq K26.uy (pz z d1 d2) K21.pV:=by
 rcases Zi o.s2 hn (λq=>t<|o.pm.mem_iff.mp q) (λq=>u<|o.pm.mem_iff.mp q) ne q1 l with⟨k,B,w,y,s,E,r⟩|⟨W,dn,hb⟩;.show .inl (k,B,w,y,K26.Oa q1 l o.e1 s,K26.R7 q1 l o.e1 E,r,s)
 .have(X,v):=dn.sz.ov<|by ac_nf
  show .inr (X,W,(K26.U9 q1 l o.e1 dn.dn v.e1,(_,K26.abw q1 l o.e1 hb),v.s2,λx G=>(dn.sub x<|v.pm.mem_iff.mp G).imp_left o.pm.mem_iff.mp),dn.dn,v.symm)
def aj9(o:Ov n M L)(hn:n<=498)(ne:z ≠ -z):Ac n y M L (cz z) K23.qM K26.rN (dz z) K25.rZ:=by
 rcases aaG o.s1 hn ne (y:=y)with⟨_,l,s⟩|⟨W,d1,d2,q1,t,dn,hb⟩;.show .inl (_,_,_,_,l,s,(by trivial,K23.Av z),K26.Px o.e2 l)
 .have(X,v):=dn.sz.ov<|by ac_nf
  show .inr (W,X,dn,K26.Vz o.e2 dn.dn v.e1,v)
def aeZ(o:Ov n M L)(hn:n<=498)(ne:z ≠ -z):Ac n y M L (dz z) K25.rZ K26.uu (cz z) K23.qM:=by
 rcases aaG o.s2 hn ne (y:=y)with⟨_,l,s⟩|⟨W,d1,d2,q1,t,dn,hb⟩;.show .inl (_,_,_,_,K26.Px o.e1 l,K26.Sx o.e1 s,(by trivial,K23.Av z),l)
 .have(X,v):=dn.sz.ov<|by ac_nf
  show .inr (X,W,(K26.Vz o.e1 dn.dn v.e1,(_,K26.aaB q1 t o.e1 hb),v.s2,λx u=>(dn.sub x<|v.pm.mem_iff.mp u).imp_left o.pm.mem_iff.mp),dn.dn,v.symm)
def Kb(hm:Mp M)(h':Mp<|[]::M)(e:K15.rJ [dM M]=bj (.ow<|L.map aI)):K15.rJ [dM<|[]::M]=bj (.ow<|([]::L).map aI):=by
 have(A,u,l):=K15.DU hm;have(B,x,E):=K15.DU h';rw[E];rw[e]at l;have G:L.map aI=(AO<|(K15.yF M++A).map good).map aI:=by
  injection l with l;injection l
 have t:Qk (K15.fw M) M.flatten B:=x;have p:=u.perm (K15.FQ hm) t;have s:AO ((K15.yF ([]::M)++B).map good)=[]::AO ((K15.yF M++A).map good):=by
  symm;show FM ?_<|bV.mpr (λr Q=>K24.JP r,Aq _);show((vF _).cons _).trans ?_;change(([]:Ϝ)::(K15.yF M++A).map good).Perm ([]::(K15.yF M++B).map good);show bS.cons _ ?_;rw[mBq,mBq];show bS.append_left _ p
 rw[s,aq,aq,G]
def Ov.cons(o:Ov n M L)(hn:n<=498):Ov (n+4) ([]::M)<|[]::L:=by
 have sc:∀{M:Λ},Sz n M->Sz (n+4) ([]::M):=λ{M} s=>by
  have l:=s.ln ∅;have g:=s.gd;have ps:=s.ps;show(((g.mp.hn,g.mp.hl,by simp only[lCq];lia,g.mp.hneg),?_,by simp only[lCq];lia,by rw[K24.Jf];lia),s.fl,?_)
  .have e:=(K26.go_of g s.fl ∅);show(FM (by rw[aq,K24.good_nil,Go.map e])<|bV.mpr (λr Q=>K24.JP r,e.so)).symm
  .rw[K24.Jf];change 4*(bare M+1)+3*M.flatten.length<=_;lia
 have a:=sc o.s1;have b:=sc o.s2;show(a,b,Kb o.s1.gd.mp a.gd.mp o.e1,Kb o.s2.gd.mp b.gd.mp o.e2,o.pm,by rw[K24.Jf,K24.Jf,o.br])
def Ov.lands(o:Ov n M L)(hn:n<=504):K15.rR [dM M]=bj (.ow<|L.map aI)/\K15.rR [dM L]=bj (.ow<|M.map aI):=by have(t,a,_,_,_,_,c,_):=o.s1.over hn;have(u,l,_,_,_,_,s,_):=o.s2.over hn;rw[o.e1]at a;rw[o.e2]at l;rw[←a]at c;rw[←l]at s;show(c,s)
def acN(o:Ov n M L)(hn:n<=498):Ac n y M L fo K26.ri K26.va fo K26.ri:=by
 have t:=o.cons hn;have one:∀{M:Λ},Sz n M->K26.f_with_place [dM M]=bj (.ok<|.ow<|([]::M).map aI):=λ{M} s=>by
  have l:=s.ln ∅;have ps:=s.ps;show(K26.Jk (K26.go_of s.gd s.fl ∅) ∅ s.gd.go ∅).1
 have(u,B):=K26.ahf<|one o.s1;have(b1,_):=K26.ahf<|one o.s2;show .inr ([]::M,[]::L,(u,(_,B),t.s1.le ∅,λx E=>.inl E),b1,t.le ∅)
def aeL(o:Ov n M L)(hn:n<=498):Ac n y M L rz K26.qW K26.uv rz K26.qW:=by
 have has:∀{M:Λ},[]∈M↔0<bare M:=λ{M}=>by
  unfold bare;rw[List.countP_pos_iff];constructor;.intro h;show([],h,by rfl)
  .rintro⟨r,h,e⟩;have:r=[]:=by simpa using e
   rw[←this];show h
 by_cases hm:[]∈M
 .have less:∀{M:Λ},Sz n M->[]∈M->∃N,M=[]::N/\Sz n N/\K26.f_without_place [dM M]=bj (.ok<|.ow<|N.map aI):=λ{M} s h=>by
   have l:=s.ln ∅;have ps:=s.ps;have(N,rfl,O):=(K26.go_of s.gd s.fl ∅).less h;have b0:=K24.Jf (M:=N);have lN:N.length+1<=254:=l.2;have P:N.flatten.length<=128:=s.fl;have pN:4*bare ([]::N)+3*N.flatten.length<=n:=ps;have u:Sz n N:=(((s.gd.mp.hn,s.gd.mp.hl,by lia,s.gd.mp.hneg),O,by lia,by lia),P,by lia);have go:=K26.go_of u.gd P ∅;show(N,rfl,u,(K26.Jk go ∅ O ∅).2)
  have(N,rfl,u,Q):=less o.s1 hm;have(K,rfl,sK,R):=less o.s2<|has.mpr<|by rw[o.br];show has.mp hm
  have(G,H):=K26.ahe Q;have(b1,_):=K26.ahe R;have(I,S,T,J,U,X,x5,x6):=u.over ∅;have ov:Ov n N I:=(u,J,S,T,U,X);have t:=(ov.cons hn).e1;rw[o.e1]at t;have Y:I=K:=by
   injection t with t;injection t with t;injection t with _ t;have inj:∀{A B:Λ},A.map aI=B.map aI->A=B:=λ{A B} h=>by
    have:=congrArg (jE λa=>match pA a with|.list E=>(vt E).getD []|_=>[]) h;rw[mPq,mPq]at this;have e:∀A:Λ,A.map ((λa=>match pA a with|.list E=>(vt E).getD []|_=>[])∘aI)=A:=λA=>by
     show(mCq λr Z=>?_).trans<|cW A;change(match pA (aI r)with|.list E=>(vt E).getD []|_=>[])=r;rw[rG];change(vt<|r.map .int).getD []=r;rw[vV];rfl
    rwa [e,e]at this
   show(inj t).symm
  subst Y;show .inr (N,I,(G,(_,H),u.le ∅,λx hx=>.inl hx),b1,ov.le ∅)
 .have h:∀{M:Λ},[]∉M->K26.f_without_place [dM M]=bj (.ex "NoPlace" []):=λ{M} hm=>by rw[K26.op_eq];show K24.ajV hm
  have(G,H):=K26.ahb<|h hm;have(b1,_):=K26.ahb<|h (M:=L) λq=>hm<|has.mpr<|by rw[←o.br];show has.mp q
  show .inl (_,_,_,_,G,H,(by trivial,K22.Lx),b1)
end
end K29
namespace K29
open PySem L2 Mr Z Xe Zl
open K21 (rn pz)
open K22 (Ref qz)
open K23 (C cz xo FJ)
open K24 (fo rz)
open K26 (Gd gm dz IB cP cC cQ cD cF cR tQ tD tF tR pl1 pl2 pl4 Wd dt dq q0)
noncomputable abbrev prs:List<|Str×Str:=[%["put"|"part"],%["part"|"put"],%["cut"|"draw"],%["draw"|"cut"],%["found"|"found"],%["raze"|"raze"]]
def E3(hl:ds.length<=3)(h:Z.getD (prs.map λp=>%[(dP p.1:rD)|D.str p.2]) (.inr w)=bj (.str l)):Ad [.tup<|.str w::ds]=bj (.sh<|.tup<|.str l::ds):=by
 have n:MN (.tup<|.str w::ds) (.int 0)=bj (.str w):=q0 _ _;have kd:∀S,To prs S=bj %[.owd<|prs.map λp=>%[(dP p.1:rD)|D.str p.2]|S]:=λQ=>rfl;generalize (prs.map λp=>%[(dP p.1:rD)|D.str p.2])=kv at h kd;have s:∀ds:List D,YR (.sh<|.tup ds)=bj ds:=λQ=>rfl;have t:Sg (oR 0) (ud<|rC<|.int 1) wA [bj<|.sh<|.tup<|.str w::ds,bj<|.owd kv]=bj %[.sh<|.tup ds|[bj<|.sh<|.tup<|.str w::ds,bj<|.owd kv]]:=by
  have u:HT.xi (ds.length+1) 0 (bj 1)=1:=by
   rw[show(1:Int)=((1:Nat):Int)from rfl,HT.A4];rfl'
  have ct:wW (.str w::ds) (bj 1) n_=ds:=yO (.str w::ds) 1 ⋯;have x:(HT.xi (ds.length+1) 0 (bj 1)=0/\HT.xi (ds.length+1) (ds.length+1) n_=ds.length+1)=False:=eq_false λz=>by rw[u]at z;lia
  simp! [ag2,s,x,ct]
 have l1:([D.str l]≠[]/\[D.str l].length+ds.length<=tL):=(by simp,by change 1+_<=16777216;lia);have B:xq (oz (kSc<|GJ (oE 1)<|qE MN (oE 0)<|rC<|.int 0) oS) [bj<|.sh<|.tup<|.str w::ds,bj<|.owd kv]=bj %[.sh<|.tup [.str l]|[bj<|.sh<|.tup<|.str w::ds,bj<|.owd kv]]:=by simp! [n,h]
 have E:Ww (xq<|oz (kSc<|GJ (oE 1)<|qE MN (oE 0)<|rC<|.int 0) oS) (Sg (oR 0) (ud<|rC<|.int 1) wA) [bj<|.sh<|.tup<|.str w::ds,bj<|.owd kv]=bj %[.sh<|.tup<|.str l::ds|[bj<|.sh<|.tup<|.str w::ds,bj<|.owd kv]]:=by simp only[Ww,B,bP,ab5,t];show xx l1 _
 simp! [Ad,LK,kd,E]
structure Md (wd:D)(c:Str)(fs:List<|Str×D)(fd fb:uU)(ft:MF)(c':Str)(fs':List<|Str×D)(fd' fb':uU)(ft':MF):Prop where
 C:IB c fs fd fb ft
 C':IB c' fs' fd' fb' ft'
 oo:∃f f',Oo c f c' ft'/\Oo c' f' c ft/\f [.ins c fs]=bj (.sh<|.ins c' fs')/\f' [.ins c' fs']=bj (.sh<|.ins c fs)
 l1:fs.lookup ("other" : Str)=n_
 l2:fs'.lookup ("other" : Str)=n_
 ma:K26.AG [wd]=bj (.sh<|.ins c fs)
 tl:ft [.ins c fs]=bj (.sh wd)
 tl':∃wd',ft' [.ins c' fs']=bj (.sh wd')/\Ad [wd]=bj (.sh wd')/\K21.plain 4 wd'
 pl:K21.plain 4 wd
 wo:∃w ds,wd = .tup (.str w::ds)/\(ds=[]∨(∃y,ds=[.int y]/\(c' = "Put" ∨ c' = "Cut" ∨ c' = "Part" ∨ c' = "Draw")/\fs'.lookup ("road" : Str)=bj (.int y))∨∃y d1 d2,ds=[.int y,d1,d2]/\rn d1/\rn d2/\(c' = "Put" ∨ c' = "Part")/\fs'.lookup ("road" : Str)=bj (.int y)/\fs'.lookup ("first" : Str)=bj d1/\fs'.lookup ("second" : Str)=bj d2)
def adZ{wd}(o:Ov n M L)(hn:n<=498)(B:z∉M.flatten)(U:0<z)(w:Wd z wd):∃c fs fd J R O u x E G,Md wd c fs fd J R O u x E G/\Ac n z M L (.ins c fs) fd J (.ins O u) x:=by
 have P:-z∉M.flatten:=λq=>B<|by have:=o.s1.gd.mp.hneg _ q;rwa [iN]at this
 have l3:∀{a b c:D},[a,b,c].length<=3:=λ{a b c}=>ae _;have l1:∀{a:D},[a].length<=3:=λ{a}=>by simp
 have Q:([]:List D).length<=3:=by simp
 cases w with
 |found=>
  show(_,_,_,_,_,_,_,_,_,_,(cF,cF,(_,_,.found,.found,rfl,rfl),rfl,rfl,?_,tF,(_,tF,E3 Q<|by rfl,pl1),pl1,(_,_,rfl,.inl rfl)),acN o hn);have a:=dt "found";have b:=dq "found" "put" rfl;have c:=dq "found" "part" rfl;have d:=dq "found" "cut" rfl;have e:=dq "found" "draw" rfl;have t:=K24.mkF;simp! [K26.AG,K26.BU,Eb,q0,a,b,c,d,e,t]
 |raze=>
  show(_,_,_,_,_,_,_,_,_,_,(cR,cR,(_,_,.raze,.raze,rfl,rfl),rfl,rfl,?_,tR,(_,tR,E3 Q<|by rfl,pl1),pl1,(_,_,rfl,.inl rfl)),aeL o hn);have a:=dq "raze" "found" rfl;have b:=dq "raze" "put" rfl;have c:=dq "raze" "part" rfl;have d:=dq "raze" "cut" rfl;have e:=dq "raze" "draw" rfl;have t:=K24.mkR;simp! [K26.AG,K26.BU,Eb,q0,a,b,c,d,e,t]
 | @cut y T=>
  have ne:y ≠ -y:=by lia
  show(_,_,_,_,_,_,_,_,_,_,(cC,cD,(_,_,.cut,.draw,K26.Kp,K26.B5),rfl,rfl,rfl,K22.Uh,(_,tD,E3 l1<|by rfl,pl2),pl2,(_,_,rfl,.inr<|.inl (_,rfl,.inr<|.inr<|.inr rfl,rfl))),aj9 o hn ne)
 | @draw y T=>
  have ne:y ≠ -y:=by lia
  show(_,_,_,_,_,_,_,_,_,_,(cD,cC,(_,_,.draw,.cut,K26.B5,K26.Kp),rfl,rfl,rfl,tD,(_,K22.Uh,E3 l1<|by rfl,pl2),pl2,(_,_,rfl,.inr<|.inl (_,rfl,.inr<|.inl rfl,rfl))),aeZ o hn ne)
 | @put H I l s=>
  show(_,_,_,_,_,_,_,_,_,_,(cP,cQ,(_,_,.put,.part,K26.Kd l s,K22.BN l s),rfl,rfl,?_,K21.N3 l s,(_,tQ l s,E3 l3<|by rfl,pl4 l s),pl4 l s,(_,_,rfl,.inr<|.inr (_,_,_,rfl,l,s,.inr rfl,rfl,rfl,rfl))),ake o hn B P ∅ l s);have a:=dt "put";have t:=K26.mk3 (c:= "Put") (S:=[bj<|.sh<|.tup [.str "put", .int z,H,I]]) (a:=oC (qE zF (oE 0)<|rC<|.int 1)<|oC (qE zF (oE 0)<|rC<|.int 2)<|oC (qE zF (oE 0)<|rC<|.int 3) oW) l s<|by rfl
  simp! [K26.AG,K26.BU,Eb,q0,a,t]
 | @part H I l s=>
  show(_,_,_,_,_,_,_,_,_,_,(cQ,cP,(_,_,.part,.put,K22.BN l s,K26.Kd l s),rfl,rfl,?_,tQ l s,(_,K21.N3 l s,E3 l3<|by rfl,pl4 l s),pl4 l s,(_,_,rfl,.inr<|.inr (_,_,_,rfl,l,s,.inl rfl,rfl,rfl,rfl))),afo o hn B P ∅ l s);have a:=dt "part";have b:=dq "part" "put" rfl;have t:=K26.mk3 (c:= "Part") (S:=[bj<|.sh<|.tup [.str "part", .int z,H,I]]) (a:=oC (qE zF (oE 0)<|rC<|.int 1)<|oC (qE zF (oE 0)<|rC<|.int 2)<|oC (qE zF (oE 0)<|rC<|.int 3) oW) l s<|by rfl
  simp! [K26.AG,K26.BU,Eb,q0,a,b,t]
end K29
namespace K29
open PySem L2 Mr Z Xe Zl
open K21 (rn)
open K22 (Ref)
open K23 (xo FJ)
open K26 (IB q0)
section
variable {c':Str}{wd fnd:D}
def Vd(C:IB c fs fd fb ft)(h:fd [.ins c fs,x]=bj (.ex k l))(r:Ref k l w y):K26.xu [.ins c fs,x]=bj (xo w y):=by
 have s:=λr=>K26.ab1 (fs:=fs) (r:=r) C.of;have(u,t):=K26.akV (v2:=bj<|.sh .non) (v3:=bj<|.sh .non) (v4:=n_) C.l1 h r;simp! [K26.xu,K26.IE,s,t,xo]
def tl4:MS:=(oZ (pU 5<|oR 3)
 (oZ (wm (tG<|qE Ep (qE Gw (oE 3)<|rC<|.int 0)<|rC<|.str "map") (pU 5<|rV<|oz (kSc<|rC<|.str "map")<|oz (pd K15.rR<|oz (kIx (vq 3)<|rC<|.int 1) oS) oS) pZ)
 (ql<|kSc<|rK K13.qb<|oC (rOf<|pd K26.xu<|oz (oR 4)<|oz (pd K15.rR<|oz (oR 2) oS) oS)<|oC (oE 5) oW)))
def wd4:MS:=(wm (ND (tG<|qE Ep (yK vJ<|oC (oE 1) oW)<|rC<|.int 4)<|uK<|tG<|rK K13.qb<|oC (rOf<|rV<|oz (kSc<|XM<|oE 4)<|oz (kSc<|ago<|oE 4)<|oz (kSc<|age<|oE 4) oS)<|oC (rOf<|KM<|Sg (oR 1) (ud<|rC<|.int 1) wA) oW) (ql<|kSc<|rC<|.bl f_) pZ)
def wd2:MS:=(wm (ND (tG<|qE Ep (yK vJ<|oC (oE 1) oW)<|rC<|.int 2)<|uK<|tG<|rK K13.qb<|oC (XM<|oE 4)<|oC (qE MN (oE 1)<|rC<|.int 1) oW) (ql<|kSc<|rC<|.bl f_) pZ)
def adg(s:K15.rR [dM M]=bj (.ow<|L.map aI))(hd:K26.xu [.ins c' fs',dM L]=bj (xo w y)):tl4 [bj<|.sh<|.ins c fs,bj<|.sh wd,bj<|.sh<|dM M,i4 [.str "refused", .list [.tup [.str w,.int y]]],bj<|.sh<|.ins c' fs',n_]=bj (.rt<|.sh<|.bl t_):=by
 have t:=tj L;have q:∀l:List D,atI (D.str "refused" :: l) 0=bj (.str "refused"):=λl=>q0 _ _;have u:=K26.dq "refused" "map" rfl;have B:K13.qb [.list [.str "refused", .list [.tup [.str w,.int y]]],.list [.str "refused", .list [.tup [.str w,.int y]]]]=i6 t_:=by
  have E:pA (xo w y) = .list [.str "refused", .list [.tup [.str w,.int y]]]:=by rfl
  rw[←E];show K13.alike_refl 4 _<|K13.J7 w y
 unfold xo at hd;unfold dM at *;simp! [tl4,q,u,s,t,hd,B]
def aeA(s:K15.rR [dM M]=bj (.ow<|L.map aI))(hd:K26.xu [.ins c' fs',dM L]=bj (FJ X))(t:K15.rR [dM W]=bj (.ow<|X.map aI))(H:X.length<=1000)(I:X.flatten.length<=1000):tl4 [bj<|.sh<|.ins c fs,bj<|.sh wd,bj<|.sh<|dM M,i4 [.str "map", dM W],bj<|.sh<|.ins c' fs',n_]=bj (.rt<|.sh<|.bl t_):=by
 have u:=tj L;have B:=tj X;have q:∀l:List D,atI (D.str "map" :: l) 0=bj (.str "map"):=λl=>q0 _ _;have q1:atI [D.str "map", dM W] 1=bj (dM W):=K26.q1 _ _ _;have E:=K26.dt "map";have G:K13.qb [.list [.str "map", dM X],.list [.str "map", dM X]]=i6 t_:=K13.alike_refl 4 _ (by change 2<1000000;decide,λd hd=>by
  simp only[ag,bL,or_false]at hd;rcases hd with rfl|rfl;.trivial
  .show K13.J1 0 X (by rfl')<|by rfl');unfold FJ at hd;unfold dM at *;simp! [tl4,q,q1,E,t,s,u,hd,B,G]
def words_ok(h:ds=[]∨(∃y,ds=[.int y]/\(c' = "Put" ∨ c' = "Cut" ∨ c' = "Part" ∨ c' = "Draw")/\fs'.lookup ("road" : Str)=bj (.int y))∨∃y d1 d2,ds=[.int y,d1,d2]/\rn d1/\rn d2/\(c' = "Put" ∨ c' = "Part")/\fs'.lookup ("road" : Str)=bj (.int y)/\fs'.lookup ("first" : Str)=bj d1/\fs'.lookup ("second" : Str)=bj d2):wd4 [v0,bj<|.sh<|.tup<|.str w::ds,v2,v3,bj<|.sh<|.ins c' fs',n_]=bj (.nx [v0,bj<|.sh<|.tup<|.str w::ds,v2,v3,bj<|.sh<|.ins c' fs',n_])/\wd2 [v0,bj<|.sh<|.tup<|.str w::ds,v2,v3,bj<|.sh<|.ins c' fs',n_]=bj (.nx [v0,bj<|.sh<|.tup<|.str w::ds,v2,v3,bj<|.sh<|.ins c' fs',n_]):=by
 have u:oE 4 [v0,bj<|.sh<|.tup<|.str w::ds,v2,v3,bj<|.sh<|.ins c' fs',n_]=bj %[.ins c' fs'|[v0,bj<|.sh<|.tup<|.str w::ds,v2,v3,bj<|.sh<|.ins c' fs',n_]]:=by rfl
 rcases h with rfl|⟨y,rfl,l,hl⟩|⟨y,d1,d2,rfl,G,H,l,r1,r2,I⟩
 .have t:decide (((1:Nat):Int)=4)=f_:=by rfl
  have e2:decide (((1:Nat):Int)=2)=f_:=by rfl
  show(by simp! [wd4,t],by simp! [wd2,e2])
 .have t:decide (((2:Nat):Int)=4)=f_:=by rfl
  have e2:decide (((2:Nat):Int)=2)=t_:=by rfl
  have B:=abS l u hl;have i1:MN (.tup [.str w,.int y]) (.int 1)=bj (.int y):=K26.q1 _ _ _;have E:K13.qb [.int y,.int y]=i6 t_:=K13.alike_refl 4 _ trivial;show(by simp! [wd4,t],by simp! [wd2,e2,B,i1,E])
 .have t:decide (((4:Nat):Int)=4)=t_:=by rfl
  have e2:decide (((4:Nat):Int)=2)=f_:=by rfl
  have B:=abS (l.elim .inl λq=>.inr<|.inr<|.inl q) u r1;have rf:=aij l u r2;have J:=akk l u I;have s1:=K21.rn.sc G;have s2:=K21.rn.sc H;have O:∀ds:List D,YR (.sh<|.tup ds)=bj ds:=λZ=>rfl;have P:∀ds:List D,tuD (.sh<|.tup ds)=bj ds:=λZ=>rfl;have ct:wW [.str w,.int y,d1,d2] (bj 1) n_=[.int y,d1,d2]:=yO [.str w,.int y,d1,d2] 1 ⋯;have Q:HT.xi 4 0 (bj 1)=1:=by
   rw[show(1:Int)=((1:Nat):Int)from rfl,HT.A4];rfl
  have R:(HT.xi 4 0 (bj 1)=0/\HT.xi 4 4 n_=4)=False:=eq_false λz=>by rw[Q]at z;lia
  have E:K13.qb [.list [.int y,d1,d2],.list [.int y,d1,d2]]=i6 t_:=K21.alike_refl 4 _ (by change 3<1000000;decide,λd hd=>by
   have k:∀{d:D},rn d->K21.plain 3 d:=λ{d} h=>by rcases h with rfl|⟨s,rfl⟩ <;> trivial
   simp only[ag,bL,or_false]at hd;rcases hd with rfl|rfl|rfl;.trivial
   .show k G
   .show k H);have S:KM (Sg (oR 1) (ud<|rC<|.int 1) wA) [v0,bj<|.sh<|.tup [.str w,.int y,d1,d2],v2,v3,bj<|.sh<|.ins c' fs',n_]=bj %[.ow [.sh<|.int y,.sh d1,.sh d2]|[v0,bj<|.sh<|.tup [.str w,.int y,d1,d2],v2,v3,bj<|.sh<|.ins c' fs',n_]]:=by simp! [adS,ag2,O,R,ct,P]
  show(by simp! [wd4,t,B,rf,J,s1,s2,S,E],by simp! [wd2,e2])
def MY(o:Ov n M L)(hn:n<=498)(m:Md wd c fs fd fb ft c' fs' fd' fb' ft')(h:tl4 [bj<|.sh<|.ins c fs,bj<|.sh wd,bj<|.sh<|dM M,bj<|.sh fnd,bj<|.sh<|.ins c' fs',n_]=bj (.rt<|.sh<|.bl t_)):Cg [.ins c fs,wd,dM M,fnd]=i6 t_:=by
 have(f,T,B,E,e1,e2):=m.oo;have(l,G,ow,s):=m.tl';have H:K13.qb [wd,wd]=i6 t_:=K21.alike_refl 4 _ m.pl;have I:K13.qb [l,l]=i6 t_:=K21.alike_refl 4 _ s;have J:=abP (k:=oR 0) (S:=[bj<|.sh<|.ins c fs,bj<|.sh wd,bj<|.sh<|dM M,bj<|.sh fnd,n_,n_]) (S':=[bj<|.sh<|.ins c fs,bj<|.sh wd,bj<|.sh<|dM M,bj<|.sh fnd,n_,n_]) B m.l1 (by rfl) e1;have O:=K26.akp (m:=oE 4) (S:=[bj<|.sh<|.ins c fs,bj<|.sh wd,bj<|.sh<|dM M,bj<|.sh fnd,bj<|.sh<|.ins c' fs',n_]) m.C'.of<|by rfl
 have P:=K26.aic (k:=oR 4) (S:=[bj<|.sh<|.ins c fs,bj<|.sh wd,bj<|.sh<|dM M,bj<|.sh fnd,bj<|.sh<|.ins c' fs',n_]) m.C' (by rfl) G;have Q:=ai7 (k:=oR 4) (S:=[bj<|.sh<|.ins c fs,bj<|.sh wd,bj<|.sh<|dM M,bj<|.sh fnd,bj<|.sh<|.ins c' fs',n_]) E m.l2 m.C.l3 (by rfl) e2 m.tl;have(w,U,hw,t):=m.wo;have(u,g2):=words_ok (w:=w) (v0:=bj<|.sh<|.ins c fs) (v2:=bj<|.sh<|dM M) (v3:=bj<|.sh fnd) t;rw[←hw]at u g2;have R:Jm=(oZ (pU 4<|Qi<|oR 0)
  (oZ (wm (L8 (uK<|tG<|K26.isC<|oE 4)<|uK<|tG<|rK K13.qb<|oC (K26.aeK<|oR 4)<|oC (rOf<|pd K29.Ad<|oz (oR 1) oS) oW) (ql<|kSc<|rC<|.bl f_) pZ)
  (oZ (wm (uK<|tG<|rK K13.qb<|oC (ad2<|oR 4)<|oC (oE 1) oW) (ql<|kSc<|rC<|.bl f_) pZ)
  (oZ wd4<|oZ wd2 tl4)))):=rfl;simp! [Cg,R,J,O,P,ow,I,Q,H,u,g2,h]
end
end K29
namespace K29
open PySem L2 Mr Z Xe Zl
open K22 (Ref)
open K26 (IB)
structure On (M:Λ)(ch:D)(W:Λ):Prop where
 ex:∃c fs fd fb ft wd b,ch = .ins c fs/\IB c fs fd fb ft/\fd [ch,dM M]=bj (.ok<|.ow<|W.map aI)/\fb [ch,dM M]=bj (.ok<|.sh b)/\ft [ch]=bj (.sh wd)/\K21.plain 3 wd
structure Od (M:Λ)(ch:D)(W:Λ):Prop where
 ex:∃c fs fd fb ft,ch = .ins c fs/\IB c fs fd fb ft/\fd [ch,dM M]=bj (.ok<|.ow<|W.map aI)
inductive Rd:Λ->List D->Λ->Prop
 |nil {M}:Rd M [] M
 |cons {M W N ch cs}:Od M ch W->Rd W cs N->Rd M (ch::cs) N
def Rd.app(h:Rd M cs N)(k:Rd N ds W):Rd M (cs++ds) W:=by induction h with
 |nil=>show k
 |cons o _ l=>show .cons o<|l k
inductive Rn:Λ->List D->Λ->Prop
 |nil {M}:Rn M [] M
 |cons {M W N ch cs}:On M ch W->Rn W cs N->Rn M (ch::cs) N
def Rn.app(h:Rn M cs N)(k:Rn N ds W):Rn M (cs++ds) W:=by induction h with
 |nil=>show k
 |cons o _ l=>show .cons o<|l k
def Rn.rd(h:Rn M cs N):Rd M cs N:=by induction h with
 |nil=>show .nil
 |cons o _ l=>have(c,fs,fd,n,s,wd,b,t,C,u,_):=o.ex;show .cons (c,fs,fd,n,s,t,C,u) l
structure Bd (M:Λ)(ch:D)(k:Str)(es:List<|Str×Int):Prop where
 ex:∃c fs fd fb ft wd,ch = .ins c fs/\IB c fs fd fb ft/\fd [ch,dM M]=bj (.ex k es)/\fb [ch,dM M]=bj (.ex k es)/\ft [ch]=bj (.sh wd)/\K21.plain 3 wd
def aeH{v3:Option AV}(o:Od M ch W):dnX 2 3 2 [v0,v1,bj<|.ow<|M.map aI,bj<|.sh ch]=bj (.ok<|.nx [v0,v1,bj<|.ow<|W.map aI,bj<|.sh ch]):=by
 have(c,fs,fd,t,u,rfl,C,l):=o.ex;have n:=tj M;have s:oR 2 [v0,v1,bj<|.ow<|M.map aI,bj<|.sh<|.ins c fs]=bj %[.sh<|dM M|[v0,v1,bj<|.sh<|dM M,bj<|.sh<|.ins c fs]]:=by
  unfold dM;simp! [n]
 rw[UN C (by rfl) s l];rfl
def aaC(h:Rd M cs N):∀{v3}{ds},∃l,En 3 zf (cs++ds) [v0,v1,bj<|.ow<|M.map aI,v3]=En 3 zf ds [v0,v1,bj<|.ow<|N.map aI,l]:=by induction h with
 |nil=>show λ{v3 ds}=>(v3,rfl)
 | @cons M W N ch cs o _ n=>intro v3 ds;have(l,e):=n (v3:=bj<|.sh ch) (ds:=ds);show(l,?_);rw[←e];change(dnX 2 3 2 [v0,v1,bj<|.ow<|M.map aI,bj<|.sh ch]).bind _=_;rw[aeH o (v3:=v3)];rfl
def ajz(b:Bd M ch k es):En 3 zf (ch::ds) [v0,v1,bj<|.ow<|M.map aI,v3]=bj (.ex k es):=by
 have(c,fs,fd,t,u,wd,rfl,C,l,_):=b.ex;have n:=tj M;have s:oR 2 [v0,v1,bj<|.ow<|M.map aI,bj<|.sh<|.ins c fs]=bj %[.sh<|dM M|[v0,v1,bj<|.sh<|dM M,bj<|.sh<|.ins c fs]]:=by
  unfold dM;simp! [n]
 change(dnX 2 3 2 [v0,v1,bj<|.ow<|M.map aI,bj<|.sh<|.ins c fs]).bind _=_;rw[UN C (by rfl) s l];rfl
def M4(M:Λ):ui uS (Dk<|vq 0) [] (M.map dI)=bj (M.map aI):=by
 rw[Z.ye<|λd=>match d with|.list ds=>.ow<|ds.map .sh|_=>.sh .non]
 .rw[mPq];show congrArg bj<|mCq λr Q=>?_;change AV.ow ((r.map D.int).map .sh)=aI r;rw[mPq];rfl
 .intro d hd;have(r,_,rfl):=mMq.mp hd;show([bj<|.sh<|dI r],?_);simp! [dI]
def IU(hl:M.length<=1000)(h:Rd M cs N):vn [dM M,.list cs]=bj (.ok<|.ow<|N.map aI):=by
 have(n,e):=aaC h (v0:=bj<|.sh<|dM M) (v1:=i4 cs) (v3:=n_) (ds:=[]);rw[aNq]at e;have l:=M4 M;have l1:(M.length<=tL)=True:=eq_true<|tY ∅;unfold dM at *;simp! [vn,Ez,V1,l1,l,Wy,e];rfl
def OH(hl:M.length<=1000)(h:Rn M cs N)(b:Bd N ch k es):vn [dM M,.list<|cs++ch::ds]=bj (.ex k es):=by
 have(n,e):=aaC h.rd (v0:=bj<|.sh<|dM M) (v1:=i4<|cs++ch::ds) (v3:=n_) (ds:=ch::ds);rw[ajz b]at e;have l:=M4 M;have l1:(M.length<=tL)=True:=eq_true<|tY ∅;unfold dM at *;simp! [vn,Ez,V1,l1,l,Wy,e]
def aev(s3:pA a3=dM M)(hb:bs.length<1000)(o:On M ch W):∃b,uw [v0,v1,bj<|.ow bs,bj a3,bj<|.sh ch]=bj (.ok<|.nx [v0,v1,bj<|.ow<|bs++[.sh b],bj<|.ow<|W.map aI,bj<|.sh ch]):=by
 have(c,fs,fd,u,x,wd,b,rfl,C,l,n,_):=o.ex;show(b,?_);have s:oR 3 [v0,v1,bj<|.ow bs,bj a3,bj<|.sh<|.ins c fs]=bj %[.sh<|dM M|[v0,v1,bj<|.ow bs,bj<|.sh<|dM M,bj<|.sh<|.ins c fs]]:=by simp! [s3]
 have e1:=acA (i:=2) (k:=4) (avs:=bs) C (by rfl) (by rfl) s n;have e2:=UN (i:=3) (j:=3) (k:=4) (S:=[v0,v1,bj<|.ow<|bs++[.sh b],bj<|.sh<|dM M,bj<|.sh<|.ins c fs]) (S':=[v0,v1,bj<|.ow<|bs++[.sh b],bj<|.sh<|dM M,bj<|.sh<|.ins c fs]) C (by rfl) (by rfl) l;have l1:bs.length<tL:=UI ∅;have t:bkX 2 4 3 [v0,v1,bj<|.ow bs,bj a3,bj<|.sh<|.ins c fs]=bj (.ok<|.nx [v0,v1,bj<|.ow<|bs++[.sh b],bj<|.sh<|dM M,bj<|.sh<|.ins c fs]):=by rw[e1];show xx l1 _
 change(bkX 2 4 3 [v0,v1,bj<|.ow bs,bj a3,bj<|.sh<|.ins c fs]).bind _=_;rw[t];show e2
def ajZ(s3:pA a3=dM M)(b:Bd M ch k es):En 4 uw (ch::ds) [v0,v1,bj<|.ow bs,bj a3,v4]=bj (.ex k es):=by
 have(c,fs,fd,t,u,wd,rfl,C,x,l,_):=b.ex;have n:oR 3 [v0,v1,bj<|.ow bs,bj a3,bj<|.sh<|.ins c fs]=bj %[.sh<|dM M|[v0,v1,bj<|.ow bs,bj<|.sh<|dM M,bj<|.sh<|.ins c fs]]:=by simp! [s3]
 have e1:=acA (i:=2) (k:=4) (avs:=bs) C (by rfl) (by rfl) n l;have s:uw [v0,v1,bj<|.ow bs,bj a3,bj<|.sh<|.ins c fs]=bj (.ex k es):=by change(bkX 2 4 3 [v0,v1,bj<|.ow bs,bj a3,bj<|.sh<|.ins c fs]).bind _=_;rw[e1];rfl
 change(uw [v0,v1,bj<|.ow bs,bj a3,bj<|.sh<|.ins c fs]).bind _=_;rw[s];rfl
def akr(h:Rn M cs N):∀{v4}{a3}{bs},pA a3=dM M->bs.length+cs.length<=900->∃n l s,pA l=dM N/\∀ds,En 4 uw (cs++ds) [v0,v1,bj<|.ow bs,bj a3,v4]=En 4 uw ds [v0,v1,bj<|.ow s,bj l,n]:=by induction h with
 |nil=>show λ{v4 a3 bs} t _=>(v4,a3,bs,t,λQ=>rfl)
 | @cons M W N ch cs o _ u=>
  intro v4 a3 bs t hb;simp only[lCq]at hb;have(b,e):=aev (v0:=v0) (v1:=v1) t ∅ o (bs:=bs);have(n,l,s,x,z):=u (v4:=bj<|.sh ch) (a3:=.ow<|W.map aI) (bs:=bs++[.sh b]) (by rw[vY,tj])<|by rw[lAq,lSq];lia
  show(n,l,s,x,λds=>?_);rw[←z];change(uw [v0,v1,bj<|.ow bs,bj a3,bj<|.sh ch]).bind _=_;rw[e];rfl
def PZ(l:cs.length<=900)(h:Rn M cs N)(b:Bd N ch k es):Ct [dM M,.list<|cs++ch::ds]=bj (.ex k es):=by
 have(s,t,bs,n,e):=akr h (v0:=bj<|.sh<|dM M) (v1:=i4<|cs++ch::ds) (v4:=n_) (a3:=.sh<|dM M) (bs:=[]) (xk _)<|by simpa using l
 have e:=(e<|ch::ds).trans<|ajZ n b;simp! [Ct,IX,V1,Wy,e]
end K29
namespace K29
open PySem L2 Mr Z Xe Zl
open K21 (rn pz wr GG)
open K22 (Ref qz)
open K23 (xo cz)
open K26 (IB dz cP cC cQ cD tQ tD mk3)
def LW(hl:M.length<=1000)(u:cs.length<=900)(h:Rn M cs N)(b:Bd N ch k es)(r:Ref k es w y)t:yN [dM M,.list<|cs++ch::ds,.bl t]=bj (xo w y):=by have e1:=OH (ds:=ds) hl h b;have e2:=PZ (ds:=ds) u h b;have s:=r.un;have hk:=r.kd;generalize cs++ch::ds=l at e1 e2;unfold dM xo at *;cases t with
 |true=>simp! [yN,DF,e2,s,hk]
 |false=>simp! [yN,DF,e1,s,hk]
def pl3(hl:ds.length<=3)(h:∀d∈ds,K21.plain 2 d):K21.plain 3<|.tup<|.str w::ds:=(by simp only[lCq];lia,λd hd=>by
 rcases ag.mp hd with rfl|hd;.trivial
 .show h d hd)
def sp2(h:rn d):K21.plain 2 d:=by rcases h with rfl|⟨s,rfl⟩ <;> trivial
def ahN(k1:rn d1)(k2:rn d2):K21.plain 3<|.tup [.str w,.int z,d1,d2]:=pl3 (ae 3) λd hd=>by
 simp only[ag,bL,or_false]at hd;rcases hd with rfl|rfl|rfl;.trivial
 .show sp2 k1
 .show sp2 k2
def aih:K21.plain 3<|.tup [.str w,.int z]:=pl3 ⋯ λd hd=>by rw[mSq.mp hd];trivial
def N4(fl:M.flatten.length<=128)(l:z∉M.flatten):K23.qM [cz z,dM M]=bj (.ex "NotThere" [%["end"|z]])/\K26.rN [cz z,dM M]=bj (.ex "NotThere" [%["end"|z]]):=by
 have h:=K23.QU fl l;have e:=K23.ref_ex h;show((K23.done_eq _).trans h,?_);simp! [K26.rN,K26.AU,e]
def Vh(s:Sz n M)(hn:n<=504)(l:rn d2)(t:z∉M.flatten)(u:(0:Int)∉M.flatten):K21.pV [pz z (.int 0) d2,dM M]=bj (.ex "NotThere" [%["end"|0]])/\K22.qZ [pz z (.int 0) d2,dM M]=bj (.ex "NotThere" [%["end"|0]]):=by
 have ln:=s.ln hn;have fl:=s.fl;have q1:rn<|.int 0:=.inr (0,rfl);have hd:K21.pV [pz z (.int 0) d2,dM M]=bj (wr M z (.int 0) d2):=(K21.done_eq q1 l _).trans<|K21.HR s.gd.mp.hn ∅ ∅ q1 l;have x:GG M z (.int 0)=n_:=by unfold GG;rw[K21.HK,d4 u];rfl
 have hw:wr M z (.int 0) d2 = .ex "NotThere" [%["end"|0]]:=by unfold wr;rw[qL t];simp only[x];rfl
 rw[hw]at hd;show(hd,(K22.KZ (w:= "there") (y:=0) (by trivial,K23.Av 0) hd).1)
def aiy c z:∃bd y,zU [.int c,.int z]=bj (.sh<|.tup [bd,.tup [.str "there", .int y]])/\∀{n}{M L},Ov n M L->n<=504->z∉M.flatten->(0:Int)∉M.flatten->Bd M bd "NotThere" [%["end"|y]]:=by
 have E:=uW (i:=c) (j:=4) ⋯;have l:rn<|.int 0:=.inr (0,rfl);have G:rn .non:=.inl rfl;have s:rn<|.int z:=.inr (z,rfl);by_cases H:c % 4=0
 .show(cz z,z,?_,λo hn t x=>(_,_,_,_,_,_,rfl,cC,(N4 o.s1.fl t).1,(N4 o.s1.fl t).2,K22.Uh,aih));have B:decide (c % 4=0)=t_:=d0 H;have u:xI "Cut" ["road"] (oC (oE 1) oW) [i3 c,i3 z,i3<|c % 4]=bj %[.sh<|cz z|[i3 c,i3 z,i3<|c % 4]]:=by rfl
  simp! [zU,EF,E,B,u]
 .have B:decide (c % 4=0)=f_:=d4 H;by_cases I:c % 4=1
  .show(dz z,z,?_,λo hn t x=>by
    have(a,b):=N4 o.s2.fl λq=>t<|o.pm.mem_iff.mp q;show(_,_,_,_,_,_,rfl,cD,K26.Px o.e1 a,K26.Sx o.e1 b,tD,aih));have e1:decide (c % 4=1)=t_:=d0 I;have u:xI "Draw" ["road"] (oC (oE 1) oW) [i3 c,i3 z,i3<|c % 4]=bj %[.sh<|dz z|[i3 c,i3 z,i3<|c % 4]]:=by rfl
   simp! [zU,EF,E,B,e1,u]
  .have e1:decide (c % 4=1)=f_:=d4 I;by_cases J:c % 4=2
   .show(pz z (.int 0) .non,0,?_,λo hn t x=>by have(a,b):=Vh o.s1 hn G t x;show(_,_,_,_,_,_,rfl,cP,a,b,K21.N3 l G,ahN l G));have e2:decide (c % 4=2)=t_:=d0 J;have u:=mk3 (c:= "Put") (z:=z) (S:=[i3 c,i3 z,i3<|c % 4]) (a:=oC (oE 1)<|oC (rC<|.int 0)<|oC (rC .non) oW) l G<|by rfl
    simp! [zU,EF,E,B,e1,e2,u]
   .show(qz z (.int 0)<|.int z,0,?_,λo hn t x=>by
     have(a,b):=Vh o.s2 hn s (λq=>t<|o.pm.mem_iff.mp q) λq=>x<|o.pm.mem_iff.mp q;show(_,_,_,_,_,_,rfl,cQ,K26.Oa l s o.e1 a,K26.R7 l s o.e1 b,tQ l s,ahN l s));have e2:decide (c % 4=2)=f_:=d4 J;have u:=mk3 (c:= "Part") (z:=z) (S:=[i3 c,i3 z,i3<|c % 4]) (a:=oC (oE 1)<|oC (rC<|.int 0)<|oC (oE 1) oW) l s<|by rfl
    simp! [zU,EF,E,B,e1,e2,u]
end K29
namespace K29
open PySem L2 Mr Z Xe Zl
open K22 (Ref)
open K23 (xo)
open K26 (IB)
section
variable {cs:List D}
def Tl(ch:D):Prop:=∃c fs fd s l wd,ch = .ins c fs/\IB c fs fd s l/\l [ch]=bj (.sh wd)/\K21.plain 3 wd
def Rn.tl(h:Rn M cs N):∀d∈cs,Tl d:=by induction h with
 |nil=>show λd hd=>by cases hd
 |cons o _ l=>
  intro d hd;rcases ag.mp hd with rfl|hd;.have(c,fs,fd,s,t,wd,b,u,C,_,_,x,z):=o.ex;show(c,fs,fd,s,t,wd,u,C,x,z)
  .show l d hd
theorem Nf:∀{cs},(∀d∈cs,Tl d)->∃s:List D,s.length=cs.length/\(∀w∈s,K21.plain 3 w)/\ui uS (UP<|oR 0) [] cs=bj (s.map .sh)
 | [],_=>([],rfl,λw hw=>(by cases hw),rfl)
 |d::cs,h=>by
  have(s,l,p,e):=Nf λd hd=>h d<|mCo _ hd;have(c,fs,fd,z,B,wd,rfl,C,u,x):=h d<|bf ..;show(wd::s,by rw[lCq,l];rfl,λw hw=>?_,?_)
  .rcases ag.mp hw with rfl|hw;.show x
   .show p w hw
  .have t:=adj (k:=oR 0) (S:=[bj<|.sh<|.ins c fs]) (S':=[bj<|.sh<|.ins c fs]) C (by rfl) u;change((UP (oR 0) [bj<|.sh<|.ins c fs]).bind λa=>(ui uS (UP<|oR 0) [] cs).map (a.1 :: ·))=_;rw[t,e];rfl
def TL(hl:M.length<=1000)(hc:cs.length<=900)(ha:a<=cs.length)(h:∃N,Rn M (cs.take a) N/\Rn N (cs.drop a) W/\Bd N bd "NotThere" [%["end"|y]]):xT [dM M,.list cs,.int (a:Int),.tup [bd,.tup [.str "there", .int y]]]=i6 t_:=by
 have(N,r1,r2,s):=h;have r:Ref "NotThere" [%["end"|y]] "there" y:=(by trivial,K23.Av y);have l1:(cs.take a).length<=900:=by rw[lTq];lia
 have lt:=LW (ds:=cs.drop a) hl l1 r1 s r t_;have z:=LW (ds:=cs.drop a) hl l1 r1 s r f_;have tl:∀d∈cs.take a++bd::cs.drop a,Tl d:=λd hd=>by
  rcases mAq.mp hd with q|q;.show r1.tl d q
  .rcases ag.mp q with rfl|q;.have(c,fs,fd,E,G,wd,H,C,_,_,I,J):=s.ex;show(c,fs,fd,E,G,wd,H,C,I,J)
   .show r2.tl d q
 have(l,O,P,u):=Nf tl;have s1:wW cs n_ (bj (a:Int))=cs.take a:=ES cs a ha;have s2:wW cs (bj (a:Int)) n_=cs.drop a:=yO cs a ha;have Q:((cs.take a).length+1<=tL)=True:=eq_true<|tY ∅;have R:((cs.take a++[bd]).length+(cs.drop a).length<=tL)=True:=eq_true<|tY<|by simp only[lAq,lTq,au,lSq];lia
 have T:cs.take a++[bd]++cs.drop a=cs.take a++bd::cs.drop a:=by simp
 have x:((cs.take a++bd::cs.drop a).length<=tL)=True:=eq_true<|tY<|by rw[lAq,lCq,lTq,au];lia
 have U:l.length<=1000:=by simp only[O,lAq,lCq,lTq,au];lia
 generalize cs.take a++bd::cs.drop a=S at *;generalize cs.take a=A at *;generalize cs.drop a=B at *;have st:∀L:List D,(L.map AV.sh).map pA=L:=λL=>by
  rw[mPq];have:L.map (pA∘AV.sh)=L.map id:=mCq λd Z=>xk d;rw[this,cW]
 have X:=st S;have Y:=st l;have aw:K13.qb [.list l,.list l]=i6 t_:=K21.alike_refl 4 _ (by lia,P);have sr:pA (xo "there" y) = .list [.str "refused", .list [.tup [.str "there", .int y]]]:=by rfl
 have ar:K13.qb [.list [.str "refused", .list [.tup [.str "there", .int y]]],.list [.str "refused", .list [.tup [.str "there", .int y]]]]=i6 t_:=by rw[←sr];show K13.alike_refl 4 _<|K13.J7 "there" y
 have cM:=K51.Og (rs:=M) ∅;have sM:=tj M;have i0:atI [bd,.tup [.str "there", .int y]] 0=bj bd:=K26.q0 _ _;have i1:atI [bd,.tup [.str "there", .int y]] 1=bj (.tup [.str "there", .int y]):=K26.q1 _ _ _;unfold dM xo at *;have step:∀{t:Bool}{v6:Option AV},yN [.list<|M.map dI,.list S,.bl t]=bj (.ow [.sh<|.str "refused",.ow [.sh<|.tup [.str "there", .int y]]])->vL [i4<|M.map dI,i4 cs,i3 (a:Int),bj<|.sh<|.tup [bd,.tup [.str "there", .int y]],i4 S,bj<|.ow<|l.map .sh,i6 t]=bj (.nx [i4<|M.map dI,i4 cs,i3 (a:Int),bj<|.sh<|.tup [bd,.tup [.str "there", .int y]],i4 S,bj<|.ow<|l.map .sh,i6 t]):=λ{t v6} e=>by simp! [vL,cM,sM,e,K16.agF,i1,ar,x,u,Y,aw]
 have e1:=step (v6:=n_) lt;have e2:=step (v6:=n_) z;have fr:vw 6 vL [.bl t_,.bl f_] [i4<|M.map dI,i4 cs,i3 (a:Int),bj<|.sh<|.tup [bd,.tup [.str "there", .int y]],i4 S,bj<|.ow<|l.map .sh,n_]=bj (.nx [i4<|M.map dI,i4 cs,i3 (a:Int),bj<|.sh<|.tup [bd,.tup [.str "there", .int y]],i4 S,bj<|.ow<|l.map .sh,i6 f_]):=by change(vL [i4<|M.map dI,i4 cs,i3 (a:Int),bj<|.sh<|.tup [bd,.tup [.str "there", .int y]],i4 S,bj<|.ow<|l.map .sh,i6 t_]).bind _=_;rw[e1];change(vL [i4<|M.map dI,i4 cs,i3 (a:Int),bj<|.sh<|.tup [bd,.tup [.str "there", .int y]],i4 S,bj<|.ow<|l.map .sh,i6 f_]).bind _=_;rw[e2];rfl
 simp! [xT,GI,s1,s2,K16.agF,i0,Q,R,T,X,x,u,fr]
end
end K29
namespace K29
open PySem L2 Mr Z Xe Zl
open K23 (xo FJ)
open K26 (IB)
def Fa(ch l:D):Prop:=∃c fs f s n,ch = .ins c fs/\Oo c f s n/\fs.lookup ("other" : Str)=n_/\f [ch]=bj (.sh l)
structure Iv (nm:Ϝ)(m l:Λ)(k:Nat)(cs fr:List D)(M L:Λ):Prop where
 ov:Ov (192+6*k) M L
 r1:Rn m cs M
 r2:Rd l fr L
 ln:cs.length<=k
 fa:cs.length=fr.length/\∀(i:Nat) (a b:D),cs[i]?=bj a->fr[i]?=bj b->Fa a b
 fs:∀i,6+k<=i->i<66->nm.getD i 0∉M.flatten
 nz:(0:Int)∉M.flatten
 pr:∀a,a<=cs.length->∃N K n,Rn m (cs.take a) N/\Rn N (cs.drop a) M/\Ov n N K/\n<=504/\nm.getD 65 0∉N.flatten/\(0:Int)∉N.flatten
def Iv.no(h:Iv nm m l k cs fr M L):Iv nm m l (k+1) cs fr M L:=(h.ov.le<|by ac_nf,h.r1,h.r2,by have:=h.ln;rfl',h.fa,λi hi=>h.fs i<|by rfl',h.nz,h.pr)
def ajP{wd}(d:Md wd c fs fd x z B n s t u):K21.plain 3 wd:=by
 obtain⟨w,H,rfl,rfl|⟨y,rfl,_⟩|⟨y,I,J,rfl,E,G,_⟩⟩:=d.wo;.show pl3 ⋯ λd hd=>by cases hd
 .show aih
 .show ahN E G
def Iv.yes{wd:D}{c}{fs}(hk:k<52)(T:nm.length=66)(I:nm.Nodup)(J:∀x∈nm,1<=x)(h:Iv nm m l k cs fr M L)(d:Md wd c fs fd P S E s u G H)(dn:Dn (192+6*k) (nm.getD (6+k) 0) M (.ins c fs) fd P W)(t:u [.ins E s,dM L]=bj (.ok<|.ow<|X.map aI))(o:Ov (192+6*k+6) W X):Iv nm m l (k+1) (cs++[.ins c fs]) (fr++[.ins E s]) W X:=by
 have g:∀i,i<66->nm[i]?=bj (nm.getD i 0):=λi hi=>by
  rw[gDq,gEg ∅];rfl
 have po:∀i,i<66->1<=nm.getD i 0:=λi hi=>J _<|mGq<|g i hi;have ne:∀i,6+(k+1)<=i->i<66->nm.getD i 0≠nm.getD (6+k) 0:=λi Q z e=>by
  have a:=g i z;have b:=g (6+k) ∅;rw[e]at a;have:=(ju ∅ I).mp<|a.trans b.symm;lia
 have s:∀i,6+(k+1)<=i->i<66->nm.getD i 0∉W.flatten:=λi Q z q=>by
  rcases dn.sub _ q with q|q|q;.show h.fs i (by rfl') z q
  .show ne i Q z q
  .have:=po i z;have:=po (6+k) ∅;lia
 have nz:(0:Int)∉W.flatten:=λq=>by
  rcases dn.sub _ q with q|q|q;.show h.nz q
  .have:=po (6+k) ∅;lia
  .have:=po (6+k) ∅;lia
 have(b,hb):=dn.bk;have O:On M (.ins c fs) W:=(_,_,_,_,_,_,b,rfl,d.C,dn.dn,hb,d.tl,ajP d);have(f,f',U,_,e1,_):=d.oo;show(o.le<|by rfl',h.r1.app<|.cons O .nil,h.r2.app<|.cons (_,_,_,_,_,rfl,d.C',t) .nil,by rw[lAq,lSq];have:=h.ln;rfl',(by rw[lAq,lAq,h.fa.1];rfl,λi x y t B=>?_),s,nz,λa ha=>?_)
 .by_cases q:i<cs.length
  .rw[gZq q]at t;rw[gZq<|by rw[←h.fa.1];show q]at B;show h.fa.2 i x y t B
  .rw[gYq ∅]at t;rw[gYq<|by rw[←h.fa.1];lia,←h.fa.1]at B;have hi:i-cs.length=0:=by have:=(gSq.mp t).1;rw[lSq]at this;lia
   rw[hi]at t B;cases t;cases B;show(_,_,f,_,_,rfl,U,d.l1,e1)
 .rw[lAq,lSq]at ha;by_cases q:a<=cs.length
  .have(N,K,n,Y,a2,a3):=h.pr a q;show(N,K,n,?_,?_,a3);.rw[gh q];show Y
   .rw[gf q];show a2.app<|.cons O .nil
  .have R:a=(cs++[D.ins c fs]).length:=by rw[lAq,lSq];lia
   show(W,X,_,?_,?_,o,by lia,s 65 ∅<|by rfl',nz);.rw[R,bw];show h.r1.app<|.cons O .nil
   .rw[R,cU];show .nil
abbrev lst(v0:Option AV)(nm:Ϝ)(m:Λ)(f:Bool)(v4:Option AV)(M:Λ)(cs:List D)(cl:Ϝ)(v8 v9 v10 v11:Option AV):AS:=[v0,bj<|.sh<|dI nm,bj<|.sh<|dM m,i6 f,v4,bj<|.sh<|dM M,bj<|.ow<|cs.map .sh,bj<|aI cl,v8,v9,v10,v11,n_,n_,n_]
def ZR(u:nm.length=66)(B:nm.Nodup)(n:∀x∈nm,1<=x)(hc:cl.length<=52)(hk:k<cl.length)(h:Iv nm m l k cs fr M L):∃s E P L' w9 G H,Iv nm m l (k+1) s E P L'/\AF (lst v0 nm m f v4 M cs cl (i3 (k:Int)) v9 v10 v11)=bj (.nx<|lst v0 nm m f v4 P s cl (i3 (k:Int)) w9 G H):=by
 have Q:nm[6+k]?=bj (nm.getD (6+k) 0):=by
  rw[gDq,gEg ∅];rfl
 have hz:=n _<|mGq Q;have o:=h.ov;have ln:=o.s1.ln ∅;have fl:=o.s1.fl;have nz:=h.fs (6+k) (ae _) ∅;have i1:atI (nm.map D.int) ((6+k:Nat):Int)=bj (.int<|nm.getD (6+k) 0):=zZ<|by rw[gMq,Q];rfl
 have R:(6:Int)+(k:Int)=((6+k:Nat):Int):=rfl;have S:atI (cl.map D.int) (k:Int)=bj (.int cl[k]):=zZ<|by rw[gMq,gEg hk];rfl
 have(wd,w,e1):=K26.words_ok (c:=cl[k]) (b:=f) (M:=M) (z:=nm.getD (6+k) 0) ∅ ∅;have(c,fs,fd,fb,ft,c',I,fd',fb',ft',d,ac):=adZ o ∅ nz ∅ w;have(T,lL):=o.lands ∅;have ma:=d.ma;have U:=K51.Og (rs:=M) ∅;have Y:=tj M;have sc:=rG cl;have st:∀L:List D,(L.map AV.sh).map pA=L:=λL=>by
  rw[mPq];have:L.map (pA∘AV.sh)=L.map id:=mCq λd Z=>xk d;rw[this,cW]
 rcases ac with⟨q,es,w',y,h1,h2,r,t⟩|⟨W,X,dn,t,ov⟩
 .have dn:=Vd d.C h1 r;have J:=MY o ∅ d<|adg T<|Vd d.C' t r;have q0:∀l:List D,atI (D.str "refused" :: l) 0=bj (.str "refused"):=λl=>K26.q0 _ _;have O:=K26.dq "refused" "map" rfl;show(cs,fr,M,L,bj<|.sh wd,bj<|.sh<|.ins c fs,bj<|xo w' y,h.no,?_);unfold lst;unfold xo dM dI at *;simp! [AF,sc,S,R,i1,e1,ma,U,Y,dn,J,q0,O]
 .have dD:=K26.V8 d.C dn.dn;have lx:=ov.s2.ln ∅;have fx:=ov.s2.fl;have J:=MY o ∅ d<|aeA T (K26.V8 d.C' t) (ov.lands ∅).1 ∅ ∅;have q0:∀l:List D,atI (D.str "map" :: l) 0=bj (.str "map"):=λl=>K26.q0 _ _;have q1:atI [D.str "map", dM W] 1=bj (dM W):=K26.q1 _ _ _;have O:=K26.dt "map";have sW:=tj W;have lc:(cs.length<tL)=True:=eq_true<|UI<|by have:=h.ln;lia
  have ap:cs.map AV.sh++[.sh<|.ins c fs]=(cs++[D.ins c fs]).map .sh:=by rw[mBq];rfl
  show(cs++[.ins c fs],fr++[.ins c' I],W,X,bj<|.sh wd,bj<|.sh<|.ins c fs,bj<|.ow [.sh<|.str "map",.sh<|dM W],h.yes ∅ u B n d dn t ov,?_);unfold lst;unfold FJ dM dI at *;simp! [AF,sc,S,R,i1,e1,ma,U,Y,dD,sW,J,q0,q1,O,lc,ap]
def Sn(u:nm.length=66)(z:nm.Nodup)(B:∀x∈nm,1<=x)(J:cl.length<=52)(h:Iv nm m l 0 [] [] m l):∃cs fr M L v8 v9 v10 v11,Iv nm m l cl.length cs fr M L/\vw 8 AF (sV 0 cl.length) (lst v0 nm m f v4 m [] cl n_ n_ n_ n_)=bj (.nx<|lst v0 nm m f v4 M cs cl v8 v9 v10 v11):=by
 have key:=Ai (x:=8) (body:=AF) (λi S=>∃cs fr M L v8 v9 v10 v11,Iv nm m l i cs fr M L/\S=lst v0 nm m f v4 M cs cl v8 v9 v10 v11) (ds:=sV 0 cl.length) (S:=lst v0 nm m f v4 m [] cl n_ n_ n_ n_) ([],[],m,l,n_,n_,n_,n_,h,rfl) (by rintro i d S hd ⟨cs,fr,M,L,v8,v9,v10,v11,h,rfl⟩;rw[DR,gMq]at hd;have(k,hk,rfl):=oMq.mp hd;have(n,s):=gSq.mp hk;rw[bo]at n;rw[List.getElem_range]at s;subst s;have(E,G,O,P,Q,H,I,t,e):=ZR (v0:=v0) (v4:=v4) (v9:=v9) (v10:=v10) (v11:=v11) (f:=f) u z B J n h;show(_,e,E,G,O,P,_,Q,H,I,t,rfl));have(R,e,cs,fr,M,L,v8,v9,v10,v11,t,rfl):=key;rw[uJ]at t;show(cs,fr,M,L,v8,v9,v10,v11,t,e)
theorem Q3:∀{cs fr:List D},cs.length=fr.length->(∀(i:Nat) a b,cs[i]?=bj a->fr[i]?=bj b->Fa a b)->ui uS (Qi<|oR 0) [] cs=bj (fr.map .sh)
 | [],[],_,_=>rfl
 |a::cs,b::fr,l,h=>by
  have e:=Q3 (cs:=cs) (fr:=fr) (by simpa using l) λi a b x y=>h (i+1) a b x y;have(c,fs,f,u,n,rfl,o,hl,s):=h 0 a b rfl rfl;have t:=abP (k:=oR 0) (S:=[bj<|.sh<|.ins c fs]) (S':=[bj<|.sh<|.ins c fs]) o hl (by rfl) s;change((Qi (oR 0) [bj<|.sh<|.ins c fs]).bind λa=>(ui uS (Qi<|oR 0) [] cs).map (a.1 :: ·))=_;rw[t,e];rfl
def tl5:MS:=(oZ (pU 12<|wH (Bu<|oR 6) [] uS<|Qi<|oR 0)
 (oZ (wm (uK<|tG<|rK K13.qb<|oC (rOf<|pd (okX K29.vn)<|oz (pd K15.rR<|oz (oR 2) oS)<|oz (oR 12) oS)<|oC (rOf<|pd K15.rR<|oz (oR 5) oS) oW) (ql<|kSc<|rC<|.bl f_) pZ)
 (oZ (pU 13<|pd K51.Ar<|oz (oR 2) oS)
 (oZ (wm (L8 (uK<|tG<|rK K13.qb<|oC (rOf<|pd (okX K29.vn)<|oz (oR 13)<|oz (Dk<|vq 6) oS)<|oC (oE 5) oW)<|uK<|tG<|rK K13.qb<|oC (oE 13)<|oC (oE 2) oW) (ql<|kSc<|rC<|.bl f_) pZ)
 (oZ (pU 14<|rV<|oz (kSc<|rK Zl.ph<|oC (oE 0)<|oC (rC<|.int 3) oW)<|oz (kSc<|rK Zl.ph<|oC (oE 0)<|oC (rC<|.int 4) oW) oS)
 (oZ (wm (tG<|oE 3) (pU 14<|rV<|oz (kSc<|rK Zl.ph<|oC (oE 0)<|oC (rC<|.int 5) oW)<|oz (kSc<|rK Zl.ph<|oC (oE 0)<|oC (rC<|.int 6) oW) oS) pZ)
 (ql<|kSc<|rK K29.xT<|oC (oE 2)<|oC (oE 6)<|oC (qE xh (qE Gw (oE 14)<|rC<|.int 0)<|qE yf (yK vJ<|oC (oE 6) oW)<|rC<|.int 1)<|oC (rOf<|pd K29.zU<|oz (kSc<|qE Gw (oE 14)<|rC<|.int 1)<|oz (kSc<|qE Gw (oE 1)<|rC<|.int 65) oS) oW)))))))
def Rb(hnm:nm.length=66)(hc:cl.length<=52)(t:Ov 192 m l)(h:Iv nm m l cl.length cs fr M L):tl5 (lst (bj<|.sh<|.scr ns) nm m f v4 M cs cl v8 v9 v10 v11)=bj (.rt<|.sh<|.bl t_):=by
 have E:=Q3 h.fa.1 h.fa.2;have ln:=h.ov.s1.ln ∅;have ln0:=t.s1.ln ∅;have lnl:=t.s2.ln ∅;have lnL:=h.ov.s2.ln ∅;have f0:=t.s1.fl;have fM:=h.ov.s1.fl;have fL:=h.ov.s2.fl;have lcs:=h.ln;have(la,_):=t.lands ∅;have(lb,_):=h.ov.lands ∅;have G:=IU ∅ h.r2;have H:=IU ∅ h.r1.rd;have I:K13.qb [dM L,dM L]=i6 t_:=K13.alike_refl 4 _<|K13.J1 1 L ∅ ∅;have J:K13.qb [dM M,dM M]=i6 t_:=K13.alike_refl 4 _<|K13.J1 1 M ∅ ∅;have O:K13.qb [dM m,dM m]=i6 t_:=K13.alike_refl 4 _<|K13.J1 1 m ∅ ∅;have P:=K51.Og (rs:=m) ∅;have Q:=tj m;have R:=tj M;have S:=tj L;have T:=tj l;have st:∀L:List D,(L.map AV.sh).map pA=L:=λL=>by
  rw[mPq];have:L.map (pA∘AV.sh)=L.map id:=mCq λd Z=>xk d;rw[this,cW]
 have sc:=st cs;have sf:=st fr;have U:(cs.length<=tL)=True:=eq_true<|tY ∅;have cN:∀(k:Nat),ph [.scr ns,.int (k:Int)]=i3 (cell ns k):=λk=>by
  have:=EJ ns (k:=(k:Int))<|by rfl'
  rwa [eI]at this
 have X:ph [.scr ns,.int 3]=i3 (cell ns 3):=cN 3;have Y:ph [.scr ns,.int 4]=i3 (cell ns 4):=cN 4;have c5:ph [.scr ns,.int 5]=i3 (cell ns 5):=cN 5;have c6:ph [.scr ns,.int 6]=i3 (cell ns 6):=cN 6;have gz:nm[65]?=bj (nm.getD 65 0):=by
  rw[gDq,gEg<|by ac_nf];rfl
 have az:atI (nm.map D.int) 65=bj (.int<|nm.getD 65 0):=zZ (j:=65)<|by rw[gMq,gz];rfl
 have fin:∀a b:Int,∃j s,xh (.int a) (.int<|(cs.length:Int)+1)=bj (.int j)/\zU [.int b,.int<|nm.getD 65 0]=bj (.sh s)/\xT [dM m,.list cs,.int j,s]=i6 t_:=λa b=>by
  have p0:0<=a % ((cs.length:Int)+1):=bB _ ∅;have p1:a % ((cs.length:Int)+1)<(cs.length:Int)+1:=bz _ ∅;have(s,y,e1,e2):=aiy b<|nm.getD 65 0;show(a % ((cs.length:Int)+1),_,uW ∅,e1,?_);have(N,K,n,a1,a2,a3,a4,a5,a6):=h.pr (a % ((cs.length:Int)+1)).toNat ∅;have:=TL (a:=(a % ((cs.length:Int)+1)).toNat) ∅ ∅ ∅ (N,a1,a2,e2 a3 a4 a5 a6);rwa [Int.toNat_of_nonneg p0]at this
 have q0:∀a b:D,atI [a,b] 0=bj a:=λa b=>K26.q0 _ _;have q1:∀a b:D,atI [a,b] 1=bj b:=λa b=>K26.q1 _ _ _;unfold lst;generalize nm.getD 65 0=z at *;cases f with
 |true=>
  have(j,s,u,x,B):=fin (cell ns 5)<|cell ns 6;unfold dM dI at *;simp! [tl5,sc,U,E,la,T,sf,G,S,lb,I,P,Q,H,R,J,O,X,Y,c5,c6,q0,q1,u,az,x,B]
 |false=>
  have(j,s,u,x,B):=fin (cell ns 3)<|cell ns 4;unfold dM dI at *;simp! [tl5,sc,U,E,la,T,sf,G,S,lb,I,P,Q,H,R,J,O,X,Y,q0,q1,u,az,x,B]
end K29
namespace K26
open PySem L2 Mr Z Xe Zl
def ag1(nd:T.flatten.Nodup)(neg:∀z∈T.flatten, -z∈T.flatten)(le:T.flatten.length<=126)(len:T.length<=120):Gd (gm T)/\(gm T).flatten.Perm T.flatten/\(gm T).length=T.length:=by
 have fl:(gm T).flatten.Perm T.flatten:=Ha<|wM nd;have l:(gm T).length=T.length:=by rw[Al,lMq]
 have s:=fl.length_eq;show(((Wj nd,by lia,by lia,λe n=>fl.mem_iff.mpr<|neg e<|fl.mem_iff.mp n),wM nd,by lia,bh eP ∅),fl,l)
end K26
namespace K29
open PySem L2 Mr Z Xe Zl
open K26 (gm ag1)
def iv0(nd:T.flatten.Nodup)(ng:∀z∈T.flatten, -z∈T.flatten)(nz:∀z∈T.flatten,z≠0)(t:4*bare T+3*T.flatten.length<=192)(ln:T.length<=120)(fr:∀i,6<=i->i<66->nm.getD i 0∉T.flatten):∃l,Ov 192 (gm T) l/\Iv nm (gm T) l 0 [] [] (gm T) l:=by
 have(g,p,e):=ag1 nd ng ∅ ln;have u:=p.length_eq;have b:bare (gm T)=bare T:=K25.Kg T;have(l,o):=Sz.ov (n:=192) (M:=gm T) (g,by lia,by rw[b,u];show t) ⋯;have s:(0:Int)∉(gm T).flatten:=λq=>nz 0 (p.mem_iff.mp q) rfl;have fs:∀i,6<=i->i<66->nm.getD i 0∉(gm T).flatten:=λi x B q=>fr i x B<|p.mem_iff.mp q;show(l,o,(o,.nil,.nil,ae _,(rfl,λi a b h=>by cases h),λi h=>fs i<|by rfl',s,λa ha=>(gm T,l,192,?_,?_,o,by decide,fs 65 ⋯ ⋯,s)));.rw[show a=0 from Nat.le_zero.mp ha];show .nil
 .rw[List.drop_nil];show .nil
def ahW(hns:ns.length<=63):U6 [.scr ns]=i6 t_:=by
 have(st,sh,a,b,h1,h1',U,h2',h3,h4,en):=K12.aaQ ns;have s:=K12.aio (b:=b) h1 h1' U h2' h3 h4;generalize K12.nms st sh a b=nm at en s;have E:wW ns (bj 5) (bj 11)=(ns.drop 5).take 6:=Lj ns 5 11;have hl:((ns.drop 5).take 6).length<=6:=by rw[lTq];lia
 have H:wW ns (bj 11) (bj 63)=(ns.drop 11).take 52:=Lj ns 11 63;have hc2:wW ns (bj 7) (bj 59)=(ns.drop 7).take 52:=Lj ns 7 59;have t:((ns.drop 11).take 52).length<=52:=by rw[lTq];ac_nf
 have B:((ns.drop 7).take 52).length<=52:=by rw[lTq];lia
 generalize (ns.drop 5).take 6=cs at E hl;generalize (ns.drop 11).take 52=cl1 at H t;generalize (ns.drop 7).take 52=cl2 at hc2 B;have(P,u,ep,pp,hu,l1,l2):=K12.Xs (nm:=nm) (cs:=cs) ∅ s.len;have hP:=K12.ala s pp ∅ ∅ ∅;have sP:=K12.WE P;have he:=hP.le;have sN:=rG nm;have fl:rL [.list<|P.map dM]=bj (K13.oM P.flatten):=K13.ah9 (ms:=P) ∅;have so:=K13.abd P.flatten;have mo:K13.za [dM P.flatten]=bj (.ow<|(gm P.flatten).map aI):=K13.UF (rs:=P.flatten) (λr hr=>by have:=Ck hr;lia)<|tY ∅;have cN:∀(k:Nat),ph [.scr ns,.int (k:Int)]=i3 (cell ns k):=λk=>by
  have:=EJ ns (k:=(k:Int))<|by rfl'
  rwa [eI]at this
 have c0:ph [.scr ns,.int 0]=i3 (cell ns 0):=cN 0;have m2:=uW (i:=cell ns 0) (j:=2) ⋯;have l2':((2:Nat)=2)=True:=eq_true rfl;have sG:=tj<|gm P.flatten;have sc1:=rG cl1;have sc2:=rG cl2;have X:∀{cl:Ϝ},cl.length<=52->J9 [.int (cl.length:Int)]=bj (sV 0 cl.length):=λ{cl} h=>zT (n:=cl.length) ∅;have lw:ab8=(oZ (pU 1<|pd K12.Ab<|oz (oR 0) oS)
  (oZ (pU 2<|pd K13.za<|oz (pd Zl.rL<|oz (pd K12.BS<|oz (JJ (vq 0) (ud<|rC<|.int 5)<|ud<|rC<|.int 11)<|oz (oR 1) oS) oS) oS)
  (oZ (pU 3<|kSc<|qE Ep (qE xh (rK Zl.ph<|oC (oE 0)<|oC (rC<|.int 0) oW)<|rC<|.int 2)<|rC<|.int 1)
  (oZ (wm (tG<|oE 3) (oZ (Vb [4,1]<|pd K16.G6<|oz (oR 0) oS)<|pU 2<|pd K13.za<|oz (oR 4) oS) pZ)
  (oZ (pU 5<|oR 2)
  (oZ (pU 6<|rV oS)
  (oZ (pU 7<|JJ (vq 0) (ud<|rC<|.int 11)<|ud<|rC<|.int 63)
  (oZ (wm (tG<|oE 3) (pU 7<|JJ (vq 0) (ud<|rC<|.int 7)<|ud<|rC<|.int 59) pZ)
  (oZ (DB 8 (oC (yK vJ<|oC (oE 7) oW) oW) AF) tl5))))))))):=rfl;by_cases q:cell ns 0 % 2=1
 .have dq:decide (cell ns 0 % 2=1)=t_:=d0 q;have(T,I,ea,Y,ln,J,hd):=K16.ai6 ns;have hTl:=Y.len;have hTe:=Y.le;have hb:bare T<=3:=Y.br;have g:∀i,i<66->I[i]?=bj (I.getD i 0):=λi hi=>by
   rw[gDq,gEg<|by ac_nf];rfl
  have(l,o,iv):=iv0 (nm:=I) (T:=T) Y.nd Y.neg Y.nz ∅ ∅ λi h1 U=>(J _<|mGq<|g i U).2;have mT:K13.za [dM T]=bj (.ow<|(gm T).map aI):=K13.UF (rs:=T) (λr hr=>by have:=Ck hr;lia)<|tY ∅;have sT:=tj<|gm T;have(cs',fr,M,L,v8,v9,O,Q,R,e):=Sn (v0:=bj<|.sh<|.scr ns) (v4:=bj<|.sh<|dM T) (f:=t_) ln hd (λx h=>(J x h).1) B iv;have S:=Rb (ns:=ns) (f:=t_) (v4:=bj<|.sh<|dM T) (v8:=v8) (v9:=v9) (v10:=O) (v11:=Q) ln B o R;have X:=X B;unfold lst at e S;generalize gm T=G at *;generalize gm P.flatten=G' at *;unfold dM dI at *;unfold aI at e S;rw[cL]at e;simp! -implicitDefEqProofs [U6,lw,en,zp,E,ep,sP,sN,fl,so,mo,c0,m2,dq,ahL,ea,ak1,aed,aei,l2',mT,sG,sT,H,hc2,sc2,X,e,S]
 .have dq:decide (cell ns 0 % 2=1)=f_:=d4 q;have g:∀i,i<66->nm[i]?=bj (nm.getD i 0):=λi hi=>by
   rw[gDq,gEg<|by have:=s.len;ac_nf];rfl
  have lo:∀x∈nm,1<=x:=λx h=>by have:=s.lo x h;rfl'
  have pl:=pp.length_eq;have hf:P.flatten.flatten.length<=12:=by
   rw[pl,K12.GK<|by have:=s.len;lia];lia
  have hb:bare P.flatten<=7:=bh eP ∅;have mem:∀z∈P.flatten.flatten,∃x∈nm.take u,z=x∨z = -x:=λz hz=>K12.GN.mp<|pp.mem_iff.mp hz;have(l,o,iv):=iv0 (nm:=nm) (T:=P.flatten) hP.nd hP.ng (λz hz=>by have(x,J,e):=mem z hz;have:=lo x<|bg J;lia) ∅ ∅ λi h1 U hz=>by
   have(x,J,e):=mem _ hz;have a1:=lo x<|bg J;have a2:=lo _<|mGq<|g i U;have ex:x=nm.getD i 0:=by lia
   have nd:=s.nd;rw[←aZ u nm,nAq]at nd;show nd.2.2 x J _ (mGq (i:=i-u)<|by rw[dF,show u+(i-u)=i by lia];show g i U) ex
  have(cs',fr,M,L,v8,v9,O,Q,R,e):=Sn (v0:=bj<|.sh<|.scr ns) (v4:=n_) (f:=f_) s.len s.nd lo t iv;have S:=Rb (ns:=ns) (f:=f_) (v4:=n_) (v8:=v8) (v9:=v9) (v10:=O) (v11:=Q) s.len t o R;have X:=X t;unfold lst at e S;generalize gm P.flatten=G at *;unfold dM dI at *;unfold aI at e S;rw[cL]at e;simp! -implicitDefEqProofs [U6,lw,en,zp,E,ep,sP,sN,fl,so,mo,c0,m2,dq,sG,H,sc1,X,e,S]
end K29
namespace K29
open PySem L2 Mr Z Xe
def aiq{l:W.OpenLaw}{w:kB}{K:Ζ}{h:Heap}{mg:Str->Υ}{fa P_ T_ C_ D_ F_ Z_ G_:Addr}(X:K.In h)(G:h.Ns kr mg)(hfa:mg "law" = bj (.ref fa))(a77:W.nsIn K kr "law" = bj (bj<|.ref f77)) (l77:K.lookup f77=bj (oc77,od77,.func<|W.fnOf "law" "law" (vg Fu) (tH Fu) (oI Fu) .none kV77 dc77 pm77 an77 cd77 ct77,sl77)) (c77:W.codeIn K cd77 "law" = t_) (k77:W.keepIn K (.ref f77)=t_)(E:∀base,E_ l.prog w K mg base P_ T_ C_ D_ F_ Z_ G_):∃fd:kz,(∀(s:ke) (v:Value),nr s fd ([v],[]) [%["_law_script"|v]])/\∀base:Heap,K.In base->base.Ns kr mg->zD l.prog w K mg base Rl 14 fa fd ["_law_script"] (Vv K):=by
 have e:=hfa.symm.trans<|W.mg_of X G a77;cases e;show(W.fnOf "law" "law" (vg Fu) (tH Fu) (oI Fu) .none kV77 dc77 pm77 an77 cd77 ct77,λs v=>.of_eq rfl,λbase Q Q=>(aj1 (E base) (xg l77 c77 k77,W.mg_of X G a77,b1<|xg l77 c77 k77)).ok.imp<|aeF λns h=>ahW h)
def anL{l:W.OpenLaw}{G:(Str->Υ)->Heap->Prop}{K:Params->Ζ}(hn:l.most=bj 63)(B:d.params.defaults=[])
  (H:∀w h,E w h->(K w.params).In h)
  (F:∀w (mg:Str->Υ) fa h,(K w.params).In h->h.Ns kr mg->mg d.name=bj (.ref fa) ->
   ∃fd:kz,(∀s u,nr s fd ([u],[]) [%["_law_script"|u]])/\∀base:Heap,(K w.params).In base->base.Ns kr mg->zD l.prog w (K w.params) mg base Rl 14 fa fd ["_law_script"] (Vv<|K w.params)) :
  W.WalkO q t G E l.row.toRowW d []<|λf vs=>PySem.call f vs:=L2.adF (n:=63) (k:=14) (x:= "_law_script") (CX:=λQ=>Rl) (sp:=λw=>Vv<|K w.params) hn ⋯ B (rfl,by decide,by decide) H F (λQ Q a ns hl Q I=>(a,ns,rfl,I,hl,λQ=>rfl)) λQ Q Q Q Q z=>z
end K29
structure PySem.W.Fast:Prop where(tw10516419895223998279 tw7286017361376340950 tw4618600075354089475 tw1231799468757078762 tw2569557115415676079 tw8935605467530033680 tw6862119944177710567 tw13488972024332986407 tw11332410228378616943 tw12880217886870773644 tw13368111664931191957 tw13855654260405361142 tw7981789603171232247 tw3376304403487420659 tw16236430738153294625 tw7004685324356121526 tw1872354165630373301 tw12532378837801349057 tw5961735880826843568 tw6645692003717821532 tw2469396314560372010 tw18086726112496399466 tw185685102995585623 tw8781774008865939621 tw8784260225559929152 tw8146137789489393745 tw3690528167487882011 tw448257012140752810 tw14451856254093314846 tw5219630708768396228 tw8827618665703417100 tw13893650629819862510 tw5389575050195242853 tw14181125820085771820 tw14004189406905383546 tw11224187343601464931 tw15459554858776876568 tw8167631220695686766 tw5417301176544177931 tw13562692115677234518 tw16289823053298738893 tw4980138616384251637 tw4526748443374184561 tw16245538024124082193 tw13720901487640177160 tw12246940463663791138 tw2034501588568166544 tw4183405314135833271 tw5221894475093562537 tw15579000646220349119 tw17215985140138309692 tw9773662193661314782 tw6080024361586155879 tw8232852394557688525 tw9408850899421364137 tw13149303143082785262 tw12535082046508508794 tw1094322738886330793 tw13518747898138475185 tw13031401388335065724 tw5034962212292761851 tw2381592303743598833 tw15989391643415749420 tw12060514273706066013 tw13935747519439309407 tw4211592735912586392 tw12682967909582394989 tw11258774908308474826 tw2461362953887184209 tw9981418234024086711 tw8288407403128760376 tw3963638594668642046 tw15301220363587403129 tw16166554863041537554 tw1337749950590371669 tw6039328529247540737 tw6265317891921833398 tw14866772252349855523 tw12191338507867509165 tw7527062534758358528 tw10708086724522529531 tw5311347251107260401 tw17658426496993102904 tw15362247975106101166 tw15089426183492965602 tw17364887314210882326 tw10175072242118420685 tw6441475208635837844 tw17255771315094370581 tw3461086464516699056 tw15939197397133352974 tw12443968759809323142 tw3225161336898951154 tw8326624016094516889 tw6621744773928942114 tw10120636766417861315 tw6945708881659810064 tw15187580109001280497 tw4172453287256646090 tw13104614778349059652 tw12492795032260721361 tw15356152018737884100 tw11698498678124328972 tw14016442828087770401 tw5044334961258425263 tw8150250402688373593 tw14193858799000796396 tw5190870743058578549 tw16745412832015647762 tw6774479381799592553 tw5625290444336178188 tw4326560512951643123 tw17039530752429665390 tw8380891448575085692 tw17782906319101376258 tw7223275048798758798 tw11684678222635557306 tw12181585488237452869 tw5497286557408173094 tw11177503974906083281 tw6570825857428935660 tw16051116664693793234 tw13804007474101600636 tw1602957328432327397 tw11907800048822616124 tw14622385943002588913 tw16412469706202996290 tw1613395457906128583 tw4851049129340792421 tw17683791327867562642 tw17302356217320536458 tw16552866350658293153 tw15551517931401754047 tw12319538789204588683 tw2038734317868324607 tw18118645243856581431 tw15578499870606148868 tw1545907210823083596 tw15503782299528456460 tw10967375827344558068 tw9207068738463456214 tw9856130999863786732 tw2067500266933337189 tw17066220221448586177 tw6299167317047986652 tw5152105284906851108 tw10697211309954515175 tw11272068355706219317 tw17812746967048758663 tw16450404427834524300 tw5981862429107345485 tw7379581989921533452 tw11937611039484555294 tw6422477615796073644 tw2327528595953529586 tw10659932668568685802 tw9534583467494440392 tw3450578819898265449 tw5146567991175073496 tw15831793126396661280 tw5117982265132960737 tw3136977926080487382 tw4575575640400924417 tw118530172770468183 tw7688764118365853220 tw4236715197003443020 tw13914316731566201792 tw17291880539481993316 tw976273232147354610 tw9562815528029123189 tw1702570065275559454 tw1343215839784284136 tw17341962735156852276 tw1268089093571896512 tw16498335737989266605 tw1216976573019176159 tw12634040709529911745 tw8423935172394829087 tw9248469583199477318 tw16948292946729758113 tw1280749597699292376 tw15040481563105762127 tw12851216729818937342 tw6474333129084925937 tw2349296688149514271 tw15477813405488824819 tw4541587822942652314 tw1116818867060368949 tw16057755841114562691 tw8788950158256238384 tw16723048579180904032 tw5926393861740519179 tw10899433626050094899 tw2696154030948566518 tw13579235283325749149 tw13705028463546050732 tw8169118049177241367 tw12584183253178097503 tw17526341584348757022 tw17867756068290138178 tw15563730094393103892 tw11240761381200598693 tw9855488434527699117 tw4459814225227949503 tw9672505205709479572 tw4097516431972883897 tw11620418314450381074 tw2959248906730404866 tw5978436665492599203 tw15826165880338389904 tw14752115621566993853 tw6486606208958064998 tw2750414855115788391 tw2426471986677619817 tw8264137307007338178 tw372267033621954710 tw370561591614763365 tw6069400317819780060 tw11287416043699009667 tw9005835636122972940 tw7555919279938788371 tw6804604986394074388 tw12584962672513134333 tw2022773572740615712 tw17678532812641899719 tw17630447748166778972 tw4985210729784623691 tw324211855312832335 tw15695139551047595054 tw13041342069784830446 tw17582492372634085049 tw14136185030646735142 tw8417912099952753019 tw14119859594341294613 tw4945970508284320897 tw699432812309353764 tw15331535160875113521 tw86342383272130967 tw15851504195891936107 tw130383920320669783 tw12524680307306138251 tw9599841797822560781 tw1306189646841646071 tw8830257749429152716 tw2107558823057167990 tw7527108274691610894 tw14203719977811383655 tw11489717291710276469 tw3291616938140363147 tw5107488561937052178 tw9164898585789910169 tw6276394592324066943 tw8640262501246471134 tw1676575914251969806 tw17757508609917438554 tw5315329644759306030 tw10768595621715789652 tw8424019721566706683 tw9593440880397817135 tw12528661448524012408 tw1605595078391265097 tw3651263472221630328 tw7151350919489796249 tw18174779246468992054 tw10742994645441301728 tw9360243732779136575 tw14762664627700442939 tw14524792971224345559 tw9286072533273905521 tw9647802418453056628 tw15405051451104040436 tw13650286271329243793 tw14744064512593164290 tw15403484678343060956 tw15351702003823166239 tw6355989073227621335 tw5557194894303401881 tw17903510448458622052 tw17356656057099189314 tw338050843872982951 tw3124503474303823288 tw5811474019554574305 tw10963474321044597749 tw10654365065509046589 tw10041022092211196179 tw14939989964934948524 tw6442526476650818003 tw2382590239991381641 tw11532931462936715706 tw5997405268590927336 tw10849756696284631711 tw13388704379540169588 tw16918592337998534530 tw9935951965973623004 tw8972531485965878635 tw3498520770844093916 tw13637770057875288705 tw12050415557451119181 tw3393712259773399454 tw3627931419370866768 tw769011473317678294 tw12544260628818727133 tw7771089781263836845 tw15698670921703754759 tw9231954151277255517 tw4109776258908885664 tw17493344072198296813 tw9970745133774872772 tw2932016945996054144 tw10529665193174416883 tw16850788408388295804 tw17399602878667255043 tw4912560948255049656 tw17223063340629618701 tw11911714952786371867 tw14470804578946449069 tw13178936649997962837 tw17463772865351857358 tw5783697178645768935 tw17014693080317710253 tw7020338280286412734 tw4797647442023672714 tw10124536689496522739 tw17633144565027078482 tw16139879394327270656 tw9915292568304728148 tw13684945564951369572 tw924588025505355077 tw7146664630828502942 tw15494472514450757918 tw16284961119470380029 tw9548459445606761461 tw15241105083191096183 tw941202759426006164 tw3092500954836081450 tw6855915718056558628 tw10905332538926617965 tw11872096102887143556 tw5435424964826399680 tw13190210749726637114 tw9964460297696804743 tw5093101478534216487 tw11110047200549264435 tw18406416371305852432 tw1200105893714976125 tw15205507505977755614 tw5770813265788874169 tw9692843004143529889 tw16924079391860354203 tw2437280077752042461 tw1409357382366160603 tw5172052339560449874 tw13388846747050208099 tw11772824706821983451 tw785335891434693866 tw16993882314811748613 tw124019518942172062 tw4234197807231136872 tw10352294748405371877 tw17997737838990518619 tw4417720418508396698 tw1930771830902732606 tw15534896152794688433 tw17982017024194096380 tw14504895199726362639 tw866847618580689985 tw18432561275617446243 tw11594676441411068858 tw10844644917066447686 tw15896136414307690547 tw14136617584727893564 tw4226955445063448777 tw14763360397693877437 tw6722851878663877562 tw16541167934353768696 tw6943483671367187298 tw10179103273558454163 tw15750753931591316407 tw6075853819019862368 tw5986101154545815399 tw6423622256576706470 tw1284009896631554686 tw2152025342084111433 tw5942852137793490451 tw4881238171991613284 tw11749925024676456242 tw8981096495755626598 tw554099683474274759 tw11152624936437058785 tw6117317735909907949 tw4092348337377179730 tw17792208837742249601 tw16423192643711881875 tw12164896655204524451 tw11529938666393719453 tw11226244328532921091 tw9405519390426079921 tw7597086689265076579 tw5133557987051955474 tw3096208175909716015 tw14879414663649020113 tw12157847811684104404 tw3803654759598454061 tw18415033238577632788 tw1329063826998605511 tw3413694930560581316 tw8859518178819836257 tw4019365443075385761 tw8260033673393235433 tw5255537250062254018 tw17799002318757058018 tw10242440006832264329 tw6576213523462210792 tw11352581106835565367 tw9654199587435069569 tw9521011283055092748 tw8440127292025544311 tw8424763087340131451 tw7644037594553485582 tw6524806057498192673 tw5957919266223111158 tw5669095520717747815 tw4461907792339022988 tw3766329307168702490 tw3341806793928909994 tw18361079698503417732 tw14368603824461973003 tw14162203409906957654 tw13704900488467072852 tw13147688951230082263 tw12138520792955435112 tw16449871011295865116 tw11524803201382371617 tw11301702618364325588 tw6678278298512674659 tw10335726057425577876 tw7390094194143509524 tw5116825202971545789 tw4089202340650680721 tw2375835833018401386 tw2300013896718864872 tw1751897641405904626 tw17045204771194506357 tw16796607621015854843 tw16500559932556740227 tw15659803045723099546 tw14685612150706516219 tw13171460017941268763 tw12718856168886109811 tw1254695758443862173 tw12290605515895576362 tw118397044508388995 tw10215903126637935102 tw7313465555368368683 tw8556962853667729152 tw9887241147281210738 tw13328491763779508252 tw8426153256062663919 tw7541815453788287676 tw4387233797747699194 tw3942626810662132446 tw2946012768778464927 tw281612298728549725 tw2814570958870205831 tw17751106426459931197 tw17183491695313265103 tw15099171388066731244 tw14414174884142252197 tw13636819438776913370 tw1243082679282094244 tw9264068246219447991 tw8480653841664787573 tw5634857658866750965 tw3549954041003185378 tw2795908274566168393 tw263918806640455745 tw2536725199057990772 tw248148266147989480:True)
open PySem PySem.W PyProof.Rows
local macro_rules|`(⋯)=>`(by first|k_is|kernel_rfl|(unfold L2.oQ;k_is))
local macro_rules|`(tactic|show $e)=>`(tactic|change $e)
set_option tactic.hygienic true
set_option maxRecDepth 100000 in
set_option maxHeartbeats 0 in
theorem PySem.Challenge.cw_mapround_k29_whole_other_side_holds : PySem.Challenge.rw_mapround_k29_whole_other_side.Holds := by
 w_on;o_law;k_head;(case hw=>w_witness2)
 k_fill
 refine K29.anL (l:=PySem.Challenge.rw_mapround_k29_whole_other_side) rfl rfl (λw h Y=>W.kIn_of Y) ?F
 case F=>
  intro w mg fa h KX G hmg;apply K29.aiq KX G hmg
  all_goals first|exact ⋯|(intro b;constructor;constructor;all_goals first|exact Mr.fE (λ_ _ F=>Mr.b1 F) KX G ⋯ ⋯ ⋯ ⋯|exact Mr.fE (λ_ _ F=>Mr.b2 F) KX G ⋯ ⋯ ⋯ ⋯|exact Mr.fE (λ_ _ F=>Mr.b3 F) KX G ⋯ ⋯ ⋯ ⋯|exact Mr.fE (λ_ _ F=>Mr.b4 F) KX G ⋯ ⋯ ⋯ ⋯|exact Mr.mE (λ_ _ F=>Mr.b1 F) ⋯ ⋯ ⋯ ⋯ ⋯|exact Mr.mE (λ_ _ F=>Mr.b2 F) ⋯ ⋯ ⋯ ⋯ ⋯|exact⟨⟨⋯,⋯,⋯,⋯,⋯⟩,⋯,⋯,⋯⟩|exact⟨⟨⋯,⋯,⋯,⋯,⋯⟩,⋯⟩|exact⟨⋯,⋯,⋯,⋯,⋯⟩|exact⟨⋯,⋯,⋯,W.mg_of KX G ⋯⟩|exact⟨⋯,⋯,⋯,⋯⟩|(constructor<;>exact W.mg_none_of KX G ⋯)|exact⟨_,W.mg_of KX G ⋯⟩|exact W.mg_none_of KX G ⋯|exact W.mg_of KX G ⋯|exact⟨_,_,K29.agl ⟨⋯,⋯,⋯,⋯⟩ (L2.xg ⋯ ⋯ ⋯) ⟨⋯,⋯,⋯,⋯⟩ ⋯ ⋯ ⋯ (W.mg_of KX G ⋯)⟩|exact⟨_,_,K29.abe ⟨⋯,⋯,⋯,⋯⟩ (L2.xg ⋯ ⋯ ⋯) ⟨⋯,⋯,⋯,⋯⟩ ⋯ ⋯ ⋯ (W.mg_of KX G ⋯)⟩|exact⟨_,_,K29.aez ⟨⋯,⋯,⋯,⋯⟩ (L2.xg ⋯ ⋯ ⋯) ⟨⋯,⋯,⋯,⋯⟩ ⋯ (W.mg_of KX G ⋯)⟩|exact⟨_,_,K29.abv ⟨⋯,⋯,⋯,⋯⟩ (L2.xg ⋯ ⋯ ⋯) ⟨⋯,⋯,⋯,⋯⟩ ⋯ (W.mg_of KX G ⋯)⟩|exact⟨_,_,_,_,K29.PV (Z.P5 ⋯ ⋯ ⋯ ⋯ ⋯) ⋯ (L2.xg ⋯ ⋯ ⋯) (W.mg_of KX G ⋯) ⋯ ⋯ ⋯ ⋯ ⋯ ⋯ (W.mg_of KX G ⋯)⟩|exact⟨_,_,_,_,K29.W9 (Z.P5 ⋯ ⋯ ⋯ ⋯ ⋯) ⋯ (L2.xg ⋯ ⋯ ⋯) (W.mg_of KX G ⋯) ⋯ ⋯ ⋯ ⋯ ⋯ ⋯ (W.mg_of KX G ⋯)⟩|exact⟨_,_,Z.WL KX G (Z.P5 ⋯ ⋯ ⋯ ⋯ ⋯) ⋯ ⋯⟩|exact⟨_,_,Z.afM KX G ⋯ ⋯⟩|exact ⋯)
